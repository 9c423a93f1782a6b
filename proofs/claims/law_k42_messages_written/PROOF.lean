import PyProof.Rows.All
import Wide.All
import OpenK.AllK
import Wide.FinOn
import KE.DatumOrd
import HandS.Base
import HandS.Call
import HandS.List
import HandS.SortKw
import HandS.ForMost
import HandS.ForExc
import HandS.Evl
import HandS.Walk
import HandS.IsInst
import HandS.Codes
import HandS.Exc
import HandS.ExcOwn
import HandS.ClsMeth
import HandS.OwnEq
import HandS.Dict
import HandS.DictComp
import HandS.Comp
import PyProof.EqAt
import PyProof.NeKinds
import HandS.DeepEq
import HandS.TupAny
import HandS.Text
import HandS.StrMore
import PyProof.StrLawsAffix
import PyProof.StrLawsChain
import HandS.Flow
import HandS.Conv
import HandS.RaiseMore
import HandS.Style
import HandS.Defaults
import HandS.StrSplit
import HandS.Set
import HandS.SetFor
import HandS.Strs
import PyProof.ListNew
import HandS.Zip
import KE.KOpsOwn
import PyProof.EqKinds
import PyProof.TupleCall
import PyProof.InstNe
import HandS.Wide
import KE.KExcLine
import KE.RegKSuper
import PySem.Challenge.RW_fullseats_k42_messages_written
set_option Elab.async false
set_option linter.all false
set_option maxRecDepth 100000
set_option maxHeartbeats 2000000
/-! max(xs, default=d) of a list of ints -/
namespace FsR
open PySem PySem.Spec PyProof.Rows L2
def maxFrom (y : Int) (ys : List Int) : Int := ys.foldl max y
def maxDef (d : Int) : List Int → Int
  | [] => d
  | y :: ys => maxFrom y ys
theorem maxOf_eq : ∀ (ys : List Int) (y : Int), PySem.W.maxOf y ys = maxFrom y ys
  | [], y => rfl
  | z :: zs, y => by
    have e : (if PySem.W.DatumOrd.lt y z = true then z else y) = max y z := by
      show (if decide (y < z) = true then z else y) = max y z
      by_cases h : y < z
      · rw [if_pos (decide_eq_true h)]; omega
      · rw [if_neg (by simpa using h)]; omega
    have ih := maxOf_eq zs (max y z)
    unfold PySem.W.maxOf maxFrom at *
    rw [List.foldl_cons, List.foldl_cons, e]
    exact ih
theorem readsAll_ints {h : Heap} : ∀ {vs : List Value} {ns : List Int}, IntsAre vs ns → ∃ as, ReadsAll h vs (ns.map PySem.W.Datum.toD) as
  | _, _, .nil => ⟨[], .nil⟩
  | _, _, .cons n t r => by
    obtain ⟨as, z⟩ := readsAll_ints (h := h) r
    exact ⟨[] ++ as, .cons (.int n t) z⟩
/-- max(xs, default=d) -/
def rMaxD (K : PySem.W.Frag) : List V → List V → Hp → VK → Prop := fun xs zs H Q => ∃ (a : Addr) (ns : List Int) (d : Int), xs = [V.ref a] ∧ zs = [V.int d] ∧ SqL K H a (ns.map V.int) ∧ Q (.int (maxDef d ns)) H
theorem ck_maxD {X : Cx} (hc : X.calm = true) (hu : X.A.units + 1 + 1 < cLine) : CallRK X (.builtin "max") ["default"] (rMaxD X.K) := by
  intro pins s σ H xs zs us ws Q I r rz h
  obtain ⟨a, ns, d, rfl, rfl, hs, q⟩ := h
  obtain ⟨its, rv, hl, _⟩ := I.list hs
  rw [Vals.ref1 r]
  cases rz with
  | cons rd rn =>
    cases rn
    obtain ⟨t, rfl⟩ := rd
    have hI := rv.ints
    show wpAny (model X.prog X.w) X.A (call (.builtin "max") [.ref a] [(Str.ofString "default", .int d t)]) _ _ _
    refine PySem.W.max_list_datum_default (α := Int) (xs := ns) (I.ok.hd hc) hl.isList (readsAll_ints hI) (by show X.A.units + 1 + 0 < cLine; omega) (fun e h' tk hk => ?_) (fun y ys i v h' tk e hi hv hk => ?_)
    · subst e
      exact ⟨.int d, H, I.kept hk, ⟨t, rfl⟩, q⟩
    · subst e
      obtain ⟨as, z⟩ := hv
      have z' : ∃ t', v = Value.int (PySem.W.maxOf y ys) t' := by
        have z2 : Reads h' v (.int (PySem.W.maxOf y ys)) as := z
        cases z2 with
        | int _ t' => exact ⟨t', rfl⟩
      obtain ⟨t', rfl⟩ := z'
      refine ⟨.int (PySem.W.maxOf y ys), H, I.kept hk, ⟨t', rfl⟩, ?_⟩
      rw [maxOf_eq]
      exact q
end FsR

set_option Elab.async false
set_option linter.all false
set_option maxRecDepth 100000
set_option maxHeartbeats 2000000
/-! further Ev lemmas -/
namespace FsE
open PySem L2 Evl
section
variable {K : PySem.W.Frag} {σ : L2.St} {H : Hp} {ta tb tc te : TE} {x y z : V}
theorem ev_chain {r r' : R2} {a b : Bool} (ha : Ev ta σ H x) (hb : Ev tb σ H y) (h1 : RV r x y H (.bl a)) (hc : a = true → Ev tc σ H z) (h2 : a = true → RV r' y z H (.bl b)) : Ev (tChain r r' ta tb tc) σ H (.bl (a && b)) := fun H1 e Q q =>
  ha H1 e _ fun H2 e2 => hb H2 (e.trans e2) _ fun H3 e3 => h1 H3 ((e.trans e2).trans e3) _ fun H4 e4 => ⟨a, rfl, by
    cases a with
    | true =>
      show tc σ H4 _
      exact hc rfl H4 (((e.trans e2).trans e3).trans e4) _ fun H5 e5 => h2 rfl H5 ((((e.trans e2).trans e3).trans e4).trans e5) Q fun H6 e6 => q H6 ((((e2.trans e3).trans e4).trans e5).trans e6)
    | false =>
      show Q (.bl false) H4
      exact q H4 ((e2.trans e3).trans e4)⟩
theorem rc_isi {t T : String} {b : Bool} (ht : ∀ H1, Ex H H1 → TyX K H1 x (.type t)) (hk : kitB t T = some b) : RC (rIsi K) [x, .ty T] H (.bl b) := fun H1 e Q q =>
  ⟨x, .ty T, .type t, .type T, b, rfl, .ty T, ht H1 e, kit_ty hk, q H1 (Ex.refl H1)⟩
theorem rc_isStr {z : Str} {T : String} {b : Bool} (hk : kitB "str" T = some b) : RC (rIsi K) [.str z, .ty T] H (.bl b) := rc_isi (fun _ _ => .base (.str z)) hk
theorem rc_isInt {i : Int} {T : String} {b : Bool} (hk : kitB "int" T = some b) : RC (rIsi K) [.int i, .ty T] H (.bl b) := rc_isi (fun _ _ => .base (.int i)) hk
/-- len of a text -/
theorem rc_lenS {z : Str} (hz : z.length ≤ sizeLine) : RC (fun xs H Q => ∃ a, xs = [.str a] ∧ a.length ≤ sizeLine ∧ Q (.int (a.length : Nat)) H) [.str z] H (.int (z.length : Nat)) := fun H1 _ _ q => ⟨z, rfl, hz, q H1 (Ex.refl H1)⟩
theorem rv_inSign {c : Nat} {z : Str} : RV (fun x y H Q => ∃ (c : Nat) (z : Str), x = .str ⟨#[c]⟩ ∧ y = .str z ∧ Q (.bl (decide (c ∈ z.cps.toList))) H) (.str ⟨#[c]⟩) (.str z) H (.bl (decide (c ∈ z.cps.toList))) := fun H1 _ _ q => ⟨c, z, rfl, rfl, q H1 (Ex.refl H1)⟩
theorem rv_niSign {c : Nat} {z : Str} : RV (fun x y H Q => ∃ (c : Nat) (z : Str), x = .str ⟨#[c]⟩ ∧ y = .str z ∧ Q (.bl (!decide (c ∈ z.cps.toList))) H) (.str ⟨#[c]⟩) (.str z) H (.bl (!decide (c ∈ z.cps.toList))) := fun H1 _ _ q => ⟨c, z, rfl, rfl, q H1 (Ex.refl H1)⟩
/-- a comprehension over a text -/
theorem el_lcS {z : Str} {tl : TE} {j : Nat} {vs : List Nat} {t : TT} (f : Nat → Bool) (v : Nat → V) (h : Ev tl σ H (.str z)) (hz : z.cps.size ≤ 40000) (hw : ∀ x, wipe ((wipe σ vs).set j (some x)) vs = wipe σ vs)
    (ht : ∀ (i : Nat) (c : Nat) H1, Ex H H1 → z.cps[i]? = some c → EvT t ((wipe σ vs).set j (some (.str ⟨#[c]⟩))) H1 (f i)) (he : ∀ (i : Nat) (c : Nat) H1, Ex H H1 → z.cps[i]? = some c → f i = true → Ev te ((wipe σ vs).set j (some (.str ⟨#[c]⟩))) H1 (v i)) :
    EvL (tLc (iStr tl) (gName j) t te vs) σ H (given z.cps.size f v) := fun H0 e Q q => h H0 e _ fun H1 e1 => ⟨z, rfl, fun Dl hD =>
  lc_it walk_str (Cw H1 f v Dl) ⟨hD, Ex.new hD, upd_same⟩ (fun _ _ _ _ => trivial) (fun i x H' H2 hi p y => by
    obtain ⟨rfl, c, hc, rfl⟩ := y
    exact ⟨hw _, cw_turn p (by omega) (ht i c H1 (e.trans e1) hc) (fun hf => he i c H1 (e.trans e1) hc hf)⟩)
    (fun H' p => q Dl H' (fresh_back e1 p.1) (e1.trans p.2.1) p.2.2)⟩
/-- all of a new list of bools -/
theorem ev_all {bs : List Bool} (h : EvL te σ H (bs.map V.bl)) : Ev (tCB (rAll K) (tCons te tNil)) σ H (.bl (bs.all id)) := fun H1 e Q q =>
  h H1 e _ fun p H2 _ e2 hp => ⟨p, bs, rfl, sq_of hp, q H2 e2⟩
/-- given, no test -/
theorem given_all {n : Nat} {v : Nat → V} : given n (fun _ => true) v = (List.range n).map v := by
  unfold given
  rw [List.filter_eq_self.mpr (fun _ _ => rfl)]
theorem et_nil : EvT tYes σ H true := fun H1 _ _ q => q H1 (Ex.refl H1)
theorem range_map {α : Type} (xs : List α) (d : α) (v : α → V) : (List.range xs.length).map (fun i => v (xs.getD i d)) = xs.map v := by
  refine List.ext_getElem? fun i => ?_
  rw [List.getElem?_map, List.getElem?_map]
  by_cases hi : i < xs.length
  · rw [List.getElem?_range hi, List.getElem?_eq_getElem hi]
    show some (v (xs.getD i d)) = some (v xs[i])
    rw [List.getD_eq_getElem?_getD, List.getElem?_eq_getElem hi]
    rfl
  · rw [List.getElem?_eq_none (by rw [List.length_range]; omega), List.getElem?_eq_none (by omega)]
    rfl
/-- [e for c in text] -/
theorem el_lcSm {z : Str} {tl : TE} {j : Nat} {vs : List Nat} (v : Nat → V) (h : Ev tl σ H (.str z)) (hz : z.length ≤ 40000) (hw : ∀ x, wipe ((wipe σ vs).set j (some x)) vs = wipe σ vs)
    (he : ∀ (c : Nat) H1, Ex H H1 → c ∈ z.cps.toList → Ev te ((wipe σ vs).set j (some (.str ⟨#[c]⟩))) H1 (v c)) : EvL (tLc (iStr tl) (gName j) tYes te vs) σ H (z.cps.toList.map v) := by
  have g := el_lcS (te := te) (j := j) (vs := vs) (t := tYes) (fun _ => true) (fun i => v (z.cps.toList.getD i 0)) h hz hw (fun _ _ _ _ _ => et_nil) (fun i c H3 e hc _ => by
    have e1 : z.cps.toList.getD i 0 = c := by
      rw [List.getD_eq_getElem?_getD, Array.getElem?_toList, hc]
      rfl
    rw [e1]
    exact he c H3 e (by rw [List.mem_iff_getElem?]; exact ⟨i, by rw [Array.getElem?_toList, hc]⟩))
  rw [given_all] at g
  have e := range_map z.cps.toList 0 v
  rw [Array.length_toList] at e
  rw [e] at g
  exact g
/-- [e for x in list] -/
theorem el_lcLm {a : Addr} {xs : List V} {tl : TE} {j : Nat} {vs : List Nat} (v : V → V) (h : Ev tl σ H (.ref a)) (hx : SqL K H a xs) (hz : xs.length ≤ 40000) (hw : ∀ x, wipe ((wipe σ vs).set j (some x)) vs = wipe σ vs)
    (he : ∀ (x : V) H1, Ex H H1 → x ∈ xs → Ev te ((wipe σ vs).set j (some x)) H1 (v x)) : EvL (tLc (iList K tl) (gName j) tYes te vs) σ H (xs.map v) := by
  have g := el_lcL (K := K) (te := te) (j := j) (vs := vs) (t := tYes) (fun _ => true) (fun i => v (xs.getD i .non)) h hx hz hw (fun _ _ _ _ _ => et_nil) (fun i x H3 e hc _ => by
    have e1 : xs.getD i .non = x := by
      rw [List.getD_eq_getElem?_getD, hc]
      rfl
    rw [e1]
    exact he x H3 e (List.mem_iff_getElem?.mpr ⟨i, hc⟩))
  rw [given_all, range_map xs .non v] at g
  exact g
/-- [e for x in (a new list)] -/
theorem el_lcNLm {xs : List V} {tl : TE} {j : Nat} {vs : List Nat} (v : V → V) (h : EvL tl σ H xs) (hz : xs.length ≤ 40000) (hw : ∀ x, wipe ((wipe σ vs).set j (some x)) vs = wipe σ vs)
    (he : ∀ (x : V) H1, Ex H H1 → x ∈ xs → Ev te ((wipe σ vs).set j (some x)) H1 (v x)) : EvL (tLc (iList K tl) (gName j) tYes te vs) σ H (xs.map v) := by
  have g := el_lcNL (K := K) (te := te) (j := j) (vs := vs) (t := tYes) (fun _ => true) (fun i => v (xs.getD i .non)) h hz hw (fun _ _ _ _ _ => et_nil) (fun i x H3 e hc _ => by
    have e1 : xs.getD i .non = x := by
      rw [List.getD_eq_getElem?_getD, hc]
      rfl
    rw [e1]
    exact he x H3 e (List.mem_iff_getElem?.mpr ⟨i, hc⟩))
  rw [given_all, range_map xs .non v] at g
  exact g
/-- [e for k in range(n)] -/
theorem el_lcRm {tn : TA} {j : Nat} {vs : List Nat} {n : Int} (v : Nat → V) (h : EvA tn σ H [.int n]) (hn : 0 ≤ n ∧ n ≤ 40000) (hw : ∀ x, wipe ((wipe σ vs).set j (some x)) vs = wipe σ vs)
    (he : ∀ (i : Nat) H1, Ex H H1 → (i : Int) < n → Ev te ((wipe σ vs).set j (some (.int (i : Int)))) H1 (v i)) : EvL (tLc (iRng1 tn) (gName j) tYes te vs) σ H ((List.range n.toNat).map v) := by
  have g := el_lcR1 (te := te) (j := j) (vs := vs) (t := tYes) (fun _ => true) v h hn hw (fun _ _ _ _ => et_nil) (fun i H1 e hi _ => he i H1 e hi)
  rw [given_all] at g
  exact g
/-- a comprehension over a tuple -/
theorem el_lcT {a : Addr} {xs : List V} {tl : TE} {j : Nat} {vs : List Nat} {t : TT} (f : Nat → Bool) (v : Nat → V) (h : Ev tl σ H (.ref a)) (hx : SqT K H a xs) (hz : xs.length ≤ 40000) (hw : ∀ x, wipe ((wipe σ vs).set j (some x)) vs = wipe σ vs)
    (ht : ∀ (i : Nat) (x : V) H1, Ex H H1 → xs[i]? = some x → EvT t ((wipe σ vs).set j (some x)) H1 (f i)) (he : ∀ (i : Nat) (x : V) H1, Ex H H1 → xs[i]? = some x → f i = true → Ev te ((wipe σ vs).set j (some x)) H1 (v i)) :
    EvL (tLc (iTup K tl) (gName j) t te vs) σ H (given xs.length f v) := fun H0 e Q q => h H0 e _ fun H1 e1 => ⟨a, rfl, ⟨xs, ex_t (e.trans e1) hx⟩, fun Dl hD =>
  lc_tup (xs := xs) (Cw H1 f v Dl) ⟨hD, Ex.new hD, upd_same⟩ (fun i H' _ p => ex_t ((e.trans e1).trans p.2.1) hx) (fun i x H' hi p => ⟨hw x, cw_turn p (by have := (List.getElem?_eq_some_iff.mp hi).1; omega) (ht i x H1 (e.trans e1) hi) (fun hf => he i x H1 (e.trans e1) hi hf)⟩)
    (fun H' p => q Dl H' (fresh_back e1 p.1) (e1.trans p.2.1) p.2.2)⟩
theorem ev_fld {a C dx : Addr} {fs : List (Str × V)} {f : Str} {v : V} (h : Ev ta σ H (.ref a)) (hi : H a = some (.ins C dx fs)) (cl : Cls K C) (n : NoAttr K C f) (l : fs.lookup f = some v) : Ev (tFld K ta f) σ H v := fun H1 e Q q =>
  h H1 e _ fun H2 e2 => ⟨a, C, dx, fs, v, rfl, (e.trans e2) _ _ hi, cl, n, l, q H2 e2⟩
theorem ev_sum {ns : List Int} (h : EvL te σ H (ns.map V.int)) : Ev (tCB (rSum K) (tCons te tNil)) σ H (.int ns.sum) := fun H1 e Q q =>
  h H1 e _ fun p H2 _ e2 hp => ⟨p, ns, rfl, sq_of hp, q H2 e2⟩
theorem ev_maxD {ns : List Int} {d : Int} (h : EvL te σ H (ns.map V.int)) : Ev (tCKw (FsR.rMaxD K) (tCons te tNil) (tCons (tC (.int d)) tNil)) σ H (.int (FsR.maxDef d ns)) := fun H1 e Q q =>
  h H1 e _ fun p H2 _ e2 hp => ⟨p, ns, d, rfl, rfl, sq_of hp, q H2 e2⟩
theorem ev_lenT {a : Addr} {xs : List V} (h : Ev ta σ H (.ref a)) (hx : SqT K H a xs) : Ev (tCB (fun xs H Q => ∃ p ys, xs = [V.ref p] ∧ (SqL K H p ys ∨ SqT K H p ys) ∧ Q (.int ys.length) H) (tCons ta tNil)) σ H (.int (xs.length : Int)) := fun H1 e Q q =>
  h H1 e _ fun H2 e2 => ⟨a, xs, rfl, .inr (ex_t (e.trans e2) hx), q H2 e2⟩
theorem rc_isiOwn {C : Addr} {t : Value} {b : Bool} (ht : ∀ H1, Ex H H1 → TyX K H1 x t) (hk : PySem.W.kitOne K t (.ref C) = some b) : RC (rIsi K) [x, .ref C] H (.bl b) := fun H1 e Q q =>
  ⟨x, .ref C, t, .ref C, b, rfl, .own C, ht H1 e, hk, q H1 (Ex.refl H1)⟩
theorem range_ys {xs ys : List V} (hl : ys.length = xs.length) : (List.range xs.length).map (fun i => ys.getD i .non) = ys := by
  have e := range_map ys .non (fun y => y)
  rw [List.map_id', hl] at e
  exact e
/-- comprehensions, the result told by its items -/
theorem el_lcNLy {xs ys : List V} {tl : TE} {j : Nat} {vs : List Nat} (h : EvL tl σ H xs) (hz : xs.length ≤ 40000) (hw : ∀ x, wipe ((wipe σ vs).set j (some x)) vs = wipe σ vs) (hl : ys.length = xs.length)
    (he : ∀ (i : Nat) (x y : V) H1, Ex H H1 → xs[i]? = some x → ys[i]? = some y → Ev te ((wipe σ vs).set j (some x)) H1 y) : EvL (tLc (iList K tl) (gName j) tYes te vs) σ H ys := by
  have g := el_lcNL (K := K) (te := te) (j := j) (vs := vs) (t := tYes) (fun _ => true) (fun i => ys.getD i .non) h hz hw (fun _ _ _ _ _ => et_nil) (fun i x H3 e hc _ => by
    have hi := (List.getElem?_eq_some_iff.mp hc).1
    have hy : ys[i]? = some (ys.getD i .non) := by rw [List.getD_eq_getElem?_getD, List.getElem?_eq_getElem (by omega)]; rfl
    exact he i x _ H3 e hc hy)
  rw [given_all, range_ys hl] at g
  exact g
theorem el_lcLy {a : Addr} {xs ys : List V} {tl : TE} {j : Nat} {vs : List Nat} (h : Ev tl σ H (.ref a)) (hx : SqL K H a xs) (hz : xs.length ≤ 40000) (hw : ∀ x, wipe ((wipe σ vs).set j (some x)) vs = wipe σ vs) (hl : ys.length = xs.length)
    (he : ∀ (i : Nat) (x y : V) H1, Ex H H1 → xs[i]? = some x → ys[i]? = some y → Ev te ((wipe σ vs).set j (some x)) H1 y) : EvL (tLc (iList K tl) (gName j) tYes te vs) σ H ys := by
  have g := el_lcL (K := K) (te := te) (j := j) (vs := vs) (t := tYes) (fun _ => true) (fun i => ys.getD i .non) h hx hz hw (fun _ _ _ _ _ => et_nil) (fun i x H3 e hc _ => by
    have hi := (List.getElem?_eq_some_iff.mp hc).1
    have hy : ys[i]? = some (ys.getD i .non) := by rw [List.getD_eq_getElem?_getD, List.getElem?_eq_getElem (by omega)]; rfl
    exact he i x _ H3 e hc hy)
  rw [given_all, range_ys hl] at g
  exact g
theorem el_lcTy {a : Addr} {xs ys : List V} {tl : TE} {j : Nat} {vs : List Nat} (h : Ev tl σ H (.ref a)) (hx : SqT K H a xs) (hz : xs.length ≤ 40000) (hw : ∀ x, wipe ((wipe σ vs).set j (some x)) vs = wipe σ vs) (hl : ys.length = xs.length)
    (he : ∀ (i : Nat) (x y : V) H1, Ex H H1 → xs[i]? = some x → ys[i]? = some y → Ev te ((wipe σ vs).set j (some x)) H1 y) : EvL (tLc (iTup K tl) (gName j) tYes te vs) σ H ys := by
  have g := el_lcT (K := K) (te := te) (j := j) (vs := vs) (t := tYes) (fun _ => true) (fun i => ys.getD i .non) h hx hz hw (fun _ _ _ _ _ => et_nil) (fun i x H3 e hc _ => by
    have hi := (List.getElem?_eq_some_iff.mp hc).1
    have hy : ys[i]? = some (ys.getD i .non) := by rw [List.getD_eq_getElem?_getD, List.getElem?_eq_getElem (by omega)]; rfl
    exact he i x _ H3 e hc hy)
  rw [given_all, range_ys hl] at g
  exact g
end
end FsE

set_option Elab.async false
set_option linter.all false
set_option maxRecDepth 100000
set_option maxHeartbeats 2000000
/-! A staticmethod that is called off its class. -/
namespace FsR
open PySem PySem.Spec PyProof.Rows L2 ClX
structure SMet (K : PySem.W.Frag) (C : Addr) (mc : Value) (m : Str) (p g : Addr) : Prop where
  at_ : PySem.W.findCls K (.ref C) mc m = some (.get (.builtin "staticmethod.__get__") (.ref p) .none (.ref C))
  rc : ∃ rest, PySem.W.recIn K p "staticmethod" = some (.ref g :: rest)
  kp : PySem.W.keepIn K (.ref g) = true
section
variable {X : Cx} {pins : List (Addr × Obj)} {σ : L2.St} {H : Hp} {s : Shared} {C p g : Addr} {mc : Value} {m : Str} {A : Around} {E : Value → Shared → Prop}
theorem getmethsm_ok {pl : Sem Bool} {Q : Value × List Value → Shared → Prop} (I : Inv X pins σ H s) (r : CRead X.K C mc) (k : SMet X.K C mc m p g)
    (h : ∀ s', Inv X pins σ H s' → Q (.ref g, []) s') : wpAny (model X.prog X.w) A (getMethod (.ref C) m pl) Q E s := by
  obtain ⟨rest, hp⟩ := k.rc
  exact PySem.W.method_cls I.kIn r.ga (PySem.W.cls_bind I.kIn r.rd k.at_ (wpAny_call (PySem.W.sm_get (s := { s with toks := s.toks + 1 }) I.kIn hp (PySem.W.handed_on rfl (h _ (I.tok _))))))
end
/-- C.m(..), e the class at C, m a staticmethod; E: what is wanted of what it raises, at the slots -/
def tStat (C : Addr) (sp : Sp) (E : L2.St → XK) (ta : TE) (t : TA) : TE := fun σ H Q => ta σ H fun x H1 => x = .ref C ∧ t σ H1 fun vs H2 => sp vs H2 Q (E σ)
theorem passesAt_of {CX : CXT} {X : Cx} {E : XK} (h : Passes CX X E) (σ : L2.St) : PassesAt CX X σ E := fun pins H s e s' I c => h pins σ H s e s' I c
section
variable {X : Cx} {CX : CXT} {k : Nat} {C p g : Addr} {mc : Value} {fd : FuncData} {ps : List Str} {sp : Sp} {E : L2.St → XK} {o e : Expr} {es : List Expr} {m : Str} {pos apos : Pos} {ta : TE} {t : TA} {pl : Sem Bool}
theorem pe_stat (he : PE X o ta) (r : CRead X.K C mc) (c : SMet X.K C mc m p g) (F : FnOk X.prog X.w X.K X.mg X.base CX k g fd ps sp) (hr : Room k X.A) (hb : Binds X.K fd ps []) (hx : ∀ σ, PassesAt CX X σ (E σ)) (ha : PA X (e :: es) t)
    (hst : starEach (e :: es) X.env = (false, eval e X.env) :: starEach es X.env := by rfl) (hpl : (backTo pos (starEach es X.env)).any (·.1) = false := by rfl)
    (ht : eval (.Call (.Attribute o m apos) (e :: es) [] pos) X.env = (do
      let ov ← eval o X.env
      standAt apos.atName
      let (f, first) ← holding [ov] (getMethod ov m pl)
      callWith pos f first (backTo pos (starEach (e :: es) X.env)) (backToKw pos (keywordEach [] X.env))) := by rfl) :
    PE X (.Call (.Attribute o m apos) (e :: es) [] pos) (tStat C sp E ta t) := by
  refine ⟨fun pins s σ H Q I h => ?_⟩
  refine PySem.W.methodCall_KW (pl := pl) (thn (he.run pins s σ H _ I h) fun u s1 ⟨x, H1, I1, rx, ex, q⟩ => ?_) ht
  subst ex
  obtain rfl : u = Value.ref C := rx
  refine getmethsm_ok I1 r c fun s2 I2 => ?_
  refine PySem.W.callWith_K (first := []) (h₀ := X.base) I.ok.mod.kin c.kp (thn (ha.run pos pins s2 σ H1 _ I2 q) fun us s3 ⟨vs, H2, I3, rv, q2⟩ => ⟨I3.kIn, ?_⟩) hst hpl
  exact run_fnS F hr hb (hx σ) I3 rv q2
theorem pe_stat0 (he : PE X o ta) (r : CRead X.K C mc) (c : SMet X.K C mc m p g) (F : FnOk X.prog X.w X.K X.mg X.base CX k g fd ps sp) (hr : Room k X.A) (hb : Binds X.K fd ps []) (hx : ∀ σ, PassesAt CX X σ (E σ))
    (ht : eval (.Call (.Attribute o m apos) [] [] pos) X.env = (do
      let ov ← eval o X.env
      standAt apos.atName
      let (f, first) ← holding [ov] (getMethod ov m pl)
      callWith pos f first (backTo pos (starEach [] X.env)) (backToKw pos (keywordEach [] X.env))) := by rfl) :
    PE X (.Call (.Attribute o m apos) [] [] pos) (tStat C sp E ta tNil) := by
  refine ⟨fun pins s σ H Q I h => ?_⟩
  refine PySem.W.methodCall_KW (pl := pl) (thn (he.run pins s σ H _ I h) fun u s1 ⟨x, H1, I1, rx, ex, q⟩ => ?_) ht
  subst ex
  obtain rfl : u = Value.ref C := rx
  refine getmethsm_ok I1 r c fun s2 I2 => ?_
  exact PySem.W.callWith_K0 (first := []) I2.kIn c.kp (run_fnS (us := []) (vs := []) F hr hb (hx σ) I2 .nil q)
end
end FsR

set_option Elab.async false
set_option linter.all false
set_option maxRecDepth 100000
set_option maxHeartbeats 2000000
namespace FsC
open PySem L2 Evl ClX FsR
/-- a def of the module that may be called by its name -/
structure CalX (P : Program) (w : World) (K : PySem.W.Frag) (mg : Str → Option Value) (base : Heap) (CX : CXT) (k : Nat) (x : Str) (sp : Sp) : Prop where
  ex : ∃ (f : Addr) (fd : FuncData) (ps : List Str), FnOk P w K mg base CX k f fd ps sp ∧ mg x = some (.ref f) ∧ PySem.W.keepIn K (.ref f) = true ∧ Binds K fd ps []
/-- C.m, a staticmethod of the class at C -/
structure StaX (P : Program) (w : World) (K : PySem.W.Frag) (mg : Str → Option Value) (base : Heap) (CX : CXT) (k : Nat) (C : Addr) (m : Str) (sp : Sp) : Prop where
  ex : ∃ (p f : Addr) (mc : Value) (fd : FuncData) (ps : List Str), CRead K C mc ∧ SMet K C mc m p f ∧ FnOk P w K mg base CX k f fd ps sp ∧ Binds K fd ps []
/-- C(..): a class that is made by its name -/
structure MakX (P : Program) (w : World) (K : PySem.W.Frag) (mg : Str → Option Value) (base : Heap) (CX : CXT) (k : Nat) (x : Str) (C : Addr) (sp : Sp) : Prop where
  ex : ∃ (f : Addr) (fd : FuncData) (ps : List Str), Mk K C f ∧ FnOk P w K mg base CX k f fd ps sp ∧ mg x = some (.ref C) ∧ Binds K fd ps []
section
variable {X : Cx} {CX : CXT} {k j : Nat} {C : Addr} {x m : Str} {sp : Sp} {E : L2.St → XK} {p pos apos : Pos} {e o : Expr} {es : List Expr} {ta : TE} {t : TA}
theorem pe_cx (c : CalX X.prog X.w X.K X.mg X.base CX k x sp) (hr : Room j X.A) (hk : k ≤ j) (hg : Gl X x) (hx : ∀ σ, PassesAt CX X σ (E σ)) (ha : PA X (e :: es) t)
    (hdb : (x == ("__debug__" : Str)) = false := by decide) (he : starEach (e :: es) X.env = (false, eval e X.env) :: starEach es X.env := by rfl) (hpl : (backTo pos (starEach es X.env)).any (·.1) = false := by rfl) :
    PE X (.Call (.Name x p) (e :: es) [] pos) (tCallS sp E t) := by
  obtain ⟨f, fd, ps, F, hm, kp, b⟩ := c.ex
  exact pe_callS F (hr.mono hk) hg hm kp b hx ha hdb he hpl
theorem pe_sx {pl : Sem Bool} (c : StaX X.prog X.w X.K X.mg X.base CX k C m sp) (hr : Room j X.A) (hk : k ≤ j) (ho : PE X o ta) (hx : ∀ σ, PassesAt CX X σ (E σ)) (ha : PA X (e :: es) t)
    (hst : starEach (e :: es) X.env = (false, eval e X.env) :: starEach es X.env := by rfl) (hpl : (backTo pos (starEach es X.env)).any (·.1) = false := by rfl)
    (ht : eval (.Call (.Attribute o m apos) (e :: es) [] pos) X.env = (do
      let ov ← eval o X.env
      standAt apos.atName
      let (f, first) ← holding [ov] (getMethod ov m pl)
      callWith pos f first (backTo pos (starEach (e :: es) X.env)) (backToKw pos (keywordEach [] X.env))) := by rfl) :
    PE X (.Call (.Attribute o m apos) (e :: es) [] pos) (tStat C sp E ta t) := by
  obtain ⟨p, f, mc, fd, ps, r, s, F, b⟩ := c.ex
  exact pe_stat (pl := pl) ho r s F (hr.mono hk) b hx ha hst hpl ht
theorem pe_sx0 {pl : Sem Bool} (c : StaX X.prog X.w X.K X.mg X.base CX k C m sp) (hr : Room j X.A) (hk : k ≤ j) (ho : PE X o ta) (hx : ∀ σ, PassesAt CX X σ (E σ))
    (ht : eval (.Call (.Attribute o m apos) [] [] pos) X.env = (do
      let ov ← eval o X.env
      standAt apos.atName
      let (f, first) ← holding [ov] (getMethod ov m pl)
      callWith pos f first (backTo pos (starEach [] X.env)) (backToKw pos (keywordEach [] X.env))) := by rfl) :
    PE X (.Call (.Attribute o m apos) [] [] pos) (tStat C sp E ta tNil) := by
  obtain ⟨p, f, mc, fd, ps, r, s, F, b⟩ := c.ex
  exact pe_stat0 (pl := pl) ho r s F (hr.mono hk) b hx ht
theorem pe_mx {E : XK} (c : MakX X.prog X.w X.K X.mg X.base CX k x C sp) (hr : Room j X.A) (hk : k + 1 ≤ j) (hg : Gl X x) (hx : Passes CX X E) (ha : PA X (e :: es) t)
    (hdb : (x == ("__debug__" : Str)) = false := by decide) (he : starEach (e :: es) X.env = (false, eval e X.env) :: starEach es X.env := by rfl) (hpl : (backTo pos (starEach es X.env)).any (·.1) = false := by rfl) :
    PE X (.Call (.Name x p) (e :: es) [] pos) (tMake C sp [] E t) := by
  obtain ⟨f, fd, ps, M, F, hm, b⟩ := c.ex
  exact pe_make M F (hr.mono hk) hg hm b .nil hx ha hdb he hpl
theorem at0 {X : Cx} {E : L2.St → XK} : ∀ σ, PassesAt CX0 X σ (E σ) := fun _ _ _ _ _ _ _ h => h.elim
/-- what a call within a def that may raise lets out -/
theorem atX {P : Program} {w : World} {X : Cx} {E : XK} (h : Passes (L2.CX P w) X E) : ∀ σ, PassesAt (L2.CX P w) X σ ((fun _ => E) σ) := fun σ => passesAt_of h σ
end
section
variable {σ : L2.St} {H : Hp} {z : V} {sp : Sp} {ta : TA} {vs : List V} {E : L2.St → XK}
theorem ev_cx (h : EvA ta σ H vs) (hs : SpV sp vs H z) : Ev (tCallS sp E ta) σ H z := fun H1 e Q q =>
  h H1 e _ fun H2 e2 => hs H2 (e.trans e2) Q (fun H3 e3 => q H3 (e2.trans e3)) (E σ)
theorem ev_sx {C : Addr} {to : TE} (ho : Ev to σ H (.ref C)) (h : EvA ta σ H vs) (hs : SpV sp vs H z) : Ev (tStat C sp E to ta) σ H z := fun H1 e Q q =>
  ho H1 e _ fun H2 e2 => ⟨rfl, h H2 (e.trans e2) _ fun H3 e3 => hs H3 ((e.trans e2).trans e3) Q (fun H4 e4 => q H4 ((e2.trans e3).trans e4)) (E σ)⟩
theorem el_cx {xs : List V} (h : EvA ta σ H vs) (hs : SpL sp vs H xs) : EvL (tCallS sp E ta) σ H xs := fun H1 e Q q =>
  h H1 e _ fun H2 e2 => hs H2 (e.trans e2) Q (fun p H3 hp e3 h3 => q p H3 (fresh_back e2 hp) (e2.trans e3) h3) (E σ)
end
end FsC

set_option Elab.async false
set_option linter.all false
set_option maxRecDepth 100000
set_option maxHeartbeats 2000000
namespace Fs
open PySem L2 Evl
/-! ### operands, processes, offers -/
inductive Opd where
  | int (i : Int)
  | nm (z : Str)
def Opd.v : Opd → V
  | .int i => .int i
  | .nm z => .str z
mutual
inductive Pr where
  | choice (os : Ofs)
  | new (n : Str) (k : Int) (r : Pr)
  | cond (l r : Opd) (y n : Pr)
  | call (n : Str) (ops : List Opd)
inductive Ofs where
  | nil
  | cons (c : Str) (seat seats : Int) (op : Opd) (names : List Str) (rest : Pr) (os : Ofs)
end
mutual
def Pr.depth : Pr → Int
  | .choice os => 1 + os.depth
  | .new _ _ r => 1 + r.depth
  | .cond _ _ y n => 1 + max y.depth n.depth
  | .call _ _ => 1
def Ofs.depth : Ofs → Int
  | .nil => 0
  | .cons _ _ _ _ _ r os => max r.depth os.depth
end
def Ofs.len : Ofs → Nat
  | .nil => 0
  | .cons _ _ _ _ _ _ os => os.len + 1
mutual
def Pr.size : Pr → Int
  | .choice os => max 1 (os.len : Int) + os.sum
  | .new _ _ r => 1 + r.size
  | .cond _ _ y n => 1 + (y.size + n.size)
  | .call _ _ => 1
def Ofs.sum : Ofs → Int
  | .nil => 0
  | .cons _ _ _ _ _ r os => r.size + os.sum
end
def Pr.kind : Pr → Str
  | .choice _ => "choice"
  | .new _ _ _ => "new"
  | .cond _ _ _ _ => "if"
  | .call _ _ => "call"
/-- the attributes, in the order in which __init__ stores them -/
def pFlds (k : Str) (t : Addr) (d z : Int) : List (Str × V) := putF "size" (.int z) (putF "depth" (.int d) (putF "parts" (.ref t) (putF "kind" (.str k) [])))
theorem n1 : ¬ (("kind" : Str) = "parts") := by decide +kernel
theorem n2 : ¬ (("kind" : Str) = "depth") := by decide +kernel
theorem n3 : ¬ (("kind" : Str) = "size") := by decide +kernel
theorem n4 : ¬ (("parts" : Str) = "depth") := by decide +kernel
theorem n5 : ¬ (("parts" : Str) = "size") := by decide +kernel
theorem n6 : ¬ (("depth" : Str) = "size") := by decide +kernel
theorem pf_kind {k : Str} {t : Addr} {d z : Int} : (pFlds k t d z).lookup ("kind" : Str) = some (.str k) := by
  unfold pFlds
  rw [lookup_putF, if_neg n3, lookup_putF, if_neg n2, lookup_putF, if_neg n1, lookup_putF, if_pos rfl]
theorem pf_parts {k : Str} {t : Addr} {d z : Int} : (pFlds k t d z).lookup ("parts" : Str) = some (.ref t) := by
  unfold pFlds
  rw [lookup_putF, if_neg n5, lookup_putF, if_neg n4, lookup_putF, if_pos rfl]
theorem pf_depth {k : Str} {t : Addr} {d z : Int} : (pFlds k t d z).lookup ("depth" : Str) = some (.int d) := by
  unfold pFlds
  rw [lookup_putF, if_neg n6, lookup_putF, if_pos rfl]
theorem pf_size {k : Str} {t : Addr} {d z : Int} : (pFlds k t d z).lookup ("size" : Str) = some (.int z) := by
  unfold pFlds
  rw [lookup_putF, if_pos rfl]
/-- an instance of the class at C with these parts -/
def InsAt (C : Addr) (H : Hp) (a : Addr) (k : Str) (t : Addr) (d z : Int) : Prop := ∃ dx, H a = some (.ins C dx (pFlds k t d z))
mutual
/-- at a stands the process p -/
def PrAt (C : Addr) (H : Hp) (a : Addr) : Pr → Prop
  | .choice os => ∃ t ps, InsAt C H a "choice" t (1 + os.depth) (max 1 (os.len : Int) + os.sum) ∧ H t = some (.tup ps) ∧ OfsAt C H ps os
  | .new n k r => ∃ t b, InsAt C H a "new" t (1 + r.depth) (1 + r.size) ∧ H t = some (.tup [.str n, .int k, .ref b]) ∧ PrAt C H b r
  | .cond l r y n => ∃ t b c, InsAt C H a "if" t (1 + max y.depth n.depth) (1 + (y.size + n.size)) ∧ H t = some (.tup [l.v, r.v, .ref b, .ref c]) ∧ PrAt C H b y ∧ PrAt C H c n
  | .call n ops => ∃ t u, InsAt C H a "call" t 1 1 ∧ H t = some (.tup [.str n, .ref u]) ∧ H u = some (.tup (ops.map Opd.v))
def OfsAt (C : Addr) (H : Hp) (ps : List V) : Ofs → Prop
  | .nil => ps = []
  | .cons c s m op ns r os => ∃ o u b qs, ps = .ref o :: qs ∧ H o = some (.tup [.str c, .int s, .int m, op.v, .ref u, .ref b]) ∧ H u = some (.tup (ns.map V.str)) ∧ PrAt C H b r ∧ OfsAt C H qs os
end
theorem InsAt.ex {C : Addr} {H H' : Hp} {a : Addr} {k : Str} {t : Addr} {d z : Int} (e : Ex H H') (h : InsAt C H a k t d z) : InsAt C H' a k t d z := by
  obtain ⟨dx, h⟩ := h
  exact ⟨dx, e _ _ h⟩
mutual
theorem PrAt.ex {C : Addr} {H H' : Hp} (e : Ex H H') : ∀ {p : Pr} {a : Addr}, PrAt C H a p → PrAt C H' a p
  | .choice os, a, h => by
    unfold PrAt at h ⊢
    obtain ⟨t, ps, h1, h2, h3⟩ := h
    exact ⟨t, ps, h1.ex e, e _ _ h2, OfsAt.ex e h3⟩
  | .new n k r, a, h => by
    unfold PrAt at h ⊢
    obtain ⟨t, b, h1, h2, h3⟩ := h
    exact ⟨t, b, h1.ex e, e _ _ h2, PrAt.ex e h3⟩
  | .cond l r y n, a, h => by
    unfold PrAt at h ⊢
    obtain ⟨t, b, c, h1, h2, h3, h4⟩ := h
    exact ⟨t, b, c, h1.ex e, e _ _ h2, PrAt.ex e h3, PrAt.ex e h4⟩
  | .call n ops, a, h => by
    unfold PrAt at h ⊢
    obtain ⟨t, u, h1, h2, h3⟩ := h
    exact ⟨t, u, h1.ex e, e _ _ h2, e _ _ h3⟩
theorem OfsAt.ex {C : Addr} {H H' : Hp} (e : Ex H H') : ∀ {os : Ofs} {ps : List V}, OfsAt C H ps os → OfsAt C H' ps os
  | .nil, ps, h => by
    unfold OfsAt at h ⊢
    exact h
  | .cons c s m op ns r os, ps, h => by
    unfold OfsAt at h ⊢
    obtain ⟨o, u, b, qs, h1, h2, h3, h4, h5⟩ := h
    exact ⟨o, u, b, qs, h1, e _ _ h2, e _ _ h3, PrAt.ex e h4, OfsAt.ex e h5⟩
end
/-- whatever the process: its instance -/
theorem PrAt.ins {C : Addr} {H : Hp} {p : Pr} {a : Addr} (h : PrAt C H a p) : ∃ t ps, InsAt C H a p.kind t p.depth p.size ∧ H t = some (.tup ps) := by
  cases p with
  | choice os =>
    unfold PrAt at h
    obtain ⟨t, ps, h1, h2, _⟩ := h
    exact ⟨t, ps, by unfold Pr.kind Pr.depth Pr.size; exact h1, h2⟩
  | new n k r =>
    unfold PrAt at h
    obtain ⟨t, b, h1, h2, _⟩ := h
    exact ⟨t, _, by unfold Pr.kind Pr.depth Pr.size; exact h1, h2⟩
  | cond l r y n =>
    unfold PrAt at h
    obtain ⟨t, b, c, h1, h2, _⟩ := h
    exact ⟨t, _, by unfold Pr.kind Pr.depth Pr.size; exact h1, h2⟩
  | call n ops =>
    unfold PrAt at h
    obtain ⟨t, u, h1, h2, _⟩ := h
    exact ⟨t, _, by unfold Pr.kind Pr.depth Pr.size; exact h1, h2⟩
end Fs

set_option Elab.async false
set_option linter.all false
set_option maxRecDepth 100000
set_option maxHeartbeats 2000000
namespace Fs
open PySem L2 Evl FsE FsC FsR
/-- the parts of a process, as its tuple holds them -/
def PartsAt (C : Addr) (H : Hp) (ps : List V) : Pr → Prop
  | .choice os => OfsAt C H ps os
  | .new n k r => ∃ b, ps = [.str n, .int k, .ref b] ∧ PrAt C H b r
  | .cond l r y n => ∃ b c, ps = [l.v, r.v, .ref b, .ref c] ∧ PrAt C H b y ∧ PrAt C H c n
  | .call n ops => ∃ u, ps = [.str n, .ref u] ∧ H u = some (.tup (ops.map Opd.v))
theorem PartsAt.ex {C : Addr} {H H' : Hp} {ps : List V} {p : Pr} (e : Ex H H') (h : PartsAt C H ps p) : PartsAt C H' ps p := by
  cases p with
  | choice os => exact OfsAt.ex e h
  | new n k r =>
    obtain ⟨b, h1, h2⟩ := h
    exact ⟨b, h1, h2.ex e⟩
  | cond l r y n =>
    obtain ⟨b, c, h1, h2, h3⟩ := h
    exact ⟨b, c, h1, h2.ex e, h3.ex e⟩
  | call n ops =>
    obtain ⟨u, h1, h2⟩ := h
    exact ⟨u, h1, e _ _ h2⟩
theorem PrAt.mk {C : Addr} {H : Hp} {a t : Addr} {ps : List V} {p : Pr} (h1 : InsAt C H a p.kind t p.depth p.size) (h2 : H t = some (.tup ps)) (h3 : PartsAt C H ps p) : PrAt C H a p := by
  cases p with
  | choice os =>
    unfold PrAt
    unfold Pr.kind Pr.depth Pr.size at h1
    exact ⟨t, ps, h1, h2, h3⟩
  | new n k r =>
    unfold PrAt
    unfold Pr.kind Pr.depth Pr.size at h1
    obtain ⟨b, rfl, h4⟩ := h3
    exact ⟨t, b, h1, h2, h4⟩
  | cond l r y n =>
    unfold PrAt
    unfold Pr.kind Pr.depth Pr.size at h1
    obtain ⟨b, c, rfl, h4, h5⟩ := h3
    exact ⟨t, b, c, h1, h2, h4, h5⟩
  | call n ops =>
    unfold PrAt
    unfold Pr.kind Pr.depth Pr.size at h1
    obtain ⟨u, rfl, h4⟩ := h3
    exact ⟨t, u, h1, h2, h4⟩
theorem PrAt.out {C : Addr} {H : Hp} {a : Addr} {p : Pr} (h : PrAt C H a p) : ∃ t ps, InsAt C H a p.kind t p.depth p.size ∧ H t = some (.tup ps) ∧ PartsAt C H ps p := by
  cases p with
  | choice os =>
    unfold PrAt at h
    obtain ⟨t, ps, h1, h2, h3⟩ := h
    exact ⟨t, ps, by unfold Pr.kind Pr.depth Pr.size; exact h1, h2, h3⟩
  | new n k r =>
    unfold PrAt at h
    obtain ⟨t, b, h1, h2, h3⟩ := h
    exact ⟨t, _, by unfold Pr.kind Pr.depth Pr.size; exact h1, h2, b, rfl, h3⟩
  | cond l r y n =>
    unfold PrAt at h
    obtain ⟨t, b, c, h1, h2, h3, h4⟩ := h
    exact ⟨t, _, by unfold Pr.kind Pr.depth Pr.size; exact h1, h2, b, c, rfl, h3, h4⟩
  | call n ops =>
    unfold PrAt at h
    obtain ⟨t, u, h1, h2, h3⟩ := h
    exact ⟨t, _, by unfold Pr.kind Pr.depth Pr.size; exact h1, h2, u, rfl, h3⟩
/-! ### what is contained directly -/
def Ofs.rests : Ofs → List Pr
  | .nil => []
  | .cons _ _ _ _ _ r os => r :: os.rests
def Pr.inner : Pr → List Pr
  | .choice os => os.rests
  | .new _ _ r => [r]
  | .cond _ _ y n => [y, n]
  | .call _ _ => []
/-- a list of processes, by their addresses -/
def InnAt (C : Addr) (H : Hp) : List V → List Pr → Prop
  | [], [] => True
  | x :: xs, p :: ps => (∃ a, x = .ref a ∧ PrAt C H a p) ∧ InnAt C H xs ps
  | _, _ => False
theorem InnAt.ex {C : Addr} {H H' : Hp} (e : Ex H H') : ∀ {xs : List V} {ps : List Pr}, InnAt C H xs ps → InnAt C H' xs ps
  | [], [], _ => True.intro
  | x :: xs, p :: ps, ⟨⟨a, h1, h2⟩, h3⟩ => ⟨⟨a, h1, h2.ex e⟩, InnAt.ex e h3⟩
  | [], _ :: _, h => h.elim
  | _ :: _, [], h => h.elim
theorem InnAt.get {C : Addr} {H : Hp} : ∀ {xs : List V} {ps : List Pr} {x : V}, InnAt C H xs ps → x ∈ xs → ∃ a p, x = .ref a ∧ PrAt C H a p ∧ p ∈ ps
  | [], _, _, _, hx => nomatch hx
  | y :: xs, [], _, h, _ => h.elim
  | y :: xs, p :: ps, x, ⟨⟨a, h1, h2⟩, h3⟩, hx => by
    rcases List.mem_cons.mp hx with rfl | hx
    · exact ⟨a, p, h1, h2, List.mem_cons_self⟩
    · obtain ⟨b, q, k1, k2, k3⟩ := InnAt.get h3 hx
      exact ⟨b, q, k1, k2, List.mem_cons_of_mem _ k3⟩
theorem InnAt.length {C : Addr} {H : Hp} : ∀ {xs : List V} {ps : List Pr}, InnAt C H xs ps → xs.length = ps.length
  | [], [], _ => rfl
  | x :: xs, p :: ps, ⟨_, h⟩ => congrArg (· + 1) (InnAt.length h)
  | [], _ :: _, h => h.elim
  | _ :: _, [], h => h.elim
theorem Ofs.rests_len : ∀ os : Ofs, os.rests.length = os.len
  | .nil => rfl
  | .cons _ _ _ _ _ r os => congrArg (· + 1) (Ofs.rests_len os)
/-- the greatest depth, the sum of the sizes -/
theorem Ofs.sum_eq : ∀ os : Ofs, os.sum = (os.rests.map Pr.size).sum
  | .nil => rfl
  | .cons _ _ _ _ _ r os => by
    unfold Ofs.sum Ofs.rests
    rw [List.map_cons, List.sum_cons, Ofs.sum_eq os]
mutual
theorem Pr.depth_pos : ∀ p : Pr, 1 ≤ p.depth
  | .choice os => by
    unfold Pr.depth
    have := Ofs.depth_nn os
    omega
  | .new _ _ r => by
    unfold Pr.depth
    have := Pr.depth_pos r
    omega
  | .cond _ _ y n => by
    unfold Pr.depth
    have := Pr.depth_pos y
    have := Pr.depth_pos n
    omega
  | .call _ _ => by
    unfold Pr.depth
    omega
theorem Ofs.depth_nn : ∀ os : Ofs, 0 ≤ os.depth
  | .nil => by
    unfold Ofs.depth
    omega
  | .cons _ _ _ _ _ r os => by
    unfold Ofs.depth
    have := Pr.depth_pos r
    omega
end
theorem maxFrom_ge : ∀ (ys : List Int) (y : Int), maxFrom y ys = max y (maxFrom 0 ys) ∨ (y < 0)
  | [], y => by
    unfold maxFrom
    simp only [List.foldl_nil]
    omega
  | z :: zs, y => by
    have h1 := maxFrom_ge zs (max y z)
    have h2 := maxFrom_ge zs (max 0 z)
    unfold maxFrom at *
    simp only [List.foldl_cons]
    omega
theorem Ofs.depth_eq : ∀ os : Ofs, maxDef 0 (os.rests.map Pr.depth) = os.depth
  | .nil => rfl
  | .cons _ _ _ _ _ r os => by
    unfold Ofs.rests Ofs.depth
    rw [List.map_cons]
    show maxFrom r.depth (os.rests.map Pr.depth) = max r.depth os.depth
    have ih := Ofs.depth_eq os
    have hr := Pr.depth_pos r
    cases hr2 : os.rests.map Pr.depth with
    | nil =>
      rw [hr2] at ih
      have e0 : (0 : Int) = os.depth := ih
      unfold maxFrom
      simp only [List.foldl_nil]
      omega
    | cons y ys =>
      rw [hr2] at ih
      have e0 : maxFrom y ys = os.depth := ih
      have hy : 1 ≤ y := by
        have : y ∈ os.rests.map Pr.depth := by rw [hr2]; exact List.mem_cons_self
        obtain ⟨q, _, rfl⟩ := List.mem_map.mp this
        exact Pr.depth_pos q
      have h1 := maxFrom_ge ys y
      have h2 := maxFrom_ge ys (max r.depth y)
      show maxFrom (max r.depth y) ys = _
      omega
theorem Pr.depth_eq (p : Pr) : 1 + maxDef 0 (p.inner.map Pr.depth) = p.depth := by
  cases p with
  | choice os =>
    unfold Pr.inner Pr.depth
    rw [Ofs.depth_eq]
  | new n k r =>
    unfold Pr.depth
    rfl
  | cond l r y n =>
    unfold Pr.depth
    rfl
  | call n ops =>
    unfold Pr.depth
    rfl
def Pr.own : Pr → Int
  | .choice os => max 1 (os.len : Int)
  | _ => 1
theorem Pr.size_eq (p : Pr) : p.own + (p.inner.map Pr.size).sum = p.size := by
  cases p with
  | choice os =>
    unfold Pr.inner Pr.size Pr.own
    rw [Ofs.sum_eq]
  | new n k r =>
    unfold Pr.size Pr.own Pr.inner
    simp
  | cond l r y n =>
    unfold Pr.size Pr.own Pr.inner
    simp
  | call n ops =>
    unfold Pr.size Pr.own Pr.inner
    simp
theorem OfsAt.len {C : Addr} {H : Hp} : ∀ {os : Ofs} {ps : List V}, OfsAt C H ps os → ps.length = os.len
  | .nil, ps, h => by
    unfold OfsAt at h
    rw [h]
    rfl
  | .cons c s m op ns r os, ps, h => by
    unfold OfsAt at h
    obtain ⟨o, u, b, qs, h1, _, _, _, h5⟩ := h
    rw [h1]
    exact congrArg (· + 1) (OfsAt.len h5)
/-- the rests of the offers -/
theorem OfsAt.rests {C : Addr} {H : Hp} : ∀ {os : Ofs} {ps : List V}, OfsAt C H ps os → ∃ rs : List V, rs.length = ps.length ∧ InnAt C H rs os.rests ∧
    ∀ (i : Nat) (x : V), ps[i]? = some x → ∃ (o : Addr) (c : Str) (s m : Int) (op : Opd) (u : Addr) (y : V), x = .ref o ∧ rs[i]? = some y ∧ H o = some (.tup [.str c, .int s, .int m, op.v, .ref u, y])
  | .nil, ps, h => by
    unfold OfsAt at h
    subst h
    exact ⟨[], rfl, True.intro, fun i x hx => by simp at hx⟩
  | .cons c s m op ns r os, ps, h => by
    unfold OfsAt at h
    obtain ⟨o, u, b, qs, rfl, h2, h3, h4, h5⟩ := h
    obtain ⟨rs, k1, k2, k3⟩ := OfsAt.rests h5
    refine ⟨.ref b :: rs, congrArg (· + 1) k1, ⟨⟨b, rfl, h4⟩, k2⟩, fun i x hx => ?_⟩
    cases i with
    | zero =>
      have e : V.ref o = x := by simpa using hx
      subst e
      exact ⟨o, c, s, m, op, u, .ref b, rfl, rfl, h2⟩
    | succ i =>
      obtain ⟨o', c', s', m', op', u', y', z1, z2, z3⟩ := k3 i x (by simpa using hx)
      exact ⟨o', c', s', m', op', u', y', z1, by simpa using z2, z3⟩
/-- rs: what a process with these parts contains directly -/
def InnOf (C : Addr) (H : Hp) (ps rs : List V) : Pr → Prop
  | .choice os => rs.length = ps.length ∧ InnAt C H rs os.rests ∧
    ∀ (i : Nat) (x : V), ps[i]? = some x → ∃ (o : Addr) (c : Str) (s m : Int) (op : Opd) (u : Addr) (y : V), x = .ref o ∧ rs[i]? = some y ∧ H o = some (.tup [.str c, .int s, .int m, op.v, .ref u, y])
  | .new n k r => ∃ b, ps = [.str n, .int k, .ref b] ∧ rs = [.ref b] ∧ PrAt C H b r
  | .cond l r y n => ∃ b c, ps = [l.v, r.v, .ref b, .ref c] ∧ rs = [.ref b, .ref c] ∧ PrAt C H b y ∧ PrAt C H c n
  | .call n ops => ∃ u, ps = [.str n, .ref u] ∧ rs = [] ∧ H u = some (.tup (ops.map Opd.v))
theorem InnOf.ex {C : Addr} {H H' : Hp} {ps rs : List V} {p : Pr} (e : Ex H H') (h : InnOf C H ps rs p) : InnOf C H' ps rs p := by
  cases p with
  | choice os =>
    obtain ⟨h1, h2, h3⟩ := h
    refine ⟨h1, h2.ex e, fun i x hx => ?_⟩
    obtain ⟨o, c, s, m, op, u, y, z1, z2, z3⟩ := h3 i x hx
    exact ⟨o, c, s, m, op, u, y, z1, z2, e _ _ z3⟩
  | new n k r =>
    obtain ⟨b, h1, h2, h3⟩ := h
    exact ⟨b, h1, h2, h3.ex e⟩
  | cond l r y n =>
    obtain ⟨b, c, h1, h2, h3, h4⟩ := h
    exact ⟨b, c, h1, h2, h3.ex e, h4.ex e⟩
  | call n ops =>
    obtain ⟨u, h1, h2, h3⟩ := h
    exact ⟨u, h1, h2, e _ _ h3⟩
theorem PartsAt.inn {C : Addr} {H : Hp} {ps : List V} {p : Pr} (h : PartsAt C H ps p) : ∃ rs, InnOf C H ps rs p := by
  cases p with
  | choice os =>
    obtain ⟨rs, h1, h2, h3⟩ := OfsAt.rests h
    exact ⟨rs, h1, h2, h3⟩
  | new n k r =>
    obtain ⟨b, h1, h2⟩ := h
    exact ⟨[.ref b], b, h1, rfl, h2⟩
  | cond l r y n =>
    obtain ⟨b, c, h1, h2, h3⟩ := h
    exact ⟨[.ref b, .ref c], b, c, h1, rfl, h2, h3⟩
  | call n ops =>
    obtain ⟨u, h1, h2⟩ := h
    exact ⟨[], u, h1, rfl, h2⟩
theorem InnOf.at {C : Addr} {H : Hp} {ps rs : List V} {p : Pr} (h : InnOf C H ps rs p) : InnAt C H rs p.inner := by
  cases p with
  | choice os => exact h.2.1
  | new n k r =>
    obtain ⟨b, _, rfl, h3⟩ := h
    exact ⟨⟨b, rfl, h3⟩, True.intro⟩
  | cond l r y n =>
    obtain ⟨b, c, _, rfl, h3, h4⟩ := h
    exact ⟨⟨b, rfl, h3⟩, ⟨c, rfl, h4⟩, True.intro⟩
  | call n ops =>
    obtain ⟨u, _, rfl, _⟩ := h
    exact True.intro
theorem InnAt.at_ {C : Addr} {H : Hp} : ∀ {xs : List V} {ps : List Pr} {i : Nat} {x : V}, InnAt C H xs ps → xs[i]? = some x → ∃ a p, x = .ref a ∧ PrAt C H a p ∧ ps[i]? = some p
  | [], _, _, _, _, hx => by simp at hx
  | y :: xs, [], _, _, h, _ => h.elim
  | y :: xs, p :: ps, 0, x, ⟨⟨a, h1, h2⟩, h3⟩, hx => by
    have e : y = x := by simpa using hx
    subst e
    exact ⟨a, p, h1, h2, rfl⟩
  | y :: xs, p :: ps, i + 1, x, ⟨_, h3⟩, hx => by
    obtain ⟨b, q, k1, k2, k3⟩ := InnAt.at_ (i := i) h3 (by simpa using hx)
    exact ⟨b, q, k1, k2, by simpa using k3⟩
end Fs

set_option Elab.async false
set_option linter.all false
set_option maxRecDepth 100000
set_option maxHeartbeats 2000000
/-! Lists of things that stand in the heap; what a list's change leaves. -/
namespace FsK
open PySem PySem.Spec PyProof.Rows L2 Evl FsE FsC FsR Fs
/-- a list may change: what stands in objects and tuples stays -/
structure ExN (H H' : Hp) : Prop where
  ins : ∀ a C dx fs, H a = some (.ins C dx fs) → H' a = some (.ins C dx fs)
  tup : ∀ a xs, H a = some (.tup xs) → H' a = some (.tup xs)
theorem ExN.upd {H : Hp} {l : Addr} {xs ys : List V} (h : H l = some (.lst xs)) : ExN H (upd H l (.lst ys)) := ⟨fun a C dx fs ha => by
    rw [upd_ne (fun z => by rw [z, h] at ha; cases ha)]
    exact ha, fun a xs ha => by
    rw [upd_ne (fun z => by rw [z, h] at ha; cases ha)]
    exact ha⟩
theorem ExN.of {H H' : Hp} (e : Ex H H') : ExN H H' := ⟨fun _ _ _ _ h => e _ _ h, fun _ _ h => e _ _ h⟩
theorem ExN.trans {H H1 H2 : Hp} (e : ExN H H1) (e' : ExN H1 H2) : ExN H H2 := ⟨fun a C dx fs h => e'.ins _ _ _ _ (e.ins _ _ _ _ h), fun a xs h => e'.tup _ _ (e.tup _ _ h)⟩
mutual
theorem PrAt.keep {C : Addr} {H H' : Hp} (e : ExN H H') : ∀ {p : Pr} {a : Addr}, PrAt C H a p → PrAt C H' a p
  | .choice os, a, h => by
    unfold PrAt at h ⊢
    obtain ⟨t, ps, ⟨dx, h1⟩, h2, h3⟩ := h
    exact ⟨t, ps, ⟨dx, e.ins _ _ _ _ h1⟩, e.tup _ _ h2, OfsAt.keep e h3⟩
  | .new n k r, a, h => by
    unfold PrAt at h ⊢
    obtain ⟨t, b, ⟨dx, h1⟩, h2, h3⟩ := h
    exact ⟨t, b, ⟨dx, e.ins _ _ _ _ h1⟩, e.tup _ _ h2, PrAt.keep e h3⟩
  | .cond l r y n, a, h => by
    unfold PrAt at h ⊢
    obtain ⟨t, b, c, ⟨dx, h1⟩, h2, h3, h4⟩ := h
    exact ⟨t, b, c, ⟨dx, e.ins _ _ _ _ h1⟩, e.tup _ _ h2, PrAt.keep e h3, PrAt.keep e h4⟩
  | .call n ops, a, h => by
    unfold PrAt at h ⊢
    obtain ⟨t, u, ⟨dx, h1⟩, h2, h3⟩ := h
    exact ⟨t, u, ⟨dx, e.ins _ _ _ _ h1⟩, e.tup _ _ h2, e.tup _ _ h3⟩
theorem OfsAt.keep {C : Addr} {H H' : Hp} (e : ExN H H') : ∀ {os : Ofs} {ps : List V}, OfsAt C H ps os → OfsAt C H' ps os
  | .nil, ps, h => by
    unfold OfsAt at h ⊢
    exact h
  | .cons c s m op ns r os, ps, h => by
    unfold OfsAt at h ⊢
    obtain ⟨o, u, b, qs, h1, h2, h3, h4, h5⟩ := h
    exact ⟨o, u, b, qs, h1, e.tup _ _ h2, e.tup _ _ h3, PrAt.keep e h4, OfsAt.keep e h5⟩
end
/-- item by item -/
def LsA {α : Type} (R : Hp → V → α → Prop) (H : Hp) : List V → List α → Prop
  | [], [] => True
  | v :: vs, x :: xs => R H v x ∧ LsA R H vs xs
  | _, _ => False
section
variable {α : Type} {R : Hp → V → α → Prop} {H H' : Hp}
theorem LsA.imp (e : ∀ v x, R H v x → R H' v x) : ∀ {vs : List V} {xs : List α}, LsA R H vs xs → LsA R H' vs xs
  | [], [], _ => True.intro
  | _ :: _, _ :: _, h => ⟨e _ _ h.1, LsA.imp e h.2⟩
  | [], _ :: _, h => h.elim
  | _ :: _, [], h => h.elim
theorem LsA.append : ∀ {vs ws : List V} {xs ys : List α}, LsA R H vs xs → LsA R H ws ys → LsA R H (vs ++ ws) (xs ++ ys)
  | [], _, [], _, _, g => g
  | _ :: _, _, _ :: _, _, h, g => ⟨h.1, LsA.append h.2 g⟩
  | [], _, _ :: _, _, h, _ => h.elim
  | _ :: _, _, [], _, h, _ => h.elim
theorem LsA.snoc {v : V} {x : α} {vs : List V} {xs : List α} (h : LsA R H vs xs) (hv : R H v x) : LsA R H (vs ++ [v]) (xs ++ [x]) := h.append ⟨hv, True.intro⟩
theorem LsA.length : ∀ {vs : List V} {xs : List α}, LsA R H vs xs → vs.length = xs.length
  | [], [], _ => rfl
  | _ :: _, _ :: _, h => congrArg (· + 1) (LsA.length h.2)
  | [], _ :: _, h => h.elim
  | _ :: _, [], h => h.elim
theorem LsA.get : ∀ {vs : List V} {xs : List α} {i : Nat} {v : V}, LsA R H vs xs → vs[i]? = some v → ∃ x, xs[i]? = some x ∧ R H v x
  | _ :: _, x :: _, 0, v, h, e => ⟨x, rfl, by cases e; exact h.1⟩
  | _ :: _, _ :: _, i + 1, v, h, e => LsA.get (i := i) h.2 e
  | [], _, _, _, _, e => by simp at e
  | _ :: _, [], _, _, h, _ => h.elim
theorem LsA.at_ {vs : List V} {xs : List α} {i : Nat} (h : LsA R H vs xs) (hi : i < vs.length) : ∃ v x, vs[i]? = some v ∧ xs[i]? = some x ∧ R H v x := by
  obtain ⟨x, h1, h2⟩ := LsA.get h (List.getElem?_eq_getElem hi)
  exact ⟨_, x, List.getElem?_eq_getElem hi, h1, h2⟩
end
/-- it evaluates to something with this word -/
def EvS (te : TE) (σ : L2.St) (H : Hp) (Pv : V → Hp → Prop) : Prop := ∀ H1, Ex H H1 → ∀ Q : VK, (∀ v H2, Ex H1 H2 → Pv v H2 → Q v H2) → te σ H1 Q
section
variable {σ : L2.St} {H : Hp} {te ta : TE} {Pv : V → Hp → Prop} {K : PySem.W.Frag} {D : Ends} {tz : TS}
theorem s_appS {l : Addr} {xs : List V} (hl : H l = some (.lst xs)) (ha : Ev ta σ H (.ref l)) (h : EvS te σ H Pv) (hz : xs.length < 100000) (k : ∀ v H1, Ex H H1 → Pv v H1 → D.nx σ (upd H1 l (.lst (xs ++ [v])))) :
    tDrop (tBM K "list" rAppend ta (tCons te tNil)) D σ H := ha H (Ex.refl H) _ fun H1 e1 =>
  ⟨Or.inl ⟨rfl, xs, sq_of (e1 l _ hl)⟩, h H1 e1 _ fun v H2 e2 hv => ⟨l, xs, v, rfl, rfl, e2 l _ (e1 l _ hl), sz_lt hz, k v H2 (e1.trans e2) hv⟩⟩
theorem q_asgS {i : Nat} (h : EvS te σ H Pv) (k : ∀ v H1, Ex H H1 → Pv v H1 → tz D (σ.set i (some v)) H1) : tSeq (tAsg te (gName i)) tz D σ H := h H (Ex.refl H) _ fun v H1 e1 hv => k v H1 e1 hv
theorem s_retS (h : EvS te σ H Pv) (k : ∀ v H1, Ex H H1 → Pv v H1 → D.rt v H1) : tRet te D σ H := h H (Ex.refl H) _ fun v H1 e1 hv => k v H1 e1 hv
/-- a slice of a new list -/
theorem el_slN {tl th : TO} {xs : List V} {lo hi : Option Int} (h : EvL te σ H xs) (h1 : EvO tl σ H lo) (h2 : EvO th σ H hi) : EvL (tSl (rSlL K) te tl th) σ H (cutV xs lo hi) := fun H1 e Q q =>
  h H1 e _ fun a H2 ha e2 h2' => h1 H2 (e.trans e2) _ fun H3 e3 => h2 H3 ((e.trans e2).trans e3) _ fun H4 e4 =>
    ⟨a, xs, rfl, sq_of ((e3.trans e4) _ _ h2'), fun p hp => q p _ (fresh_back ((e2.trans e3).trans e4) hp) (((e2.trans e3).trans e4).trans (Ex.new hp)) upd_same⟩
end
end FsK

set_option Elab.async false
set_option linter.all false
set_option maxRecDepth 100000
set_option maxHeartbeats 2000000
/-! o[i] and len(o) by an own class's __getitem__ and __len__; d.update(e); a statement that is never met. -/
namespace FsR
open PySem PySem.Spec PyProof.Rows L2
theorem run_atS {X : Cx} {CX : CXT} {k : Nat} {f : Addr} {fd : FuncData} {ps : List Str} {sp : Sp} {E : L2.St → XK} {pins : List (Addr × Obj)} {σ : L2.St} {H : Hp} {s : Shared} {Q : VK} {us : List Value} {vs : List V} {A : Around} (F : FnOk X.prog X.w X.K X.mg X.base CX k f fd ps sp) (hr : Room k A)
    (he : Env0 X.prog X.w X.K X.mg X.base A X.stack s H) (hb : Binds X.K fd ps []) (hx : PassesAt CX X σ (E σ))
    (I : Inv X pins σ H s) (r : Vals vs us) (h : sp vs H Q (E σ)) : wpAny (model X.prog X.w) A (call (.ref f) us) (EP X pins σ Q) X.xe s := by
  have hl : us.length = ps.length := by rw [← r.length]; exact F.len _ _ _ _ h
  have b := hb s us I.kIn (by rw [List.append_nil]; exact hl)
  rw [List.append_nil] at b
  refine wpAny_call (codeAny_mono (F.run A X.stack s H ⟨us, []⟩ us vs Q (E σ) hr he b r h) fun r s' hq => ?_)
  cases r with
  | error e => exact hx pins H s e s' I hq
  | ok fl =>
    cases fl with
    | ret u => exact I.after hq
    | next => exact False.elim hq
    | brk => exact False.elim hq
    | cont => exact False.elim hq
structure IxM (K : PySem.W.Frag) (C : Addr) (g : Addr) : Prop where
  at_ : PySem.W.findIn K (.ref C) "__getitem__" = some (some (.ref g))
  fn : PySem.W.isFn K (.ref g) = true
  fi : PySem.W.fnIn K g = true
/-- o[i] -/
def tIxO (C : Addr) (sp : Sp) (E : L2.St → XK) (ta tb : TE) : TE := fun σ H Q => ta σ H fun x H1 => tb σ H1 fun y H2 => ∃ (a dx : Addr) (fs : List (Str × V)), x = .ref a ∧ H2 a = some (.ins C dx fs) ∧ sp [.ref a, y] H2 Q (E σ)
theorem pe_ixO {X : Cx} {CX : CXT} {k : Nat} {C g : Addr} {fd : FuncData} {ps : List Str} {sp : Sp} {E : L2.St → XK} {ea eb : Expr} {pos : Pos} {ta tb : TE} (ha : PE X ea ta) (hb : PE X eb tb) (M : IxM X.K C g) (F : FnOk X.prog X.w X.K X.mg X.base CX k g fd ps sp) (hr : Room (k + 1) X.A) (hd : Binds X.K fd ps [])
    (hx : ∀ σ, PassesAt CX X σ (E σ)) (hsl : ∀ v i, subscripted eb true v i = runValue (.builtin "lifetime.subscript" ⟨[v, i], []⟩) := by intro _ _; with_unfolding_all rfl) : PE X (.Subscript ea eb pos) (tIxO C sp E ta tb) := by
  refine ⟨fun pins s σ H Q I h => ?_⟩
  refine Subscript_ (binT ha hb I h fun v u s2 x y H2 I2 rx ry q => ?_)
  obtain ⟨a, dx, fs, rfl, h1, q⟩ := q
  obtain rfl : v = Value.ref a := rx
  obtain ⟨_, O1, _, _, _, _⟩ := ins_get I2.hok h1
  obtain ⟨_, i1, _⟩ := O1.look
  obtain ⟨m, fr⟩ := I2.fr
  refine PySem.W.sub_K fr I2.ok.mod.kin i1 M.at_ M.fi M.fn ?_ (hsl _ _)
  exact run_atS (us := [.ref a, u]) (vs := [.ref a, y]) F hr.in1 I2.env0.in1 hd (hx σ) I2 (.cons rfl (.cons ry .nil)) q
structure LenM (K : PySem.W.Frag) (C : Addr) (g : Addr) : Prop where
  at_ : PySem.W.findIn K (.ref C) "__len__" = some (some (.ref g))
  fn : PySem.W.isFn K (.ref g) = true
/-- len(o) -/
def rLenO (C : Addr) (sp : Sp) (E : XK) : List V → Hp → VK → Prop := fun xs H Q => ∃ (a dx : Addr) (fs : List (Str × V)), xs = [.ref a] ∧ H a = some (.ins C dx fs) ∧ sp [.ref a] H (fun v H' => ∃ n : Nat, v = .int (n : Int) ∧ (n : Int) < 2 ^ 63 ∧ Q (.int (n : Int)) H') E
theorem call_lenO {X : Cx} {CX : CXT} {k : Nat} {C g : Addr} {fd : FuncData} {ps : List Str} {sp : Sp} {E : XK} (M : LenM X.K C g) (F : FnOk X.prog X.w X.K X.mg X.base CX k g fd ps sp) (hr : Room (k + 1) X.A) (hd : Binds X.K fd ps [])
    (hx : ∀ σ, PassesAt CX X σ E) : CallR X (.builtin "len") (rLenO C sp E) := by
  intro pins s σ H xs us Q I r h
  obtain ⟨a, dx, fs, rfl, h1, q⟩ := h
  obtain ⟨u, rfl, ru⟩ := vals1 r
  obtain rfl : u = Value.ref a := ru
  obtain ⟨_, O1, _, _, _, _⟩ := ins_get I.hok h1
  obtain ⟨_, i1, _⟩ := O1.look
  obtain ⟨m, fr⟩ := I.fr
  refine PySem.W.len_K fr I.ok.mod.kin i1 M.at_ M.fn (wpAny_mono (run_atS (E := fun _ => E) (us := [.ref a]) (vs := [.ref a]) F hr.in1 I.env0.in1 hd (hx σ) I (.cons rfl .nil) q) (fun w s' z => ?_) fun _ _ x => x)
  obtain ⟨v, H', J, rv, n, ev, hn, q'⟩ := z
  subst ev
  obtain ⟨t, rfl⟩ := rv
  exact ⟨⟨by omega, hn⟩, .int (n : Int), H', J.tok _, ⟨_, rfl⟩, q'⟩
/-- d.update(e) -/
def rUpd : V → List V → Hp → VK → Prop := fun x vs H Q => ∃ (d o : Addr) (kvs more : List (Key × V)), x = .ref d ∧ vs = [.ref o] ∧ d ≠ o ∧ H d = some (.dK kvs) ∧ H o = some (.dK more) ∧ kvs.length + more.length ≤ 100000 ∧ Q .non (upd H d (.dK (mergeK kvs more)))
theorem mt_update {X : Cx} : MtR X "dict.update" rUpd := by
  intro pins s σ H x xs v us Q I rx rv h
  obtain ⟨d, o, kvs, more, rfl, rfl, hne, hd, ho, hz, q⟩ := h
  obtain rfl : v = Value.ref d := rx
  obtain ⟨u, rfl, ru⟩ := vals1 rv
  obtain rfl : u = Value.ref o := ru
  obtain ⟨z1, y1, v1, r1, d1⟩ := dk_of I.hok hd
  obtain ⟨z2, y2, v2, r2, d2⟩ := dk_of I.hok ho
  have hl : v1.length + v2.length ≤ sizeLine := by
    rw [← r1.length, ← r2.length, sizeLine_eq]
    omega
  refine call_meetsIn PySem.F.slot_dict_update d1.typeIs PySem.F.entry_dict_update (PySem.F.args_dict_update_2 _ _) (meets_dict_update (mixKind X.prog X.w) d o hne y2)
    ⟨v1, v2, d1, d2, hl, fun h' dd' _ hs => ?_⟩
  have he : ∃ q, h'.get? d = some q := let ⟨q, _, _, hq, _⟩ := dd'; ⟨q, hq⟩
  refine ⟨.non, _, d_write I (by rw [hd]; exact True.intro) hs he (dk_new ?_ y1 (r2.merge r1) dd'), rfl, q⟩
  have := length_mergeK more kvs
  rw [sizeLine_eq]
  omega
end FsR

set_option Elab.async false
set_option linter.all false
set_option maxRecDepth 100000
set_option maxHeartbeats 2000000
/-! name = {k: v for ..} on one line. -/
namespace L2
open PySem PySem.Spec PyProof.Rows
theorem ps_setDc {X : Cx} {i : Nat} {y : Str} {py : Pos} {kx vx tg iter : Expr} {ifs : List Expr} {scope : Scope} {own : List (Str × Nat)} {pos spos : Pos} {wi : TI} {g : TG} {tt : TT} {tk tv : TE} (hc : X.calm = true) (hN : X.N.Nodup) (hy : X.N[i]? = some y) (hyl : X.env.scope.names.lookup y = some .local)
    (hsw : swapsWith (.DictComp kx vx [⟨tg, iter, ifs, 0⟩] scope pos) (some (.Name y py)) spos.line X.env = pure true) (hi : PI X tg iter wi) (ok : BlkOk X.N X.env.scope scope own)
    (hg : ∀ (s : Shared) (H : Hp) (C : Addr) (cl : List (Str × Addr)) (fp : List Addr), PG (X.blk s H scope (compEnvC scope cl C X.env) fp) tg g) (ht : ∀ (s : Shared) (H : Hp) (C : Addr) (cl : List (Str × Addr)) (fp : List Addr), PTs (X.blk s H scope (compEnvC scope cl C X.env) fp) ifs tt)
    (hk : ∀ (s : Shared) (H : Hp) (C : Addr) (cl : List (Str × Addr)) (fp : List Addr), PE (X.blk s H scope (compEnvC scope cl C X.env) fp) kx tk)
    (he : ∀ (s : Shared) (H : Hp) (C : Addr) (cl : List (Str × Addr)) (fp : List Addr), PE (X.blk s H scope (compEnvC scope cl C X.env) fp) vx tv) (hs : ∀ x, foldedSetIterable iter X.env x = pure x := by intro _; rfl) :
    PS X (.Assign [.Name y py] (.DictComp kx vx [⟨tg, iter, ifs, 0⟩] scope pos) spos) (tAsg (tDc wi g tt tk tv (own.map (·.2))) (gName i)) := by
  refine ⟨fun pins s σ H D I h => ?_⟩
  rw [exec_Assign_Name_used _ _ _ _ hsw]
  refine wpAny_bind (wpAny_standAt (wpAny_bind ?_))
  show wpAny _ X.A (do let _ ← comprehension (.DictComp kx vx [⟨tg, iter, ifs, 0⟩] scope pos) scope X.env (firstIterPos [⟨tg, iter, ifs, 0⟩] pos) newDict false (eval iter X.env) (some (assign (.Name y py) X.env))) _ _ s
  have h : tDc wi g tt tk tv (own.map (·.2)) σ H (fun x H1 => gName i x σ H1 D.nx) := h
  refine wpAny_bind (thn (dc_core (Qf := fun _ s' => SP X pins D .next s') hc hN I hi ok hg ht hk he hs h fun L C s' m H' I' q hn f => ?_) fun _ s' hq => wpAny_pure (wpAny_pure hq))
  show wpAny _ _ (assign (.Name y py) X.env (.ref L)) _ _ _
  refine wpAny_assign_Name (store_ok2 (v := V.ref L) I' hN hy (.inl hyl) rfl (fun s2 I2 ⟨a, sb, ha⟩ => ?_) (.inr hyl))
  obtain ⟨f0, f1, f2, f3, f4, f5⟩ := f
  have haC : C ≠ a := by
    rcases ha with z | z
    · rw [z]; exact f1
    · exact fun e => f4 y a z e.symm
  refine ⟨m, hn.sameBut sb haC, fun h3 sb3 => ?_⟩
  exact ⟨_, H', I2.turned (t' := s2.toks) (fun b o hb e => (sb3.2 b hb).trans e) f0 f1 f3 f4 f5, q⟩
theorem sw_trueD {kx vx : Expr} {gs : List Comprehension} {scope : Scope} {pos py : Pos} {y : Str} {l : Nat} {env : Env} (hk : env.scope.kind = .function) (hy : env.scope.names.lookup y = some .local) (hl : (py.line == pos.line) = true)
    (ha : (scope.names.any fun (n, k) => n == y && (k == .local || k == .cell)) = false) : swapsWith (.DictComp kx vx gs scope pos) (some (.Name y py)) l env = pure true := by
  have ky : env.kindOf y = some .local := hy
  have hb : env.blockKind = .function := by unfold Env.blockKind; rw [hk]; rfl
  unfold swapsWith
  simp only [hb, ky, ha, Expr.pos, hl]
  rfl
end L2

set_option Elab.async false
set_option linter.all false
set_option maxRecDepth 100000
set_option maxHeartbeats 2000000
/-! xs != [], xs == []. -/
namespace FsR
open PySem PySem.Spec PyProof.Rows L2 Evl
def rNeNil (K : PySem.W.Frag) : R2 := fun x y H Q => ∃ (a b : Addr) (xs : List V), x = .ref a ∧ y = .ref b ∧ SqL K H a xs ∧ SqL K H b [] ∧ Q (.bl (!xs.isEmpty)) H
theorem op_neNil {X : Cx} (hu : X.A.units < cLine) : OpR X (compareOp .NotEq) (rNeNil X.K) := by
  intro pins s σ H x y v u Q I rx ry h
  obtain ⟨a, b, xs, rfl, rfl, ha, hb, q⟩ := h
  obtain rfl : v = Value.ref a := rx
  obtain rfl : u = Value.ref b := ry
  obtain ⟨us, r1, p1, _⟩ := I.list ha
  obtain ⟨ws, r2, p2, _⟩ := I.list hb
  have hws : ws = [] := by
    cases r2
    rfl
  subst hws
  cases r1 with
  | nil =>
    refine SeqAt.RcNeAt.lists (e := fun _ => true) p1.isList p2.isList rfl hu (fun j h1 _ => by simp at h1) X.prog X.w X.xe _ ?_
    exact ⟨.bl false, H, I, rfl, q⟩
  | cons r rs =>
    refine SeqAt.RcNeAt.lists_lengths p1.isList p2.isList (by simp) hu X.prog X.w X.xe _ ?_
    exact ⟨.bl true, H, I, rfl, q⟩
def rEqNil (K : PySem.W.Frag) : R2 := fun x y H Q => ∃ (a b : Addr) (xs : List V), x = .ref a ∧ y = .ref b ∧ SqL K H a xs ∧ SqL K H b [] ∧ Q (.bl xs.isEmpty) H
theorem op_eqNil {X : Cx} (hu : X.A.units < cLine) : OpR X (compareOp .Eq) (rEqNil X.K) := by
  intro pins s σ H x y v u Q I rx ry h
  obtain ⟨a, b, xs, rfl, rfl, ha, hb, q⟩ := h
  obtain rfl : v = Value.ref a := rx
  obtain rfl : u = Value.ref b := ry
  obtain ⟨us, r1, p1, _⟩ := I.list ha
  obtain ⟨ws, r2, p2, _⟩ := I.list hb
  have hws : ws = [] := by
    cases r2
    rfl
  subst hws
  cases r1 with
  | nil =>
    refine SeqAt.RcAt.lists (e := fun _ => true) p1.isList p2.isList rfl hu (fun j h1 _ => by simp at h1) X.prog X.w X.xe _ ?_
    exact ⟨.bl true, H, I, rfl, q⟩
  | cons r rs =>
    refine SeqAt.RcAt.lists_lengths p1.isList p2.isList (by simp) hu X.prog X.w X.xe _ ?_
    exact ⟨.bl false, H, I, rfl, q⟩
theorem rv_neNil {K : PySem.W.Frag} {H : Hp} {a b : Addr} {xs : List V} (ha : SqL K H a xs) (hb : SqL K H b []) : RV (rNeNil K) (.ref a) (.ref b) H (.bl (!xs.isEmpty)) := fun H1 e _ q => ⟨a, b, xs, rfl, rfl, ex_l e ha, ex_l e hb, q H1 (Ex.refl H1)⟩
theorem rv_eqNil {K : PySem.W.Frag} {H : Hp} {a b : Addr} {xs : List V} (ha : SqL K H a xs) (hb : SqL K H b []) : RV (rEqNil K) (.ref a) (.ref b) H (.bl xs.isEmpty) := fun H1 e _ q => ⟨a, b, xs, rfl, rfl, ex_l e ha, ex_l e hb, q H1 (Ex.refl H1)⟩
end FsR
namespace FsR
open PySem PySem.Spec PyProof.Rows L2 Evl
/-- xs != ys, the same objects in both -/
def rNeSame (K : PySem.W.Frag) : R2 := fun x y H Q => ∃ (a b : Addr) (xs : List V), x = .ref a ∧ y = .ref b ∧ SqL K H a xs ∧ SqL K H b xs ∧ (∀ v ∈ xs, ∃ c, v = V.ref c) ∧ Q (.bl false) H
theorem vals_refs : ∀ {xs : List V} {us ws : List Value}, (∀ v ∈ xs, ∃ c, v = V.ref c) → Vals xs us → Vals xs ws → us = ws
  | _, _, _, _, .nil, .nil => rfl
  | x :: xs, _ :: _, _ :: _, h, .cons r rs, .cons t ts => by
    obtain ⟨c, rfl⟩ := h x List.mem_cons_self
    cases r
    cases t
    rw [vals_refs (fun v hv => h v (List.mem_cons_of_mem _ hv)) rs ts]
theorem op_neSame {X : Cx} (hu : X.A.units < cLine) : OpR X (compareOp .NotEq) (rNeSame X.K) := by
  intro pins s σ H x y v u Q I rx ry h
  obtain ⟨a, b, xs, rfl, rfl, ha, hb, hx, q⟩ := h
  obtain rfl : v = Value.ref a := rx
  obtain rfl : u = Value.ref b := ry
  obtain ⟨us, r1, p1, _⟩ := I.list ha
  obtain ⟨ws, r2, p2, _⟩ := I.list hb
  have e := vals_refs hx r1 r2
  subst e
  refine SeqAt.RcNeAt.lists (e := fun _ => true) p1.isList p2.isList rfl hu (fun j h1 _ => SeqAt.EqAt.same _) X.prog X.w X.xe _ ?_
  refine ⟨.bl false, H, I, ?_, q⟩
  show Value.bool _ = Value.bool false
  simp
theorem rv_neSame {K : PySem.W.Frag} {H : Hp} {a b : Addr} {xs : List V} (ha : SqL K H a xs) (hb : SqL K H b xs) (hx : ∀ v ∈ xs, ∃ c, v = V.ref c) : RV (rNeSame K) (.ref a) (.ref b) H (.bl false) := fun H1 e _ q => ⟨a, b, xs, rfl, rfl, ex_l e ha, ex_l e hb, hx, q H1 (Ex.refl H1)⟩
end FsR

set_option Elab.async false
set_option linter.all false
set_option maxRecDepth 100000
set_option maxHeartbeats 2000000
namespace Fs
open PySem L2 Evl FsE FsC
def topS (i : Nat) : Stmt := PySem.Challenge.pw_fullseats_k42_messages_written.main.body.getD i (.Pass ⟨0, 0, 0, 0⟩)
structure LawT (K : PySem.W.Frag) (mg : Str → Option Value) : Prop where
  len : mg "len" = none
  int : mg "int" = none
  abs : mg "abs" = none
  range : mg "range" = none
section
variable {P : Program} {w : World} {K : PySem.W.Frag} {mg : Str → Option Value} {base : Heap}
theorem rc_int {K : PySem.W.Frag} {i : Int} {H : Hp} : RC (fun xs H Q => (∃ i, xs = [V.int i] ∧ Q (.int i) H) ∨ ∃ k, xs = [V.bl k] ∧ Q (.int (if k then 1 else 0)) H) [.int i] H (.int i) := fun H1 _ Q q => .inl ⟨i, rfl, q H1 (Ex.refl H1)⟩
/-- _law_cell_at(script, k): some int -/
def spCellAt (K : PySem.W.Frag) : Sp := fun vs H Q _ => ∃ (a : Addr) (ns : List Int) (k : Nat), vs = [.ref a, .int (k : Int)] ∧ SqL K H a (ns.map V.int) ∧ ∀ i : Int, RetV (.int i) H Q
theorem scCellAt : FnScope ["_law_script", "_law_k"] ["_law_script", "_law_k"] (defScope (topS 29)) := ⟨rfl, rfl, rfl, by decide +kernel, rfl, by decide +kernel, by decide +kernel⟩
theorem ok_cell_at {f : Addr} {fd : FuncData} (F : Fun K "_law_cell_at" "_law_cell_at" (topS 29) f fd) (T : LawT K mg) : FnOk P w K mg base CX0 1 f fd ["_law_script", "_law_k"] (spCellAt K) := by
  refine F.ok scCellAt (fun vs H Q E h => ?_) (fun cdv A outer s H vs Q E hr h => ?_)
  · obtain ⟨a, ns, k, rfl, _⟩ := h
    rfl
  · obtain ⟨a, ns, k, rfl, hS, q⟩ := h
    refine ⟨_, pss_cons (ps_if (pt_cmpR op_lt (pv 1) (pe_callB call_len_seq (by rfl) T.len PySem.boot_len (pa_cons (pv 0) pa_nil)) (nomark _)) (pss_one (ps_ret (pe_ix ix_list (pv 0) (pv 1) (fun _ _ => rfl)))) pss_nil) (pss_one (ps_ret pe_int)), ?_⟩
    refine q_when (b := decide ((k : Int) < ((ns.map V.int).length : Nat))) (et_test (ev_op (ev_var rfl) (ev_cb (ea_cons (ev_var rfl) ea_nil) (fun H2 e2 Q' q' => ⟨a, _, rfl, .inl (ex_l e2 hS), q' H2 (Ex.refl H2)⟩)) rv_I0)) (fun hb H1 e1 => ?_) (fun hb H1 e1 => ?_)
    · have hk : k < ns.length := by
        have : (k : Int) < ((ns.map V.int).length : Nat) := by simpa using hb
        rw [List.length_map] at this
        omega
      refine s_ret (v := .int ns[k]) (ev_op (ev_var rfl) (ev_var rfl) (rv_ixL (ex_l e1 hS) (atI_nat (by rw [List.getElem?_map, List.getElem?_eq_getElem hk]; rfl)))) (fun H2 e2 => q _ H2 (e1.trans e2))
    · exact s_ret ev_c (fun H2 e2 => q _ H2 (e1.trans e2))
/-- _law_mixed(cell, k): some int -/
def spMixed : Sp := fun vs H Q _ => ∃ (c : Int) (k : Nat), vs = [.int c, .int (k : Int)] ∧ k ≤ 1000 ∧ ∀ i : Int, RetV (.int i) H Q
theorem scMixed : FnScope ["_law_cell", "_law_k", "_law_spread"] ["_law_cell", "_law_k"] (defScope (topS 30)) := ⟨rfl, rfl, rfl, by decide +kernel, rfl, by decide +kernel, by decide +kernel⟩
theorem ok_mixed {f : Addr} {fd : FuncData} (F : Fun K "_law_mixed" "_law_mixed" (topS 30) f fd) (T : LawT K mg) : FnOk P w K mg base CX0 1 f fd ["_law_cell", "_law_k"] spMixed := by
  refine F.ok scMixed (fun vs H Q E h => ?_) (fun cdv A outer s H vs Q E hr h => ?_)
  · obtain ⟨c, k, rfl, _⟩ := h
    rfl
  · obtain ⟨c, k, rfl, hk, q⟩ := h
    refine ⟨_, pss_cons (ps_set (i := 2) scMixed.nd rfl (Or.inl rfl) (pe_op op_mod (pe_callTy call_int1 (by rfl) T.int (by decide +kernel) (pa_cons (pe_op op_pow (pe_op op_add (pe_op op_add (pe_op op_mod (pe_callTy call_int1 (by rfl) T.int (by decide +kernel) (pa_cons (pv 0) pa_nil)) pe_int) (pe_op op_mul pe_int (pv 1))) pe_int) pe_int) pa_nil)) pe_int))
      (pss_one (ps_ret (pe_op op_mod (pe_callTy call_int1 (by rfl) T.int (by decide +kernel) (pa_cons (pe_op op_mul (pe_op op_add (pv 2) (pv 1)) pe_int) pa_nil)) pe_int))), ?_⟩
    have h1 := Int.emod_nonneg c (b := 2147483647) (by decide)
    have h2 := Int.emod_lt_of_pos c (b := 2147483647) (by decide)
    refine ⟨.int c, rfl, .inl ⟨c, rfl, c, 2147483647, rfl, rfl, (by decide : (0 : Int) < 2147483647), ?_⟩⟩
    refine ⟨.int (k : Int), rfl, 7919, (k : Int), rfl, rfl, .inl ⟨by decide, by decide⟩, ?_⟩
    refine ⟨c % 2147483647, 7919 * (k : Int), rfl, rfl, c % 2147483647 + 7919 * (k : Int), 104729, rfl, rfl, ?_⟩
    refine ⟨c % 2147483647 + 7919 * (k : Int) + 104729, 5, rfl, rfl, ⟨by decide, by decide, by omega⟩, ?_⟩
    refine .inl ⟨_, rfl, _, 2147483647, rfl, rfl, (by decide : (0 : Int) < 2147483647), ?_⟩
    refine ⟨_, rfl, .int (k : Int), rfl, _, (k : Int), rfl, rfl, _, 40692, rfl, rfl, .inr ⟨by decide, by decide⟩, ?_⟩
    refine .inl ⟨_, rfl, _, 2147483629, rfl, rfl, (by decide : (0 : Int) < 2147483629), ?_⟩
    exact q _ H (Ex.refl H)
theorem if_Tz {c : Prop} [Decidable c] {A B : Prop} (h : c) (a : A) : if c then A else B := by rw [if_pos h]; exact a
theorem if_Fz {c : Prop} [Decidable c] {A B : Prop} (h : ¬ c) (b : B) : if c then A else B := by rw [if_neg h]; exact b
/-- _law_row(cell, many): so many ints from 0 to 999 -/
def RowOk (row : List Int) : Prop := ∀ v ∈ row, 0 ≤ v ∧ v < 1000
def spRow : Sp := fun vs H Q _ => ∃ (c : Int) (n : Nat), vs = [.int c, .int (n : Int)] ∧ n ≤ 500 ∧ ∀ row : List Int, row.length = n → RowOk row → RetL (row.map V.int) H Q
theorem scRow : FnScope ["_law_cell", "_law_many", "_law_rest", "_law_row_here", "_law_k"] ["_law_cell", "_law_many"] (defScope (topS 31)) := ⟨rfl, rfl, rfl, by decide +kernel, rfl, by decide +kernel, by decide +kernel⟩
theorem rowOk_add {row : List Int} {v : Int} (h : RowOk row) (h0 : 0 ≤ v) (h1 : v < 1000) : RowOk (row ++ [v]) := fun x hx => by
  rcases List.mem_append.mp hx with hx | hx
  · exact h x hx
  · rw [List.mem_singleton.mp hx]
    exact ⟨h0, h1⟩
theorem ok_row {f : Addr} {fd : FuncData} (F : Fun K "_law_row" "_law_row" (topS 31) f fd) (T : LawT K mg) (GM : CalX P w K mg base CX0 1 "_law_mixed" spMixed) : FnOk P w K mg base CX0 2 f fd ["_law_cell", "_law_many"] spRow := by
  refine F.ok scRow (fun vs H Q E h => ?_) (fun cdv A outer s H vs Q E hr h => ?_)
  · obtain ⟨c, n, rfl, _⟩ := h
    rfl
  · obtain ⟨c, n, rfl, hn, q⟩ := h
    refine ⟨_, pss_cons (ps_set (i := 2) scRow.nd rfl (Or.inl rfl) (pe_ifExp (pt_cmpR op_ge (pe_callB call_abs (by rfl) T.abs (by decide +kernel) (pa_cons (pv 0) pa_nil)) (pe_op op_pow pe_int pe_int) (nomark _)) (pe_callB call_abs (by rfl) T.abs (by decide +kernel) (pa_cons (pv 0) pa_nil)) pe_int))
      (pss_cons (ps_set (i := 3) scRow.nd rfl (Or.inl rfl) (pe_lst pa_nil))
      (pss_cons (ps_for PassesOwn.never rfl (pi_range1 rfl T.range (pa_cons (pv 1) pa_nil)) (pg_name (i := 4) scRow.nd rfl (Or.inl rfl))
        (pss_cons (ps_expr (pe_bm PySem.F.plainAttrs_list PySem.F.slot_list_append PySem.F.type_list_append mt_append (pv 3) (pa_cons (pe_op op_mod (pe_callTy call_int1 (by rfl) T.int (by decide +kernel) (pa_cons (pe_ifExp (pt_cmpR op_gt (pv 2) pe_int (nomark _)) (pv 2) (pe_cx (E := fun _ => E0) GM hr (by decide) (by rfl) at0 (pa_cons (pv 0) (pa_cons (pv 4) pa_nil)))) pa_nil)) pe_int) pa_nil)))
          (pss_one (ps_set (i := 2) scRow.nd rfl (Or.inl rfl) (pe_op op_fdiv (pv 2) pe_int)))))
      (pss_one (ps_ret (pv 3))))), ?_⟩
    have ha : ∀ {H1 : Hp}, Ev (tCB (fun xs H Q => ∃ i : Int, xs = [V.int i] ∧ Q (.int (if i < 0 then -i else i)) H) (tCons (tVar 0) tNil)) [some (.int c), some (.int (n : Int)), none, none, none] H1 (.int (if c < 0 then -c else c)) := fun {H1} => ev_cb (ea_cons (ev_var rfl) ea_nil) (fun H4 _ Q' q' => ⟨c, rfl, q' H4 (Ex.refl H4)⟩)
    obtain ⟨r, hr⟩ : ∃ r : Int, r = if decide ((10 : Int) ^ (18 : Int).toNat ≤ if c < 0 then -c else c) = true then (if c < 0 then -c else c) else 0 := ⟨_, rfl⟩
    refine q_asg (v := .int r) (ev_if (b := decide ((10 : Int) ^ (18 : Int).toNat ≤ if c < 0 then -c else c)) (et_test (ev_op ha (ev_op ev_c ev_c (rv_I ⟨by decide, by decide, by decide⟩)) rv_I0)) (fun hb => ?_) (fun hb => ?_)) (fun H1 e1 => ?_)
    · rw [hr, if_pos hb]
      exact ha
    · rw [hr, if_neg (by rw [hb]; exact Bool.false_ne_true)]
      exact ev_c
    clear hr ha
    refine q_asgL (xs := []) (el_lst ea_nil (by decide)) (fun l H2 hl e2 h2 => ?_)
    have hlH : H l = none := fresh_back e1 hl
    refine q_forR1 (n := (n : Int)) (ea_cons (ev_var rfl) ea_nil) (by omega) (fun i σ' H' => ∃ (row : List Int) (rest : Int) (v4 : Option V), σ' = [some (.int c), some (.int (n : Int)), some (.int rest), some (.ref l), v4] ∧ H' l = some (.lst (row.map V.int)) ∧ row.length = i ∧ RowOk row ∧ Ex H H')
        (fun H4 e4 => ⟨[], r, none, rfl, e4 _ _ h2, rfl, (fun v hv => nomatch hv), (e1.trans e2).trans e4⟩) (fun i σ' H' hi ⟨row, rest, v4, hσ, hl', hlen, hrow, he⟩ => ?_) (fun σ' H' ⟨row, rest, v4, hσ, hl', hlen, hrow, he⟩ => ?_)
    · subst hσ
      have hsz : (row.map V.int).length < 100000 := by rw [List.length_map]; omega
      have app : ∀ v : Int, row.map V.int ++ [V.int v] = (row ++ [v]).map V.int := fun v => by rw [List.map_append]; rfl
      have go : ∀ (v : Int) (H5 : Hp), Ex H' H5 → 0 ≤ v → v < 1000 → ∃ (row' : List Int) (rest' : Int) (v4' : Option V), ([some (V.int c), some (.int (n : Int)), some (.int (rest / 1000)), some (.ref l), some (.int (i : Int))] : L2.St) = [some (.int c), some (.int (n : Int)), some (.int rest'), some (.ref l), v4'] ∧ upd H5 l (.lst (row.map V.int ++ [V.int v])) l = some (.lst (row'.map V.int)) ∧ row'.length = i + 1 ∧ RowOk row' ∧ Ex H (upd H5 l (.lst (row.map V.int ++ [V.int v]))) := fun v H5 e5 v0 v1 => ⟨row ++ [v], _, _, rfl, by rw [← app]; exact upd_same, (by rw [List.length_append, hlen]; rfl), rowOk_add hrow v0 v1, Ex.mut (he.trans e5) hlH⟩
      refine ⟨_, rfl, .inl ⟨rfl, _, sq_of hl'⟩, ?_⟩
      cases hb : decide (0 < rest) with
      | true =>
        have h0 : 0 < rest := of_decide_eq_true hb
        refine ⟨_, rfl, _, _, rfl, rfl, _, rfl, ?_⟩
        rw [hb]
        refine if_Tz (c := true = true) rfl ?_
        refine ⟨_, rfl, .inl ⟨rest, rfl, rest, 1000, rfl, rfl, (by decide : (0 : Int) < 1000), l, row.map V.int, .int (rest % 1000), rfl, rfl, hl', sz_lt hsz, ?_⟩⟩
        refine s_asg (v := .int (rest / 1000)) (ev_op (x := .int rest) (ev_var rfl) ev_c (rv_I ⟨by decide, by decide⟩)) (fun H6 e6 => ?_)
        obtain ⟨row', rest', v4', h1, h2', h3, h4, h5⟩ := go (rest % 1000) H' (Ex.refl H') (Int.emod_nonneg _ (by decide)) (Int.emod_lt_of_pos _ (by decide))
        exact ⟨row', rest', v4', h1, e6 _ _ h2', h3, h4, h5.trans e6⟩
      | false =>
        refine ⟨_, rfl, _, _, rfl, rfl, _, rfl, ?_⟩
        rw [hb]
        refine if_Fz (c := false = true) (by decide) ?_
        refine ⟨_, rfl, _, rfl, c, i, rfl, by omega, fun m H5 e5 => .inl ⟨m, rfl, m, 1000, rfl, rfl, (by decide : (0 : Int) < 1000), l, row.map V.int, .int (m % 1000), rfl, rfl, e5 _ _ hl', sz_lt hsz, ?_⟩⟩
        refine s_asg (v := .int (rest / 1000)) (ev_op (x := .int rest) (ev_var rfl) ev_c (rv_I ⟨by decide, by decide⟩)) (fun H6 e6 => ?_)
        obtain ⟨row', rest', v4', h1, h2', h3, h4, h5⟩ := go (m % 1000) H5 e5 (Int.emod_nonneg _ (by decide)) (Int.emod_lt_of_pos _ (by decide))
        exact ⟨row', rest', v4', h1, e6 _ _ h2', h3, h4, h5.trans e6⟩
    · subst hσ
      have hn' : row.length = n := by simpa using hlen
      exact s_ret (ev_var rfl) (fun H4 e4 => q row hn' hrow l H4 hlH (he.trans e4) (e4 _ _ hl'))
end
end Fs

set_option Elab.async false
set_option linter.all false
set_option maxRecDepth 100000
set_option maxHeartbeats 2000000
/-! data of ints, texts and tuples, at a value of the heap -/
namespace FsV
open PySem L2 Evl FsE
mutual
def DaAt (H : Hp) (v : V) : PyData → Prop
  | .int i => v = .int i
  | .str z => v = .str z
  | .tuple ds => ∃ (a : Addr) (xs : List V), v = .ref a ∧ H a = some (.tup xs) ∧ DaL H xs ds
  | _ => False
def DaL (H : Hp) (xs : List V) : List PyData → Prop
  | [] => xs = []
  | d :: ds => ∃ (v : V) (vs : List V), xs = v :: vs ∧ DaAt H v d ∧ DaL H vs ds
end
/-- tuples stay -/
def TK (H H' : Hp) : Prop := ∀ a xs, H a = some (.tup xs) → H' a = some (.tup xs)
theorem TK.of {H H' : Hp} (e : Ex H H') : TK H H' := fun a xs h => e a _ h
theorem TK.trans {H H1 H2 : Hp} (e : TK H H1) (f : TK H1 H2) : TK H H2 := fun a xs h => f a xs (e a xs h)
mutual
theorem DaAt.keep {H H' : Hp} (e : TK H H') : ∀ {d : PyData} {v : V}, DaAt H v d → DaAt H' v d
  | .int i, v, h => by unfold DaAt at h ⊢; exact h
  | .str z, v, h => by unfold DaAt at h ⊢; exact h
  | .tuple ds, v, h => by
    unfold DaAt at h ⊢
    obtain ⟨a, xs, h1, h2, h3⟩ := h
    exact ⟨a, xs, h1, e _ _ h2, DaL.keep e h3⟩
  | .none, v, h => by unfold DaAt at h; exact h.elim
  | .bool _, v, h => by unfold DaAt at h; exact h.elim
  | .list _, v, h => by unfold DaAt at h; exact h.elim
  | .dict _, v, h => by unfold DaAt at h; exact h.elim
theorem DaL.keep {H H' : Hp} (e : TK H H') : ∀ {ds : List PyData} {xs : List V}, DaL H xs ds → DaL H' xs ds
  | [], xs, h => by unfold DaL at h ⊢; exact h
  | d :: ds, xs, h => by
    unfold DaL at h ⊢
    obtain ⟨v, vs, h1, h2, h3⟩ := h
    exact ⟨v, vs, h1, DaAt.keep e h2, DaL.keep e h3⟩
end
theorem DaAt.ex {H H' : Hp} (e : Ex H H') {d : PyData} {v : V} (h : DaAt H v d) : DaAt H' v d := h.keep (TK.of e)
theorem DaL.ex {H H' : Hp} (e : Ex H H') {ds : List PyData} {xs : List V} (h : DaL H xs ds) : DaL H' xs ds := h.keep (TK.of e)
section
variable {K : PySem.W.Frag} {H : Hp}
mutual
theorem dp_da : ∀ {d : PyData} {v : V}, DaAt H v d → Dp K H v d
  | .int i, v, h => by unfold DaAt at h; subst h; exact .int i
  | .str z, v, h => by unfold DaAt at h; subst h; exact .str z
  | .tuple ds, v, h => by
    unfold DaAt at h
    obtain ⟨a, xs, h1, h2, h3⟩ := h
    subst h1
    exact .tup (st_of h2) (dp_dal h3)
  | .none, v, h => by unfold DaAt at h; exact h.elim
  | .bool _, v, h => by unfold DaAt at h; exact h.elim
  | .list _, v, h => by unfold DaAt at h; exact h.elim
  | .dict _, v, h => by unfold DaAt at h; exact h.elim
theorem dp_dal : ∀ {ds : List PyData} {xs : List V}, DaL H xs ds → DpAll K H xs ds
  | [], xs, h => by unfold DaL at h; subst h; exact .nil
  | d :: ds, xs, h => by
    unfold DaL at h
    obtain ⟨v, vs, h1, h2, h3⟩ := h
    subst h1
    exact .cons (dp_da h2) (dp_dal h3)
end
end
mutual
def Pl : PyData → Prop
  | .int _ => True
  | .str z => PyData.strOk z = true
  | .tuple ds => PlL ds
  | _ => False
def PlL : List PyData → Prop
  | [] => True
  | d :: ds => Pl d ∧ PlL ds
end
mutual
theorem eqv_pl : ∀ (d e : PyData), Pl d → Pl e → (PyData.eqv d e = true ↔ d = e)
  | .int i, e, h, g => by
    cases e <;> simp_all [Pl, PyData.eqv]
  | .str z, e, h, g => by
    cases e <;> simp_all [Pl, PyData.eqv]
  | .tuple ds, e, h, g => by
    cases e with
    | tuple es =>
      unfold Pl at h g
      have := eqv_plL ds es h g
      simp [PyData.eqv, this]
    | _ => simp_all [Pl, PyData.eqv]
  | .none, e, h, g => by unfold Pl at h; exact h.elim
  | .bool _, e, h, g => by unfold Pl at h; exact h.elim
  | .list _, e, h, g => by unfold Pl at h; exact h.elim
  | .dict _, e, h, g => by unfold Pl at h; exact h.elim
theorem eqv_plL : ∀ (ds es : List PyData), PlL ds → PlL es → (PyData.eqvAll ds es = true ↔ ds = es)
  | [], es, h, g => by cases es <;> simp [PyData.eqvAll]
  | d :: ds, es, h, g => by
    cases es with
    | nil => simp [PyData.eqvAll]
    | cons e es =>
      unfold PlL at h g
      have h1 := eqv_pl d e h.1 g.1
      have h2 := eqv_plL ds es h.2 g.2
      simp [PyData.eqvAll, h1, h2]
end
mutual
theorem lay_pl : ∀ (d : PyData), Pl d → d.canLay0 = true
  | .int i, h => by simp [PyData.canLay0]
  | .str z, h => by unfold Pl at h; simp [PyData.canLay0, h]
  | .tuple ds, h => by
    unfold Pl at h
    simp [PyData.canLay0, lay_plL ds h]
  | .none, h => by unfold Pl at h; exact h.elim
  | .bool _, h => by unfold Pl at h; exact h.elim
  | .list _, h => by unfold Pl at h; exact h.elim
  | .dict _, h => by unfold Pl at h; exact h.elim
theorem lay_plL : ∀ (ds : List PyData), PlL ds → PyData.canLayAll0 ds = true
  | [], h => by simp [PyData.canLayAll0]
  | d :: ds, h => by
    unfold PlL at h
    simp [PyData.canLayAll0, lay_pl d h.1, lay_plL ds h.2]
end
theorem plL_iff {ds : List PyData} : PlL ds ↔ ∀ d ∈ ds, Pl d := by
  induction ds with
  | nil => simp [PlL]
  | cons d ds ih => simp [PlL, ih]
theorem depthAll_le {k : Nat} : ∀ {ds : List PyData}, (∀ d ∈ ds, d.depth ≤ k) → PyData.depthAll ds ≤ k
  | [], _ => by simp [PyData.depthAll]
  | d :: ds, h => by
    have h1 := h d (List.mem_cons_self ..)
    have h2 := depthAll_le (k := k) (ds := ds) fun x hx => h x (List.mem_cons_of_mem _ hx)
    simp only [PyData.depthAll]
    omega
/-- plain, so deep at most -/
def Pk (k : Nat) (d : PyData) : Prop := Pl d ∧ d.depth ≤ k
theorem Pk.tup {k : Nat} {ds : List PyData} (h : ∀ d ∈ ds, Pk k d) : Pk (k + 1) (.tuple ds) := by
  refine ⟨?_, ?_⟩
  · unfold Pl
    exact plL_iff.mpr fun d hd => (h d hd).1
  · have := depthAll_le fun d hd => (h d hd).2
    simp only [PyData.depth]
    omega
theorem Pk.int {k : Nat} {i : Int} : Pk k (.int i) := ⟨by unfold Pl; trivial, by simp [PyData.depth]⟩
theorem Pk.str {k : Nat} {z : Str} (h : PyData.strOk z = true) : Pk k (.str z) := ⟨by unfold Pl; exact h, by simp [PyData.depth]⟩
theorem Pk.mono {j k : Nat} {d : PyData} (h : Pk j d) (hk : j ≤ k) : Pk k d := ⟨h.1, Nat.le_trans h.2 hk⟩
theorem Pk.shaped {k : Nat} {d : PyData} (h : Pk k d) (hk : k ≤ 64) : SeqAt.shaped d = true := by
  show (d.canLay0 && decide (d.depth ≤ 64)) = true
  rw [lay_pl d h.1, decide_eq_true (Nat.le_trans h.2 hk)]
  rfl
theorem Pk.eqv {j k : Nat} {d e : PyData} (h : Pk j d) (g : Pk k e) : PyData.eqv d e = true ↔ d = e := eqv_pl d e h.1 g.1
/-! lists of data -/
theorem DaL.length {H : Hp} : ∀ {ds : List PyData} {xs : List V}, DaL H xs ds → xs.length = ds.length
  | [], xs, h => by unfold DaL at h; subst h; rfl
  | d :: ds, xs, h => by
    unfold DaL at h
    obtain ⟨v, vs, h1, h2, h3⟩ := h
    subst h1
    rw [List.length_cons, List.length_cons, DaL.length h3]
theorem DaL.get {H : Hp} : ∀ {ds : List PyData} {xs : List V} {i : Nat} {d : PyData}, DaL H xs ds → ds[i]? = some d → ∃ v, xs[i]? = some v ∧ DaAt H v d
  | d :: ds, xs, 0, e, h, g => by
    unfold DaL at h
    obtain ⟨v, vs, h1, h2, h3⟩ := h
    subst h1
    cases g
    exact ⟨v, rfl, h2⟩
  | d :: ds, xs, i + 1, e, h, g => by
    unfold DaL at h
    obtain ⟨v, vs, h1, h2, h3⟩ := h
    subst h1
    exact DaL.get (i := i) h3 g
theorem DaL.got {H : Hp} : ∀ {ds : List PyData} {xs : List V} {i : Nat} {v : V}, DaL H xs ds → xs[i]? = some v → ∃ d, ds[i]? = some d ∧ DaAt H v d
  | [], xs, i, v, h, g => by unfold DaL at h; subst h; simp at g
  | d :: ds, xs, 0, v, h, g => by
    unfold DaL at h
    obtain ⟨w, vs, h1, h2, h3⟩ := h
    subst h1
    cases g
    exact ⟨d, rfl, h2⟩
  | d :: ds, xs, i + 1, v, h, g => by
    unfold DaL at h
    obtain ⟨w, vs, h1, h2, h3⟩ := h
    subst h1
    exact DaL.got (i := i) h3 g
theorem DaL.app {H : Hp} : ∀ {ds es : List PyData} {xs ys : List V}, DaL H xs ds → DaL H ys es → DaL H (xs ++ ys) (ds ++ es)
  | [], es, xs, ys, h, g => by unfold DaL at h; subst h; exact g
  | d :: ds, es, xs, ys, h, g => by
    unfold DaL at h
    obtain ⟨w, vs, h1, h2, h3⟩ := h
    subst h1
    show DaL H (w :: (vs ++ ys)) (d :: (ds ++ es))
    unfold DaL
    exact ⟨w, _, rfl, h2, DaL.app h3 g⟩
theorem DaL.take {H : Hp} : ∀ {ds : List PyData} {xs : List V} (n : Nat), DaL H xs ds → DaL H (xs.take n) (ds.take n)
  | ds, xs, 0, h => by rw [List.take_zero, List.take_zero]; unfold DaL; rfl
  | [], xs, n + 1, h => by unfold DaL at h; subst h; rw [List.take_nil, List.take_nil]; unfold DaL; rfl
  | d :: ds, xs, n + 1, h => by
    unfold DaL at h
    obtain ⟨w, vs, h1, h2, h3⟩ := h
    subst h1
    rw [List.take_succ_cons, List.take_succ_cons]
    unfold DaL
    exact ⟨w, _, rfl, h2, DaL.take n h3⟩
theorem DaL.drop {H : Hp} : ∀ {ds : List PyData} {xs : List V} (n : Nat), DaL H xs ds → DaL H (xs.drop n) (ds.drop n)
  | ds, xs, 0, h => h
  | [], xs, n + 1, h => by unfold DaL at h; subst h; rw [List.drop_nil, List.drop_nil]; unfold DaL; rfl
  | d :: ds, xs, n + 1, h => by
    unfold DaL at h
    obtain ⟨w, vs, h1, h2, h3⟩ := h
    subst h1
    exact DaL.drop n h3
theorem DaL.cons {H : Hp} {d : PyData} {ds : List PyData} {v : V} {vs : List V} (h : DaAt H v d) (g : DaL H vs ds) : DaL H (v :: vs) (d :: ds) := by
  unfold DaL
  exact ⟨v, vs, rfl, h, g⟩
theorem DaL.nil {H : Hp} : DaL H [] [] := by unfold DaL; rfl
theorem da_int {H : Hp} {i : Int} : DaAt H (.int i) (.int i) := by unfold DaAt; rfl
theorem da_str {H : Hp} {z : Str} : DaAt H (.str z) (.str z) := by unfold DaAt; rfl
theorem da_tup {H : Hp} {a : Addr} {xs : List V} {ds : List PyData} (h : H a = some (.tup xs)) (g : DaL H xs ds) : DaAt H (.ref a) (.tuple ds) := by
  unfold DaAt
  exact ⟨a, xs, rfl, h, g⟩
theorem DaAt.int {H : Hp} {v : V} {i : Int} (h : DaAt H v (.int i)) : v = .int i := by unfold DaAt at h; exact h
theorem DaAt.str {H : Hp} {v : V} {z : Str} (h : DaAt H v (.str z)) : v = .str z := by unfold DaAt at h; exact h
theorem DaAt.tup {H : Hp} {v : V} {ds : List PyData} (h : DaAt H v (.tuple ds)) : ∃ (a : Addr) (xs : List V), v = .ref a ∧ H a = some (.tup xs) ∧ DaL H xs ds := by unfold DaAt at h; exact h
theorem DaL.snoc {H : Hp} {d : PyData} {ds : List PyData} {v : V} {vs : List V} (g : DaL H vs ds) (h : DaAt H v d) : DaL H (vs ++ [v]) (ds ++ [d]) := g.app (DaL.cons h DaL.nil)
end FsV

set_option Elab.async false
set_option linter.all false
set_option maxRecDepth 100000
set_option maxHeartbeats 2000000
/-! a written integer read back, pure; a text cut at its blanks -/
namespace FsP
open PySem L2 TL
open Builtin.Str (subAt)
theorem len_l (z : Str) : z.length = z.cps.toList.length := by
  unfold Str.length
  rw [Array.length_toList]
theorem ext_l {x y : Str} (h : x.cps.toList = y.cps.toList) : x = y := Str.ext' (Array.toList_inj.mp h)
def isDig (c : Nat) : Bool := decide (48 ≤ c) && decide (c ≤ 57)
/-- the signs behind a minus -/
def dgL : List Nat → List Nat
  | 45 :: cs => cs
  | cs => cs
theorem subAt_minus (t : Str) : subAt t "-" 0 = true ↔ ∃ cs, t.cps.toList = 45 :: cs := by
  have e : ("-" : Str).cps = #[45] := by decide +kernel
  have hl : ("-" : Str).length = 1 := by decide +kernel
  unfold subAt
  rw [beq_iff_eq, hl, e]
  constructor
  · intro h
    have h2 := congrArg Array.toList h
    rw [Array.toList_extract] at h2
    cases hq : t.cps.toList with
    | nil => rw [hq] at h2; simp at h2
    | cons c cs =>
      rw [hq] at h2
      simp at h2
      exact ⟨cs, by rw [h2]⟩
  · rintro ⟨cs, h⟩
    refine Array.toList_inj.mp ?_
    rw [Array.toList_extract, h]
    simp
theorem rp_list (t : Str) : (Txt.removeprefix t "-").cps.toList = dgL t.cps.toList := by
  have hl : ("-" : Str).length = 1 := by decide +kernel
  rw [StrLaws.removeprefix_eq, hl]
  cases hs : subAt t "-" 0 with
  | true =>
    obtain ⟨cs, hc⟩ := (subAt_minus t).mp hs
    have h1 : 0 + 1 ≤ t.length := by rw [len_l, hc, List.length_cons]; omega
    rw [decide_eq_true h1]
    simp only [Bool.and_self, if_true]
    rw [len_l, hc]
    show List.take (cs.length + 1 - 1) ((45 :: cs).drop 1) = cs
    rw [List.drop_one, List.tail_cons, Nat.add_sub_cancel]
    exact List.take_length
  | false =>
    rw [Bool.and_false, if_neg Bool.false_ne_true]
    cases hq : t.cps.toList with
    | nil => rfl
    | cons c cs =>
      by_cases h45 : c = 45
      · have := (subAt_minus t).mpr ⟨cs, by rw [hq, h45]⟩
        rw [hs] at this
        cases this
      · unfold dgL
        split
        · rename_i cs' he
          injection he with e1 e2
          exact absurd e1 h45
        · rfl
/-- this text is an integer as it is written -/
def irOk (t : Str) : Bool := decide (1 ≤ (dgL t.cps.toList).length) && decide ((dgL t.cps.toList).length ≤ 30) && (dgL t.cps.toList).all isDig && !(decide ((dgL t.cps.toList).headD 0 = 48) && !decide (t = "0"))
theorem all_dig {l : List Nat} (h : l.all isDig = true) : NumText.AllDigits l := fun c hc => by
  have := List.all_eq_true.mp h c hc
  simpa [isDig] using this
theorem ir_some {t : Str} (h : irOk t = true) : ∃ n, PySem.intText? t = some n ∧ t.length ≤ 31 := by
  unfold irOk at h
  simp only [Bool.and_eq_true, decide_eq_true_eq] at h
  obtain ⟨⟨⟨h1, h2⟩, h3⟩, _⟩ := h
  have hd := all_dig h3
  have hl := len_l t
  cases hq : t.cps.toList with
  | nil => rw [hq] at h1; simp [dgL] at h1
  | cons c cs =>
    rw [hq] at h1 h2 hd hl
    rw [List.length_cons] at hl
    by_cases h45 : c = 45
    · subst h45
      have hd' : NumText.AllDigits cs := hd
      have h2' : cs.length ≤ 30 := h2
      have h1' : 1 ≤ cs.length := h1
      refine ⟨_, intText_neg hq hd' (fun z => by rw [z] at h1'; simp at h1') (by omega), by omega⟩
    · have e : dgL (c :: cs) = c :: cs := by
        unfold dgL
        split
        · rename_i cs' he
          injection he with e1 e2
          exact absurd e1 h45
        · rfl
      rw [e] at hd h2
      rw [List.length_cons] at h2
      refine ⟨_, intText_digits (by rw [hq]; exact hd) (by rw [hq]; exact List.cons_ne_nil _ _) (by omega), by omega⟩
/-- what int_read tells -/
def irV (t : Str) : V := if irOk t = true then .int ((PySem.intText? t).getD 0) else .non
theorem irV_yes {t : Str} {n : Int} (h : irOk t = true) (hn : PySem.intText? t = some n) : irV t = .int n := by
  unfold irV
  rw [if_pos h, hn]
  rfl
theorem irV_no {t : Str} (h : irOk t = false) : irV t = .non := by
  unfold irV
  rw [if_neg (by rw [h]; exact Bool.false_ne_true)]
/-- a text that begins otherwise is none -/
theorem ir_word {t : Str} {c : Nat} {cs : List Nat} (h : t.cps.toList = c :: cs) (h1 : c ≠ 45) (h2 : isDig c = false) : irOk t = false := by
  have e : dgL (c :: cs) = c :: cs := by
    unfold dgL
    split
    · rename_i cs' he
      injection he with e1 e2
      exact absurd e1 h1
    · rfl
  unfold irOk
  rw [h, e, List.all_cons, h2]
  simp
theorem numL_head : ∀ n : Nat, n ≠ 0 → (numL n).headD 0 ≠ 48
  | n, h => by
    by_cases h10 : n < 10
    · rw [numL_lt h10]
      show 48 + n ≠ 48
      omega
    · rw [numL_step (by omega)]
      have ih := numL_head (n / 10) (by omega)
      have ne := numL_ne (n / 10)
      cases hq : numL (n / 10) with
      | nil => exact absurd hq ne
      | cons c cs =>
        rw [hq] at ih
        exact ih
  termination_by n => n
  decreasing_by omega
theorem numL_all (n : Nat) : (numL n).all isDig = true := by
  refine List.all_eq_true.mpr fun c hc => ?_
  have := numL_digits n c hc
  simpa [isDig] using this
theorem dgL_num (n : Nat) : dgL (numL n) = numL n := by
  cases hq : numL n with
  | nil => rfl
  | cons c cs =>
    have := numL_digits n c (by rw [hq]; exact List.mem_cons_self ..)
    unfold dgL
    split
    · rename_i cs' he
      injection he with e1 e2
      omega
    · rfl
theorem neg_text (n : Nat) : (Str.ofString (toString (Int.negSucc n))).cps.toList = 45 :: numL (n + 1) := by
  have e : toString (Int.negSucc n) = "-" ++ toString (((n + 1 : Nat) : Int)) := by
    show Int.repr (Int.negSucc n) = "-" ++ Int.repr ((n + 1 : Nat) : Int)
    rfl
  rw [PyProof.Rows.signs_ofString, e, String.toList_append, List.map_append]
  have h := tl_num (n + 1)
  have h2 := PyProof.Rows.signs_ofString (toString ((n + 1 : Nat) : Int))
  rw [show (Str.ofString (toString ((n + 1 : Nat) : Int))).cps.toList = numL (n + 1) from h] at h2
  rw [← h2]
  rfl
theorem ir_iS {i : Int} (h : -(10 ^ 30) < i ∧ i < 10 ^ 30) : irV (Str.ofString (toString i)) = .int i := by
  have e30 : ((10 : Int) ^ 30) = ((10 ^ 30 : Nat) : Int) := by norm_cast
  cases i with
  | ofNat n =>
    have hn : n < 10 ^ 30 := by
      have := h.2
      rw [e30] at this
      exact Int.ofNat_lt.mp this
    have ht : (Str.ofString (toString (Int.ofNat n))).cps.toList = numL n := tl_num n
    have hl := numL_len (n := n) (k := 30) (by decide) hn
    have h1 : 1 ≤ (numL n).length := List.length_pos_iff.mpr (numL_ne n)
    refine irV_yes ?_ (int_num (by omega))
    unfold irOk
    rw [ht, dgL_num, decide_eq_true h1, decide_eq_true hl, numL_all]
    by_cases h0 : n = 0
    · subst h0
      have : (Str.ofString (toString (Int.ofNat 0))) = ("0" : Str) := by decide +kernel
      rw [this]
      decide +kernel
    · rw [decide_eq_false (numL_head n h0)]
      rfl
  | negSucc n =>
    have hn : n + 1 < 10 ^ 30 := by
      have := h.1
      rw [e30] at this
      omega
    have ht := neg_text n
    have hl := numL_len (n := n + 1) (k := 30) (by decide) hn
    have h1 : 1 ≤ (numL (n + 1)).length := List.length_pos_iff.mpr (numL_ne (n + 1))
    have hlen : (Str.ofString (toString (Int.negSucc n))).length ≤ 4300 := by
      rw [len_l, ht, List.length_cons]
      omega
    have hv := intText_neg ht (numL_digits (n + 1)) (numL_ne (n + 1)) hlen
    rw [numL_val] at hv
    refine irV_yes ?_ (hv.trans (congrArg some (by omega)))
    unfold irOk
    rw [ht]
    show (decide (1 ≤ (numL (n + 1)).length) && decide ((numL (n + 1)).length ≤ 30) && (numL (n + 1)).all isDig && !(decide ((numL (n + 1)).headD 0 = 48) && _)) = true
    rw [decide_eq_true h1, decide_eq_true hl, numL_all, decide_eq_false (numL_head (n + 1) (by omega))]
    rfl
theorem num_free {i : Int} : (32 : Nat) ∉ (Str.ofString (toString i)).cps.toList := by
  cases i with
  | ofNat n =>
    rw [show (Str.ofString (toString (Int.ofNat n))).cps.toList = numL n from tl_num n]
    exact numL_free (.inl (by decide))
  | negSucc n =>
    rw [neg_text]
    intro hm
    rcases List.mem_cons.mp hm with z | z
    · cases z
    · exact numL_free (.inl (by decide)) z
end FsP

set_option Elab.async false
set_option linter.all false
set_option maxRecDepth 100000
set_option maxHeartbeats 2000000
/-! A def of a class called off the class itself: C.m(o, ..); a statement that is never reached. -/
namespace FsR
open PySem PySem.Spec PyProof.Rows L2 ClX
structure FMet (K : PySem.W.Frag) (C : Addr) (mc : Value) (m : Str) (g : Addr) : Prop where
  at_ : PySem.W.findCls K (.ref C) mc m = some (.val (.ref g))
  kp : PySem.W.keepIn K (.ref g) = true
section
variable {X : Cx} {pins : List (Addr × Obj)} {σ : L2.St} {H : Hp} {s : Shared} {C g : Addr} {mc : Value} {m : Str} {A : Around} {E : Value → Shared → Prop}
theorem getmethcf_ok {pl : Sem Bool} {Q : Value × List Value → Shared → Prop} (I : Inv X pins σ H s) (r : CRead X.K C mc) (k : FMet X.K C mc m g)
    (h : ∀ s', Inv X pins σ H s' → Q (.ref g, []) s') : wpAny (model X.prog X.w) A (getMethod (.ref C) m pl) Q E s :=
  PySem.W.method_cls I.kIn r.ga (PySem.W.cls_value I.kIn r.rd k.at_ rfl (h _ (I.tok _)))
end
section
variable {X : Cx} {CX : CXT} {k : Nat} {C g : Addr} {mc : Value} {fd : FuncData} {ps : List Str} {sp : Sp} {E : L2.St → XK} {o e : Expr} {es : List Expr} {m : Str} {pos apos : Pos} {ta : TE} {t : TA} {pl : Sem Bool}
theorem pe_clsf (he : PE X o ta) (r : CRead X.K C mc) (c : FMet X.K C mc m g) (F : FnOk X.prog X.w X.K X.mg X.base CX k g fd ps sp) (hr : Room k X.A) (hb : Binds X.K fd ps []) (hx : ∀ σ, PassesAt CX X σ (E σ)) (ha : PA X (e :: es) t)
    (hst : starEach (e :: es) X.env = (false, eval e X.env) :: starEach es X.env := by rfl) (hpl : (backTo pos (starEach es X.env)).any (·.1) = false := by rfl)
    (ht : eval (.Call (.Attribute o m apos) (e :: es) [] pos) X.env = (do
      let ov ← eval o X.env
      standAt apos.atName
      let (f, first) ← holding [ov] (getMethod ov m pl)
      callWith pos f first (backTo pos (starEach (e :: es) X.env)) (backToKw pos (keywordEach [] X.env))) := by rfl) :
    PE X (.Call (.Attribute o m apos) (e :: es) [] pos) (tStat C sp E ta t) := by
  refine ⟨fun pins s σ H Q I h => ?_⟩
  refine PySem.W.methodCall_KW (pl := pl) (thn (he.run pins s σ H _ I h) fun u s1 ⟨x, H1, I1, rx, ex, q⟩ => ?_) ht
  subst ex
  obtain rfl : u = Value.ref C := rx
  refine getmethcf_ok I1 r c fun s2 I2 => ?_
  refine PySem.W.callWith_K (first := []) (h₀ := X.base) I.ok.mod.kin c.kp (thn (ha.run pos pins s2 σ H1 _ I2 q) fun us s3 ⟨vs, H2, I3, rv, q2⟩ => ⟨I3.kIn, ?_⟩) hst hpl
  exact run_fnS F hr hb (hx σ) I3 rv q2
end
def tNever : TS := fun _ _ _ => False
theorem pss_never {X : Cx} {st : List Stmt} : PSs X st tNever := ⟨fun _ _ _ _ _ _ h => h.elim⟩
theorem ps_never {X : Cx} {st : Stmt} : PS X st tNever := ⟨fun _ _ _ _ _ _ h => h.elim⟩
end FsR

set_option Elab.async false
set_option linter.all false
set_option maxRecDepth 100000
set_option maxHeartbeats 4000000
/-! integers and channels, read and written -/
namespace Fs
open PySem L2 Evl FsE FsC FsR FsP FsV
abbrev iS (i : Int) : Str := Str.ofString (toString i)
def digitsS : Str := "0123456789"
def GC (mg : Str → Option Value) (x : Str) (v : V) : Prop := ∃ u, mg x = some u ∧ RelV v u
structure BasT (K : PySem.W.Frag) (mg : Str → Option Value) : Prop where
  digits : GC mg "DIGITS" (.str digitsS)
  mdig : GC mg "MOST_DIGITS" (.int 30)
  toolong : GC mg "TOO_LONG" (.int (10 ^ 30))
  seats : GC mg "MOST_SEATS" (.int 4)
  isinst : mg "isinstance" = none
  str : mg "str" = none
  int : mg "int" = none
  bool : mg "bool" = none
  len : mg "len" = none
  all : mg "all" = none
  tuple : mg "tuple" = none
theorem dig_in (c : Nat) : decide (c ∈ digitsS.cps.toList) = isDig c := by
  have e : digitsS.cps.toList = [48, 49, 50, 51, 52, 53, 54, 55, 56, 57] := by decide +kernel
  rw [e]
  unfold isDig
  rw [Bool.eq_iff_iff]
  simp only [decide_eq_true_eq, Bool.and_eq_true, List.mem_cons, List.not_mem_nil, or_false]
  omega
theorem one_zero (c : Nat) : decide (V.str ⟨#[c]⟩ = V.str "0") = decide (c = 48) := by
  have e : ("0" : Str) = ⟨#[48]⟩ := by decide +kernel
  rw [e, Bool.eq_iff_iff]
  simp
def iOk (i : Int) : Prop := -(10 ^ 30) < i ∧ i < 10 ^ 30
theorem log_ok {i : Int} (h : iOk i) : i.natAbs.log2 < 1920 := by
  have h' : -(10 ^ 30) < i ∧ i < 10 ^ 30 := h
  have h1 : i.natAbs < 10 ^ 30 := by omega
  by_cases h0 : i.natAbs = 0
  · rw [h0]
    decide
  · rw [Nat.log2_lt h0]
    exact Nat.lt_trans h1 (by decide)
theorem int_len {i : Int} (h : iOk i) : (iS i).length ≤ 31 := by
  have h' : -(10 ^ 30) < i ∧ i < 10 ^ 30 := h
  show (Str.ofString (toString i)).length ≤ 31
  rw [ofString_length]
  exact int_text_length_le10 (k := 30) (by decide) (by omega)
abbrev rStr : List V → Hp → VK → Prop := fun xs H Q => (∃ i, xs = [V.int i] ∧ i.natAbs.log2 < 1920 ∧ Q (.str (toString i)) H) ∨ ∃ a, xs = [V.str a] ∧ Q (.str a) H
theorem call_strX {X : Cx} : CallR X (.type "str") rStr := by
  intro pins s σ H xs us Q I r h
  rcases h with h | h
  · exact call_str_int pins s σ H xs us Q I r h
  · exact SkE.call_str_str pins s σ H xs us Q I r h
theorem rc_strI {i : Int} (h : iOk i) {H : Hp} : RC rStr [.int i] H (.str (iS i)) := fun H1 _ Q q => .inl ⟨i, rfl, log_ok h, q H1 (Ex.refl H1)⟩
abbrev rJ (K : PySem.W.Frag) : V → List V → Hp → VK → Prop := fun x xs H Q => ∃ a p, ∃ ys : List Str, x = .str a ∧ xs = [.ref p] ∧ (SqL K H p (ys.map V.str) ∨ SqT K H p (ys.map V.str)) ∧ (ys.map (·.length)).sum + ys.length * a.length ≤ 16777216 ∧ Q (.str (Txt.join a ys)) H
section
variable {σ : L2.St} {H : Hp} {ta tb te : TE} {K : PySem.W.Frag} {E : L2.St → XK}
theorem ev_join {a : Str} {ys : List Str} (h1 : Ev ta σ H (.str a)) (h2 : EvL te σ H (ys.map V.str)) (hz : (ys.map (·.length)).sum + ys.length * a.length ≤ 16777216) : Ev (tM1 (rJ K) ta te) σ H (.str (Str.join a ys)) := fun H1 e1 Q q =>
  h1 H1 e1 _ fun H2 e2 => ⟨⟨a, rfl⟩, h2 H2 (e1.trans e2) _ fun p H3 hp e3 h3 => ⟨a, p, ys, rfl, rfl, .inl (sq_of h3), hz, by rw [TL.join_eq]; exact q H3 (e2.trans e3)⟩⟩
theorem el_catLL {xs ys : List V} (ha : EvL ta σ H xs) (hb : EvL tb σ H ys) (hz : xs.length + ys.length ≤ sizeLine) : EvL (tOp rCat ta tb) σ H (xs ++ ys) := fun H1 e Q q =>
  ha H1 e _ fun l H2 hl e2 h2 => hb H2 (e.trans e2) _ fun p H3 hp e3 h3 => ⟨l, p, xs, ys, rfl, rfl, e3 _ _ h2, h3, hz, fun r hr => q r _ (fresh_back (e2.trans e3) hr) ((e2.trans e3).trans (Ex.new hr)) upd_same⟩
theorem el_rev {a : Addr} {xs : List V} (ha : Ev ta σ H (.ref a)) (h1 : H a = some (.lst xs)) : EvL (tRevL K ta) σ H xs.reverse := fun H1 e Q q =>
  ha H1 e _ fun H2 e2 => ⟨a, xs, rfl, sq_of ((e.trans e2) _ _ h1), fun u hu => q u _ (fresh_back e2 hu) (e2.trans (Ex.new hu)) upd_same⟩
theorem el_is {xs ys : List V} (h : EvL te σ H xs) (e : xs = ys) : EvL te σ H ys := e ▸ h
theorem rv_cat {x y : Str} (h : x.length + y.length ≤ 100000) : RV (fun x y H Q => ∃ i j, x = V.str i ∧ y = V.str j ∧ i.length + j.length ≤ sizeLine ∧ Q (.str (i ++ j)) H) (.str x) (.str y) H (.str (x ++ y)) := fun H1 _ Q q => ⟨x, y, rfl, rfl, sz_of h, q H1 (Ex.refl H1)⟩
theorem ev_joinV {a : Str} {l : Addr} {ys : List Str} (h1 : Ev ta σ H (.str a)) (h2 : Ev te σ H (.ref l)) (hl : H l = some (.lst (ys.map V.str))) (hz : (ys.map (·.length)).sum + ys.length * a.length ≤ 16777216) : Ev (tM1 (rJ K) ta te) σ H (.str (Str.join a ys)) := fun H1 e1 Q q =>
  h1 H1 e1 _ fun H2 e2 => ⟨⟨a, rfl⟩, h2 H2 (e1.trans e2) _ fun H3 e3 => ⟨a, l, ys, rfl, rfl, .inl (sq_of (((e1.trans e2).trans e3) _ _ hl)), hz, by rw [TL.join_eq]; exact q H3 (e2.trans e3)⟩⟩
end
theorem rv_isNon {x : V} {H : Hp} : RV (fun x y H Q => y = .non ∧ Q (.bl (decide (x = .non))) H) x .non H (.bl (decide (x = .non))) := fun H1 e Q q => ⟨rfl, q H1 (Ex.refl H1)⟩
theorem rv_notNon {x : V} {H : Hp} : RV (fun x y H Q => y = .non ∧ Q (.bl (!decide (x = .non))) H) x .non H (.bl (!decide (x = .non))) := fun H1 e Q q => ⟨rfl, q H1 (Ex.refl H1)⟩
/-! values -/
abbrev chD (h n s : Int) : PyData := .tuple [.int h, .int n, .int s]
def wS : PyData → Str
  | .int i => iS i
  | .tuple [.int h, .int n, .int s] => Str.join ":" [iS h, iS n, iS s]
  | _ => ""
structure ChOk (h n s : Int) : Prop where
  h0 : 0 ≤ h
  h6 : h < 6
  n0 : 0 ≤ n
  n1 : n < 10 ^ 30
  s1 : 1 ≤ s
  s4 : s ≤ 4
def WOk (d : PyData) : Prop := (∃ i, d = .int i ∧ iOk i) ∨ ∃ h n s, d = chD h n s ∧ ChOk h n s
theorem ChOk.ih {h n s : Int} (c : ChOk h n s) : iOk h := ⟨by have := c.h0; omega, by have := c.h6; omega⟩
theorem ChOk.inn {h n s : Int} (c : ChOk h n s) : iOk n := ⟨by have := c.n0; omega, c.n1⟩
theorem ChOk.is {h n s : Int} (c : ChOk h n s) : iOk s := ⟨by have := c.s1; omega, by have := c.s4; omega⟩
theorem join_len3 {a b c : Str} (ha : a.length ≤ 31) (hb : b.length ≤ 31) (hc : c.length ≤ 31) : ([a, b, c].map (·.length)).sum + [a, b, c].length * (":" : Str).length ≤ 16777216 := by
  have e : (":" : Str).length = 1 := by decide +kernel
  rw [e]
  simp only [List.map_cons, List.map_nil, List.sum_cons, List.sum_nil, List.length_cons, List.length_nil]
  omega
def spIsI : Sp := fun vs H Q _ => ∃ i : Int, vs = [.int i] ∧ RetV (.bl true) H Q
def spIsSe : Sp := fun vs H Q _ => ∃ i : Int, vs = [.int i] ∧ RetV (.bl (decide (1 ≤ i) && decide (i ≤ 4))) H Q
def spIndex : Sp := fun vs H Q _ => ∃ i n : Int, vs = [.int i, .int n] ∧ RetV (.bl (decide (0 ≤ i) && decide (i < n))) H Q
def spIr : Sp := fun vs H Q _ => ∃ t : Str, vs = [.str t] ∧ t.length ≤ 40000 ∧ RetV (irV t) H Q
def spIt (lo : Prop) : Sp := fun vs H Q _ => ∃ i : Int, vs = [.int i] ∧ iOk i ∧ (i < 0 → lo) ∧ RetV (.str (iS i)) H Q
def spCt : Sp := fun vs H Q _ => ∃ (v : V) (h n s : Int), vs = [v] ∧ DaAt H v (chD h n s) ∧ ChOk h n s ∧ RetV (.str (wS (chD h n s))) H Q
def spVt : Sp := fun vs H Q _ => ∃ (v : V) (d : PyData), vs = [v] ∧ DaAt H v d ∧ WOk d ∧ RetV (.str (wS d)) H Q
section
variable {P : Program} {w : World} {K : PySem.W.Frag} {mg : Str → Option Value} {base : Heap}
theorem scIsI : FnScope ["value"] ["value"] (defScope (topS 5)) := ⟨rfl, rfl, rfl, by decide +kernel, rfl, by decide +kernel, by decide +kernel⟩
theorem ok_isI {f : Addr} {fd : FuncData} (F : Fun K "is_int" "is_int" (topS 5) f fd) (T : BasT K mg) : FnOk P w K mg base CX0 1 f fd ["value"] spIsI := by
  refine F.ok scIsI (fun vs H Q E h => ?_) (fun cdv A outer s H vs Q E hr h => ?_)
  · obtain ⟨i, rfl, _⟩ := h
    rfl
  · obtain ⟨i, rfl, q⟩ := h
    refine ⟨_, pss_one (ps_ret (pe_and (pe_callB call_isi (by rfl) T.isinst (by decide +kernel) (pa_cons (pv 0) (pa_cons (pe_bltn (v := .ty "int") (by rfl) T.int (by decide +kernel) rfl) pa_nil)))
      (pe_one (pe_not (pe_callB call_isi (by rfl) T.isinst (by decide +kernel) (pa_cons (pv 0) (pa_cons (pe_bltn (v := .ty "bool") (by rfl) T.bool (by decide +kernel) rfl) pa_nil))))))), ?_⟩
    exact s_ret (ev_andV (a := true) (b := true) (ev_cb (ea_cons (ev_var rfl) (ea_cons ev_c ea_nil)) (rc_isInt (by decide +kernel)))
        (fun _ => ev_notV (a := false) (ev_cb (ea_cons (ev_var rfl) (ea_cons ev_c ea_nil)) (rc_isInt (by decide +kernel))))) q
theorem scIsSe : FnScope ["count"] ["count"] (defScope (topS 6)) := ⟨rfl, rfl, rfl, by decide +kernel, rfl, by decide +kernel, by decide +kernel⟩
theorem ok_isSe {f : Addr} {fd : FuncData} (F : Fun K "is_seats" "is_seats" (topS 6) f fd) (T : BasT K mg) (GI : CalX P w K mg base CX0 1 "is_int" spIsI) : FnOk P w K mg base CX0 2 f fd ["count"] spIsSe := by
  refine F.ok (k := 1) scIsSe (fun vs H Q E h => ?_) (fun cdv A outer s H vs Q E hr h => ?_)
  · obtain ⟨i, rfl, _⟩ := h
    rfl
  · obtain ⟨i, rfl, q⟩ := h
    refine ⟨_, pss_one (ps_ret (pe_and (pe_cx (E := fun _ => E0) GI hr (Nat.le_refl _) (by rfl) at0 (pa_cons (pv 0) pa_nil)) (pe_one (pe_chain op_le op_le pe_int (pv 0) (C8.pe_gc (by rfl) T.seats))))), ?_⟩
    exact s_ret (ev_andV (a := true) (b := decide (1 ≤ i) && decide (i ≤ 4)) (ev_cx (ea_cons (ev_var rfl) ea_nil) (fun H1 e1 Q1 q1 E1 => ⟨i, rfl, q1⟩)) (fun _ => ev_chain ev_c (ev_var rfl) rv_I0 (fun _ => ev_c) (fun _ => rv_I0))) q
theorem scIx : FnScope ["at", "count"] ["at", "count"] (defScope (topS 9)) := ⟨rfl, rfl, rfl, by decide +kernel, rfl, by decide +kernel, by decide +kernel⟩
theorem ok_ix {f : Addr} {fd : FuncData} (F : Fun K "is_index" "is_index" (topS 9) f fd) (GI : CalX P w K mg base CX0 1 "is_int" spIsI) : FnOk P w K mg base CX0 2 f fd ["at", "count"] spIndex := by
  refine F.ok (k := 1) scIx (fun vs H Q E h => ?_) (fun cdv A outer s H vs Q E hr h => ?_)
  · obtain ⟨i, n, rfl, _⟩ := h
    rfl
  · obtain ⟨i, n, rfl, q⟩ := h
    refine ⟨_, pss_one (ps_ret (pe_and (pe_cx (E := fun _ => E0) GI hr (Nat.le_refl _) (by rfl) at0 (pa_cons (pv 0) pa_nil)) (pe_one (pe_chain op_le op_lt pe_int (pv 0) (pv 1))))), ?_⟩
    exact s_ret (ev_andV (a := true) (b := decide (0 ≤ i) && decide (i < n)) (ev_cx (ea_cons (ev_var rfl) ea_nil) (fun H1 e1 Q1 q1 E1 => ⟨i, rfl, q1⟩)) (fun _ => ev_chain ev_c (ev_var rfl) rv_I0 (fun _ => ev_var rfl) (fun _ => rv_I0))) q
theorem scIr : FnScope ["token", "digits", "sign"] ["token"] (defScope (topS 7)) := ⟨rfl, rfl, rfl, by decide +kernel, rfl, by decide +kernel, by decide +kernel⟩
theorem ok_ir {f : Addr} {fd : FuncData} (F : Fun K "int_read" "int_read" (topS 7) f fd) (T : BasT K mg) : FnOk P w K mg base CX0 1 f fd ["token"] spIr := by
  refine F.ok scIr (fun vs H Q E h => ?_) (fun cdv A outer s H vs Q E hr h => ?_)
  · obtain ⟨t, rfl, _⟩ := h
    rfl
  · obtain ⟨t, rfl, hz, k⟩ := h
    refine ⟨_, pss_cons (ps_set (i := 1) scIr.nd rfl (Or.inl rfl) (pe_m1 PySem.F.slot_str_removeprefix PySem.F.type_str_removeprefix mt_removeprefix (pv 0) pe_str))
      (pss_cons (ps_if (PW.pt (pw_or (pt_not (pt_chain op_le op_le pe_int (pe_callB call_len_str (by rfl) T.len PySem.boot_len (pa_cons (pv 1) pa_nil)) (C8.pe_gc (by rfl) T.mdig)))
          (pw_or1 (pt_not (pt_val (pe_callB (cr_all rfl) (by rfl) T.all (by decide +kernel) (pa_cons (pe_lc (own := [("sign", 2)]) (g := gName 2) (tt := tYes) rfl scIr.nd (pi_str (pv 1)) (blkOk_by (own := [("sign", 2)]) (N := ["token", "digits", "sign"]) (sc := defScope (topS 7)) (by decide +kernel))
            (fun _ _ _ _ _ => pg_name (i := 2) scIr.nd rfl (Or.inl rfl)) (fun _ _ _ _ _ => pts_nil) (fun _ _ _ _ _ => pe_cmpR op_in_sign (pv 2) (C8.pe_gc (by rfl) T.digits) (by rfl))) pa_nil))))))) (pss_one (ps_ret pe_non)) pss_nil)
      (pss_cons (ps_if (PW.pt (pw_and (pt_cmpR op_eq (pe_ix ix_str (pv 1) pe_int (fun _ _ => rfl)) pe_str (nomark _)) (pw_and1 (pt_cmpR op_ne (pv 0) pe_str (nomark _))))) (pss_one (ps_ret pe_non)) pss_nil)
      (pss_one (ps_ret (pe_callTy call_int_str (by rfl) T.int (by decide +kernel) (pa_cons (pv 0) pa_nil)))))), ?_⟩
    have hd := rp_list t
    refine q_asg (v := .str (Txt.removeprefix t "-")) (fun H1 e1 Q q => ⟨_, rfl, ⟨t, rfl⟩, t, "-", rfl, rfl, sz_of (by omega), q H1 (Ex.refl H1)⟩) (fun H1 e1 => ?_)
    generalize Txt.removeprefix t "-" = d at hd
    have dlen : d.length = (dgL t.cps.toList).length := by rw [len_l, hd]
    have tlen : (dgL t.cps.toList).length ≤ t.length := by
      rw [len_l]
      unfold dgL
      split <;> simp_all
    have hz2 : d.length ≤ sizeLine := sz_of (by omega)
    refine q_when (b := !(decide ((1 : Int) ≤ (d.length : Nat)) && decide (((d.length : Nat) : Int) ≤ 30)) || !((d.cps.toList.map fun c => decide (c ∈ digitsS.cps.toList)).all id)) (et_or (et_not (et_test (ev_chain ev_c (ev_cb (ea_cons (ev_var rfl) ea_nil) (rc_lenS hz2)) rv_I0 (fun _ => ev_c) (fun _ => rv_I0))))
      (fun _ => et_not (et_B (ev_all (bs := d.cps.toList.map fun c => decide (c ∈ digitsS.cps.toList)) (by
        rw [List.map_map]
        exact el_lcSm (V.bl ∘ fun c => decide (c ∈ digitsS.cps.toList)) (ev_var rfl) (by omega) (fun _ => rfl) (fun c H3 _ _ => ev_op (ev_var rfl) ev_c rv_inSign)))))) (fun hb H2 e2 => ?_) (fun hb H2 e2 => ?_)
    · refine s_ret ev_c fun H3 e3 => ?_
      have e : irOk t = false := by
        unfold irOk
        rw [hd, List.all_map] at hb
        have ea : (dgL t.cps.toList).all (id ∘ fun c => decide (c ∈ digitsS.cps.toList)) = (dgL t.cps.toList).all isDig := by
          congr 1
          funext c
          exact dig_in c
        rw [ea, dlen] at hb
        cases h3 : (dgL t.cps.toList).all isDig with
        | false => simp
        | true =>
          rw [h3] at hb
          simp only [Bool.not_true, Bool.or_false, Bool.not_eq_true', Bool.and_eq_false_iff, decide_eq_false_iff_not] at hb
          have : (decide (1 ≤ (dgL t.cps.toList).length) && decide ((dgL t.cps.toList).length ≤ 30)) = false := by
            simp only [Bool.and_eq_false_iff, decide_eq_false_iff_not]
            omega
          rw [this]
          rfl
      have q := k H3 ((e1.trans e2).trans e3)
      rw [irV_no e] at q
      exact q
    · have ea : (dgL t.cps.toList).all (id ∘ fun c => decide (c ∈ digitsS.cps.toList)) = (dgL t.cps.toList).all isDig := by
        congr 1
        funext c
        exact dig_in c
      rw [hd, List.all_map, ea, dlen] at hb
      obtain ⟨hb1, hb2⟩ := Bool.or_eq_false_iff.mp hb
      have h3 : (dgL t.cps.toList).all isDig = true := by simpa using hb2
      have h12 : 1 ≤ (dgL t.cps.toList).length ∧ (dgL t.cps.toList).length ≤ 30 := by
        have : ((1 : Int) ≤ ((dgL t.cps.toList).length : Nat) ∧ (((dgL t.cps.toList).length : Nat) : Int) ≤ 30) := by simpa using hb1
        omega
      obtain ⟨c, cs, hc⟩ : ∃ c cs, dgL t.cps.toList = c :: cs := by
        cases hq : dgL t.cps.toList with
        | nil => rw [hq] at h12; simp at h12
        | cons c cs => exact ⟨c, cs, rfl⟩
      have h0 : atI d.cps.toList 0 = some c := atI_nat (j := 0) (by rw [hd, hc]; rfl)
      have main : irOk t = !(decide (c = 48) && !decide (t = "0")) := by
        unfold irOk
        rw [decide_eq_true h12.1, decide_eq_true h12.2, h3, hc]
        rfl
      have td : (!decide (V.str t = V.str "0")) = !decide (t = "0") := by
        congr 1
        rw [Bool.eq_iff_iff]
        simp
      refine q_when (b := decide (c = 48) && !decide (t = "0")) (et_is (et_and (a := decide (c = 48)) (b := !decide (t = "0")) (et_is (et_test (ev_op (ev_op (ev_var rfl) ev_c (rv_ixS (by omega) h0)) ev_c (rv_eq rfl))) (one_zero c)) (fun _ => et_is (et_test (ev_op (x := .str t) (y := .str "0") (ev_var rfl) ev_c (rv_ne rfl))) td)) rfl) (fun hb4 H3 e3 => ?_) (fun hb4 H3 e3 => ?_)
      · refine s_ret ev_c fun H4 e4 => ?_
        have q := k H4 (((e1.trans e2).trans e3).trans e4)
        rw [irV_no (by rw [main, hb4]; rfl)] at q
        exact q
      · have ok : irOk t = true := by rw [main, hb4]; rfl
        obtain ⟨n, hn, h31⟩ := ir_some ok
        refine s_ret (v := .int n) (ev_cb (ea_cons (ev_var rfl) ea_nil) (fun H5 e5 Q5 q5 => ⟨t, n, rfl, hn, by omega, q5 H5 (Ex.refl H5)⟩)) fun H4 e4 => ?_
        have q := k H4 (((e1.trans e2).trans e3).trans e4)
        rw [irV_yes ok hn] at q
        exact q
theorem neg_iS {i : Int} (h : i < 0) : ("-" : Str) ++ iS (-i) = iS i := by
  obtain ⟨n, rfl⟩ : ∃ n : Nat, i = Int.negSucc n := ⟨(-i - 1).toNat, by omega⟩
  apply ext_l
  rw [show (iS (Int.negSucc n)).cps.toList = 45 :: TL.numL (n + 1) from neg_text n]
  have e : -(Int.negSucc n) = ((n + 1 : Nat) : Int) := by omega
  rw [e]
  have t := TL.tl_append ("-" : Str) (iS ((n + 1 : Nat) : Int))
  have t2 : TL.tl (("-" : Str) ++ iS ((n + 1 : Nat) : Int)) = [45] ++ TL.numL (n + 1) := by
    rw [t, TL.tl_num]
    congr 1
  exact t2
theorem scIt : FnScope ["value", "groups", "group"] ["value"] (defScope (topS 8)) := ⟨rfl, rfl, rfl, by decide +kernel, rfl, by decide +kernel, by decide +kernel⟩
theorem join1 {s x : Str} : Str.join s [x] = x := by rfl
/-- not below 0 -/
theorem ok_it0 {f : Addr} {fd : FuncData} (F : Fun K "int_text" "int_text" (topS 8) f fd) (T : BasT K mg) : FnOk P w K mg base CX0 1 f fd ["value"] (spIt False) := by
  refine F.ok scIt (fun vs H Q E h => ?_) (fun cdv A outer s H vs Q E hr h => ?_)
  · obtain ⟨i, rfl, _⟩ := h
    rfl
  · obtain ⟨i, rfl, hi, h0, q⟩ := h
    have hi' : -(10 ^ 30) < i ∧ i < 10 ^ 30 := hi
    have i0 : ¬ i < 0 := fun z => h0 z
    refine ⟨_, pss_cons (ps_if (pt_cmpR op_lt (pv 0) pe_int (nomark _)) L2.pss_never pss_nil)
      (pss_cons (ps_set (i := 1) scIt.nd rfl (Or.inl rfl) (pe_lst pa_nil))
      (pss_cons (ps_while PassesOwn.never (pt_cmpR op_ge (pv 0) (C8.pe_gc (by rfl) T.toolong) (nomark _)) L2.pss_never)
      (pss_one (ps_ret (pe_join pe_str (pe_op op_cat (pe_lst (pa_cons (pe_callTy call_strX (by rfl) T.str (by decide +kernel) (pa_cons (pv 0) pa_nil)) pa_nil)) (pe_revL (pv 1)))))))), ?_⟩
    refine q_when (b := false) (et_is (et_test (ev_op (ev_var rfl) ev_c rv_I0)) (decide_eq_false i0)) (fun z => nomatch z) (fun _ H1 e1 => ?_)
    refine q_asgL (xs := []) (el_lst ea_nil (by decide)) (fun l H2 hl e2 h2 => ?_)
    refine ⟨fun m σ' H' => σ' = [some (.int i), some (.ref l), none] ∧ H' = H2, ⟨0, rfl, rfl⟩, fun m σ' H' ⟨hσ, hH⟩ => ?_⟩
    subst hσ hH
    refine ⟨_, rfl, i, 10 ^ 30, rfl, rfl, _, rfl, ?_⟩
    refine if_Fz (c := decide (i ≥ 10 ^ 30) = true) (by rw [decide_eq_false (by omega)]; decide) ?_
    refine s_ret (v := .str (iS i)) (ev_is (ev_join (K := K) (a := "") (ys := [iS i]) ev_c (el_is (el_catLL (el_lst (vs := [.str (iS i)]) (ea_cons (ev_cb (ea_cons (ev_var rfl) ea_nil) (rc_strI hi)) ea_nil) (by show 1 ≤ 100000; decide)) (el_rev (K := K) (ev_var rfl) h2) (by show 1 + 0 ≤ sizeLine; decide)) (by rfl))
      (by
        have e : ("" : Str).length = 0 := by decide +kernel
        have := int_len hi
        rw [e]
        simp only [List.map_cons, List.map_nil, List.sum_cons, List.sum_nil, List.length_cons, List.length_nil]
        omega)) (by rw [join1])) (fun H3 e3 => q H3 ((e1.trans e2).trans e3))
theorem ok_it {f : Addr} {fd : FuncData} (F : Fun K "int_text" "int_text" (topS 8) f fd) (T : BasT K mg) (hm : mg "int_text" = some (.ref f)) (kp : PySem.W.keepIn K (.ref f) = true) (bd : Binds K fd ["value"] []) : FnOk P w K mg base CX0 2 f fd ["value"] (spIt True) := by
  have o0 := ok_it0 (P := P) (w := w) (base := base) F T
  have G0 : CalX P w K mg base CX0 1 "int_text" (spIt False) := ⟨f, fd, _, o0, hm, kp, bd⟩
  refine F.ok (k := 1) scIt (fun vs H Q E h => ?_) (fun cdv A outer s H vs Q E hr h => ?_)
  · obtain ⟨i, rfl, _⟩ := h
    rfl
  · obtain ⟨i, rfl, hi, _, q⟩ := h
    by_cases h0 : i < 0
    · refine ⟨_, pss_cons (ps_if (pt_cmpR op_lt (pv 0) pe_int (nomark _)) (pss_one (ps_ret (pe_op op_add_str pe_str (pe_cx (E := fun _ => E0) G0 hr (Nat.le_refl _) (by rfl) at0 (pa_cons (pe_un un_neg (pv 0)) pa_nil))))) pss_nil) L2.pss_never, ?_⟩
      have hi' : -(10 ^ 30) < i ∧ i < 10 ^ 30 := hi
      have hn : iOk (-i) := ⟨by omega, by omega⟩
      refine q_when (b := true) (et_is (et_test (ev_op (ev_var rfl) ev_c rv_I0)) (decide_eq_true h0)) (fun _ H1 e1 => ?_) (fun z => nomatch z)
      have l1 : ("-" : Str).length = 1 := by decide +kernel
      have l2 := int_len hn
      exact s_ret (v := .str (iS i)) (ev_is (ev_op (x := .str "-") (y := .str (iS (-i))) ev_c (fun H2 e2 Q2 q2 => ⟨_, rfl, i, rfl, -i, rfl, hn, fun z => absurd z (by omega), fun H3 e3 => q2 H3 e3⟩) (rv_cat (by omega))) (by rw [neg_iS h0])) (fun H2 e2 => q H2 (e1.trans e2))
    · have o0' : FnOk P w K mg base CX0 1 f fd ["value"] (spIt False) := o0
      have hi' : -(10 ^ 30) < i ∧ i < 10 ^ 30 := hi
      refine ⟨_, pss_cons (ps_if (pt_cmpR op_lt (pv 0) pe_int (nomark _)) L2.pss_never pss_nil)
        (pss_cons (ps_set (i := 1) scIt.nd rfl (Or.inl rfl) (pe_lst pa_nil))
        (pss_cons (ps_while PassesOwn.never (pt_cmpR op_ge (pv 0) (C8.pe_gc (by rfl) T.toolong) (nomark _)) L2.pss_never)
        (pss_one (ps_ret (pe_join pe_str (pe_op op_cat (pe_lst (pa_cons (pe_callTy call_strX (by rfl) T.str (by decide +kernel) (pa_cons (pv 0) pa_nil)) pa_nil)) (pe_revL (pv 1)))))))), ?_⟩
      refine q_when (b := false) (et_is (et_test (ev_op (ev_var rfl) ev_c rv_I0)) (decide_eq_false h0)) (fun z => nomatch z) (fun _ H1 e1 => ?_)
      refine q_asgL (xs := []) (el_lst ea_nil (by decide)) (fun l H2 hl e2 h2 => ?_)
      refine ⟨fun m σ' H' => σ' = [some (.int i), some (.ref l), none] ∧ H' = H2, ⟨0, rfl, rfl⟩, fun m σ' H' ⟨hσ, hH⟩ => ?_⟩
      subst hσ hH
      refine ⟨_, rfl, i, 10 ^ 30, rfl, rfl, _, rfl, ?_⟩
      refine if_Fz (c := decide (i ≥ 10 ^ 30) = true) (by rw [decide_eq_false (by omega)]; decide) ?_
      refine s_ret (v := .str (iS i)) (ev_is (ev_join (K := K) (a := "") (ys := [iS i]) ev_c (el_is (el_catLL (el_lst (vs := [.str (iS i)]) (ea_cons (ev_cb (ea_cons (ev_var rfl) ea_nil) (rc_strI hi)) ea_nil) (by show 1 ≤ 100000; decide)) (el_rev (K := K) (ev_var rfl) h2) (by show 1 + 0 ≤ sizeLine; decide)) (by rfl))
        (by
          have e : ("" : Str).length = 0 := by decide +kernel
          have := int_len hi
          rw [e]
          simp only [List.map_cons, List.map_nil, List.sum_cons, List.sum_nil, List.length_cons, List.length_nil]
          omega)) (by rw [join1])) (fun H3 e3 => q H3 ((e1.trans e2).trans e3))
theorem scCt : FnScope ["channel", "number"] ["channel"] (defScope (topS 11)) := ⟨rfl, rfl, rfl, by decide +kernel, rfl, by decide +kernel, by decide +kernel⟩
theorem ok_ct {f : Addr} {fd : FuncData} (F : Fun K "channel_text" "channel_text" (topS 11) f fd) (GI : CalX P w K mg base CX0 2 "int_text" (spIt True)) : FnOk P w K mg base CX0 3 f fd ["channel"] spCt := by
  refine F.ok (k := 2) scCt (fun vs H Q E h => ?_) (fun cdv A outer s H vs Q E hr h => ?_)
  · obtain ⟨v, h, n, s, rfl, _⟩ := h
    rfl
  · obtain ⟨v, h, n, s9, rfl, hv, ok, q⟩ := h
    obtain ⟨a, xs, rfl, ha, hx⟩ := hv.tup
    refine ⟨_, pss_one (ps_ret (pe_join pe_str (pe_lc (own := [("number", 1)]) (g := gName 1) (tt := tYes) rfl scCt.nd (pi_tup (pv 0)) (blkOk_by (own := [("number", 1)]) (N := ["channel", "number"]) (sc := defScope (topS 11)) (by decide +kernel))
      (fun _ _ _ _ _ => pg_name (i := 1) scCt.nd rfl (Or.inl rfl)) (fun _ _ _ _ _ => pts_nil) (fun _ _ _ _ _ => pe_cx (E := fun _ => E0) GI hr (Nat.le_refl _) (by rfl) at0 (pa_cons (pv 1) pa_nil))))), ?_⟩
    refine s_ret (v := .str (wS (chD h n s9))) (ev_join (K := K) (a := ":") (ys := [iS h, iS n, iS s9]) ev_c (el_lcTy (K := K) (xs := xs) (ys := [.str (iS h), .str (iS n), .str (iS s9)]) (ev_var rfl) (st_of ha) (by rw [hx.length]; show 3 ≤ 40000; decide) (fun _ => rfl) (by rw [hx.length]; rfl) (fun i x y H1 e1 hi hy => ?_)) (join_len3 (int_len ok.ih) (int_len ok.inn) (int_len ok.is))) q
    have one : ∀ {z : Int}, x = .int z → y = .str (iS z) → iOk z → Ev (tCallS (spIt True) (fun _ => E0) (tCons (tVar 1) tNil)) [some (.ref a), some x] H1 y := fun {z} hx' hy' hz => by
      subst hx' hy'
      exact ev_cx (ea_cons (ev_var rfl) ea_nil) (fun H2 e2 Q2 q2 E2 => ⟨z, rfl, hz, fun _ => trivial, q2⟩)
    match i, hi, hy with
    | 0, hi, hy =>
      obtain ⟨d, hd, hda⟩ := hx.got hi
      cases hd
      exact one hda.int (Option.some.inj hy).symm ok.ih
    | 1, hi, hy =>
      obtain ⟨d, hd, hda⟩ := hx.got hi
      cases hd
      exact one hda.int (Option.some.inj hy).symm ok.inn
    | 2, hi, hy =>
      obtain ⟨d, hd, hda⟩ := hx.got hi
      cases hd
      exact one hda.int (Option.some.inj hy).symm ok.is
    | i + 3, hi, hy => exact absurd hy (by simp)
theorem scVt : FnScope ["value"] ["value"] (defScope (topS 12)) := ⟨rfl, rfl, rfl, by decide +kernel, rfl, by decide +kernel, by decide +kernel⟩
theorem ok_vt {f : Addr} {fd : FuncData} (F : Fun K "value_text" "value_text" (topS 12) f fd) (T : BasT K mg) (GI : CalX P w K mg base CX0 2 "int_text" (spIt True)) (GC : CalX P w K mg base CX0 3 "channel_text" spCt) : FnOk P w K mg base CX0 4 f fd ["value"] spVt := by
  refine F.ok (k := 3) scVt (fun vs H Q E h => ?_) (fun cdv A outer s H vs Q E hr h => ?_)
  · obtain ⟨v, d, rfl, _⟩ := h
    rfl
  · obtain ⟨v, d, rfl, hv, ok, q⟩ := h
    refine ⟨_, pss_one (ps_ret (pe_ifExp (pt_val (pe_callB (id := "isinstance") (r := rIsi K) call_isi (by rfl) T.isinst (by decide +kernel) (pa_cons (pv 0) (pa_cons (pe_bltn (v := .ty "tuple") (by rfl) T.tuple (by decide +kernel) rfl) pa_nil)))) (pe_cx (E := fun _ => E0) GC hr (Nat.le_refl _) (by rfl) at0 (pa_cons (pv 0) pa_nil)) (pe_cx (E := fun _ => E0) GI hr (by decide) (by rfl) at0 (pa_cons (pv 0) pa_nil)))), ?_⟩
    rcases ok with ⟨i, rfl, hi⟩ | ⟨h, n, s9, rfl, ok⟩
    · obtain rfl := hv.int
      exact s_ret (v := .str (iS i)) (ev_if (b := false) (et_B (ev_cb (ea_cons (ev_var rfl) (ea_cons ev_c ea_nil)) (rc_isInt (by decide +kernel)))) (fun z => nomatch z) (fun _ => ev_cx (ea_cons (ev_var rfl) ea_nil) (fun H2 e2 Q2 q2 E2 => ⟨i, rfl, hi, fun _ => trivial, q2⟩))) q
    · obtain ⟨a, xs, rfl, ha, hx⟩ := hv.tup
      exact s_ret (v := .str (wS (chD h n s9))) (ev_if (b := true) (et_B (ev_cb (ea_cons (ev_var rfl) (ea_cons ev_c ea_nil)) (rc_isi (t := "tuple") (fun H2 e2 => .base (.tup (e2 _ _ ha))) (by decide +kernel)))) (fun _ => ev_cx (ea_cons (ev_var rfl) ea_nil) (fun H2 e2 Q2 q2 E2 => ⟨.ref a, h, n, s9, rfl, hv.ex e2, ok, q2⟩)) (fun z => nomatch z)) q
end
end Fs

set_option Elab.async false
set_option linter.all false
set_option maxRecDepth 100000
set_option maxHeartbeats 4000000
/-! a line's tokens, taken one by one -/
namespace Fs
open PySem L2 Evl FsE FsC FsR FsP FsV
/-- all but what stands at a stays -/
def ExA (a : Addr) (H H' : Hp) : Prop := ∀ c o, c ≠ a → H c = some o → H' c = some o
theorem ExA.of {a : Addr} {H H' : Hp} (e : Ex H H') : ExA a H H' := fun _ _ _ h => e _ _ h
theorem ExA.refl {a : Addr} (H : Hp) : ExA a H H := fun _ _ _ h => h
theorem ExA.trans {a : Addr} {H H1 H2 : Hp} (e : ExA a H H1) (e' : ExA a H1 H2) : ExA a H H2 := fun c o hc h => e' c o hc (e c o hc h)
theorem ExA.upd {a : Addr} {H : Hp} {o : HO} : ExA a H (upd H a o) := fun c o' hc h => by rw [upd_ne hc]; exact h
def rdF (tl : Addr) (i : Nat) (x : V) : List (Str × V) := [("tokens", .ref tl), ("taken", .int (i : Int)), ("text", x)]
def RdAt (CR : Addr) (H : Hp) (r tl : Addr) (toks : List Str) (i : Nat) (x : V) : Prop := ∃ dx, H r = some (.ins CR dx (rdF tl i x)) ∧ H tl = some (.lst (toks.map V.str))
theorem RdAt.ex {CR : Addr} {H H' : Hp} (e : Ex H H') {r tl : Addr} {toks : List Str} {i : Nat} {x : V} (h : RdAt CR H r tl toks i x) : RdAt CR H' r tl toks i x := by
  obtain ⟨dx, h1, h2⟩ := h
  exact ⟨dx, e _ _ h1, e _ _ h2⟩
section
variable {CR C : Addr} {H H' : Hp} {r tl : Addr} {toks : List Str} {i : Nat} {x : V}
theorem RdAt.tk (h : RdAt CR H r tl toks i x) (e : ExA r H H') : TK H H' := fun a xs ha => e a _ (fun z => by
  obtain ⟨dx, h1, h2⟩ := h
  rw [z, h1] at ha
  cases ha) ha
theorem RdAt.lst (h : RdAt CR H r tl toks i x) (e : ExA r H H') {l : Addr} {xs : List V} (hl : H l = some (.lst xs)) : H' l = some (.lst xs) := by
  obtain ⟨dx, h1, h2⟩ := h
  exact e l _ (fun z => by rw [z, h1] at hl; cases hl) hl
theorem RdAt.fresh (h : RdAt CR H r tl toks i x) (e : ExA r H H') {l : Addr} (hl : H' l = none) (hr : H' r ≠ none) : H l = none := by
  cases hq : H l with
  | none => rfl
  | some o =>
    by_cases hlr : l = r
    · rw [hlr] at hl
      exact absurd hl hr
    · rw [e l o hlr hq] at hl
      cases hl
theorem RdAt.some (h : RdAt CR H r tl toks i x) : H r ≠ none := by
  obtain ⟨dx, h1, _⟩ := h
  rw [h1]
  exact fun z => by cases z
theorem rd_tokens : List.lookup ("tokens" : Str) (rdF tl i x) = some (.ref tl) := by
  unfold rdF
  rw [List.lookup_cons, show (("tokens" : Str) == "tokens") = true from by decide +kernel]
theorem rd_taken : List.lookup ("taken" : Str) (rdF tl i x) = some (.int (i : Int)) := by
  unfold rdF
  rw [List.lookup_cons, show (("taken" : Str) == "tokens") = false from by decide +kernel, List.lookup_cons, show (("taken" : Str) == "taken") = true from by decide +kernel]
theorem rd_no {m : Str} (h1 : (m == ("tokens" : Str)) = false) (h2 : (m == ("taken" : Str)) = false) (h3 : (m == ("text" : Str)) = false) : List.lookup m (rdF tl i x) = none := by
  unfold rdF
  rw [List.lookup_cons, h1, List.lookup_cons, h2, List.lookup_cons, h3]
  rfl
theorem rd_put : putF ("taken" : Str) (.int ((i : Int) + 1)) (rdF tl i x) = rdF tl (i + 1) x := by
  have h1 : ¬ ("tokens" : Str) = "taken" := by decide +kernel
  unfold rdF
  show (if ("tokens" : Str) = "taken" then _ else (("tokens" : Str), V.ref tl) :: (if ("taken" : Str) = "taken" then (("taken" : Str), V.int ((i : Int) + 1)) :: [(("text" : Str), x)] else _)) = _
  rw [if_neg h1, if_pos rfl]
  rfl
theorem drop_at {α : Type} {xs : List α} {i : Nat} {t : α} {rest : List α} (h : xs.drop i = t :: rest) : xs[i]? = some t ∧ xs.drop (i + 1) = rest := by
  constructor
  · have : (xs.drop i)[0]? = some t := by rw [h]; rfl
    rw [List.getElem?_drop, Nat.add_zero] at this
    exact this
  · rw [← List.drop_drop, h]
    rfl
end
structure RdT (K : PySem.W.Frag) (mg : Str → Option Value) (CR : Addr) : Prop where
  cl : Cls K CR
  nT : NoAttr K CR "tokens"
  nK : NoAttr K CR "taken"
  nN : NoAttr K CR "text"
  len : mg "len" = none
/-- what an expression tells that takes tokens of r -/
def EvM (te : TE) (σ : L2.St) (H : Hp) (r : Addr) (Pv : V → Hp → Prop) : Prop := ∀ Q : VK, (∀ v H', ExA r H H' → Pv v H' → Q v H') → te σ H Q
section
variable {σ : L2.St} {H : Hp} {te t1 : TE} {tz : TS} {D : Ends} {r : Addr} {Pv : V → Hp → Prop}
theorem q_asgM {i : Nat} (h : EvM te σ H r Pv) (k : ∀ v H', ExA r H H' → Pv v H' → tz D (σ.set i (some v)) H') : tSeq (tAsg te (gName i)) tz D σ H := h _ fun v H' e p => k v H' e p
theorem q_dropM (h : EvM te σ H r Pv) (k : ∀ v H', ExA r H H' → Pv v H' → tz D σ H') : tSeq (tDrop te) tz D σ H := h _ fun v H' e p => k v H' e p
theorem s_dropM (h : EvM te σ H r Pv) (k : ∀ v H', ExA r H H' → Pv v H' → D.nx σ H') : tDrop te D σ H := h _ fun v H' e p => k v H' e p
theorem s_retM (h : EvM te σ H r Pv) (k : ∀ v H', ExA r H H' → Pv v H' → D.rt v H') : tRet te D σ H := h _ fun v H' e p => k v H' e p
end
def spReq : Sp := fun vs H Q _ => ∃ r : Addr, vs = [.ref r, .bl true] ∧ RetV .non H Q
def spMore (CR : Addr) : Sp := fun vs H Q _ => ∃ (r tl : Addr) (toks : List Str) (i : Nat) (x : V), vs = [.ref r] ∧ RdAt CR H r tl toks i x ∧ RetV (.bl (decide (i < toks.length))) H Q
def spFin (CR : Addr) : Sp := fun vs H Q _ => ∃ (r tl : Addr) (toks : List Str) (i : Nat) (x : V), vs = [.ref r] ∧ RdAt CR H r tl toks i x ∧ i = toks.length ∧ RetV .non H Q
/-- one token, turned by f -/
def spTk (CR : Addr) (f : Str → V) (ok : Str → Prop) : Sp := fun vs H Q _ => ∃ (r tl : Addr) (toks : List Str) (i : Nat) (x : V) (t : Str), vs = [.ref r] ∧ RdAt CR H r tl toks i x ∧ toks[i]? = some t ∧ ok t ∧ ∀ H', ExA r H H' → RdAt CR H' r tl toks (i + 1) x → Q (f t) H'
def shT (t : Str) : Prop := t.length ≤ 40000
def isI (t : Str) : Prop := shT t ∧ ∃ n, irV t = .int n
def spExp (CR : Addr) : Sp := fun vs H Q _ => ∃ (r tl : Addr) (toks : List Str) (i : Nat) (x : V) (t : Str), vs = [.ref r, .str t] ∧ RdAt CR H r tl toks i x ∧ toks[i]? = some t ∧ ∀ H', ExA r H H' → RdAt CR H' r tl toks (i + 1) x → Q .non H'
def spLst (CR : Addr) : Sp := fun vs H Q _ => ∃ (r tl : Addr) (toks : List Str) (i : Nat) (x : V) (ns post : List Str), vs = [.ref r] ∧ RdAt CR H r tl toks i x ∧ toks.drop i = ("(" : Str) :: (ns ++ (")" : Str) :: post) ∧ (")" : Str) ∉ ns ∧ ns.length ≤ 1000 ∧
  ∀ l H', H l = none → ExA r H H' → H' l = some (.lst (ns.map V.str)) → RdAt CR H' r tl toks (i + ns.length + 2) x → Q (.ref l) H'
section
variable {P : Program} {w : World} {K : PySem.W.Frag} {mg : Str → Option Value} {base : Heap} {CR : Addr}
theorem scReq : FnScope ["self", "allowed"] ["self", "allowed"] (defScope (inClass (topS 19) 2)) := ⟨rfl, rfl, rfl, by decide +kernel, rfl, by decide +kernel, by decide +kernel⟩
theorem ok_req {f : Addr} {fd : FuncData} (F : Fun K "require" "Tokens.require" (inClass (topS 19) 2) f fd) : FnOk P w K mg base CX0 1 f fd ["self", "allowed"] spReq := by
  refine F.ok scReq (fun vs H Q E h => ?_) (fun cdv A outer s H vs Q E hr h => ?_)
  · obtain ⟨r, rfl, _⟩ := h
    rfl
  · obtain ⟨r, rfl, q⟩ := h
    refine ⟨_, pss_one (ps_if (pt_not (pt_val (pv 1))) L2.pss_never pss_nil), ?_⟩
    exact s_when (b := false) (et_is (et_not (et_B (ev_var (v := .bl true) rfl))) rfl) (fun z => nomatch z) (fun _ H1 e1 => q H1 e1)
theorem scMore : FnScope ["self"] ["self"] (defScope (inClass (topS 19) 3)) := ⟨rfl, rfl, rfl, by decide +kernel, rfl, by decide +kernel, by decide +kernel⟩
theorem ok_more {f : Addr} {fd : FuncData} (F : Fun K "has_more" "Tokens.has_more" (inClass (topS 19) 3) f fd) (T : RdT K mg CR) : FnOk P w K mg base CX0 1 f fd ["self"] (spMore CR) := by
  refine F.ok scMore (fun vs H Q E h => ?_) (fun cdv A outer s H vs Q E hr h => ?_)
  · obtain ⟨r, tl, toks, i, x, rfl, _⟩ := h
    rfl
  · obtain ⟨r, tl, toks, i, x, rfl, ⟨dx, h1, h2⟩, q⟩ := h
    refine ⟨_, pss_one (ps_ret (pe_cmpR op_lt (pe_fld (pv 0) rfl) (pe_callB call_len_seq (by rfl) T.len PySem.boot_len (pa_cons (pe_fld (pv 0) rfl) pa_nil)) (nomark _))), ?_⟩
    refine s_ret (ev_is (ev_op (x := .int (i : Int)) (y := .int ((toks.map V.str).length : Int)) (ev_fld (ev_var rfl) h1 T.cl T.nK rd_taken) (ev_cb (ea_cons (ev_fld (ev_var rfl) h1 T.cl T.nT rd_tokens) ea_nil) (fun H5 e5 Q5 q5 => ⟨tl, _, rfl, .inl (sq_of (e5 _ _ h2)), q5 H5 (Ex.refl H5)⟩)) rv_I0) ?_) q
    rw [List.length_map]
    refine congrArg V.bl (Bool.eq_iff_iff.mpr ?_)
    rw [decide_eq_true_eq, decide_eq_true_eq]
    omega
theorem scFin : FnScope ["self"] ["self"] (defScope (inClass (topS 19) 4)) := ⟨rfl, rfl, rfl, by decide +kernel, rfl, by decide +kernel, by decide +kernel⟩
structure TkM (P : Program) (w : World) (K : PySem.W.Frag) (mg : Str → Option Value) (base : Heap) (CR : Addr) : Prop where
  req : ∃ f fd, Meth K CR "require" f ∧ FnOk P w K mg base CX0 1 f fd ["self", "allowed"] spReq ∧ Binds K fd ["self", "allowed"] []
  more : ∃ f fd, Meth K CR "has_more" f ∧ FnOk P w K mg base CX0 1 f fd ["self"] (spMore CR) ∧ Binds K fd ["self"] []
theorem ev_more {σ : L2.St} {H : Hp} {r tl : Addr} {toks : List Str} {i : Nat} {x : V} (s0 : σ[0]? = some (some (.ref r))) (rd : RdAt CR H r tl toks i x) : Ev (tMeth CR "has_more" (spMore CR) [] E0 (tVar 0) tNil) σ H (.bl (decide (i < toks.length))) := fun H1 e1 Q q => by
  obtain ⟨dx, h1, h2⟩ := rd
  exact ⟨_, s0, r, dx, _, rfl, e1 _ _ h1, rd_no (by decide +kernel) (by decide +kernel) (by decide +kernel), r, tl, toks, i, x, rfl, ⟨dx, e1 _ _ h1, e1 _ _ h2⟩, q⟩
theorem ok_fin {f : Addr} {fd : FuncData} (F : Fun K "finish" "Tokens.finish" (inClass (topS 19) 4) f fd) (T : RdT K mg CR) (M : TkM P w K mg base CR) : FnOk P w K mg base CX0 2 f fd ["self"] (spFin CR) := by
  obtain ⟨fr, fdr, mr, okr, br⟩ := M.req
  obtain ⟨fm, fdm, mm, okm, bm⟩ := M.more
  refine F.ok (k := 1) scFin (fun vs H Q E h => ?_) (fun cdv A outer s H vs Q E hr h => ?_)
  · obtain ⟨r, tl, toks, i, x, rfl, _⟩ := h
    rfl
  · obtain ⟨r, tl, toks, i, x, rfl, rd, hi, q⟩ := h
    refine ⟨_, pss_one (ps_expr (pe_meth (E := E0) (pv 0) T.cl mr okr hr br .nil pass0 (pa_cons (pe_not (pe_meth0 (E := E0) (pv 0) T.cl mm okm hr bm .nil pass0)) pa_nil))), ?_⟩
    obtain ⟨dx, h1, h2⟩ := id rd
    refine ⟨_, rfl, r, dx, _, rfl, h1, rd_no (by decide +kernel) (by decide +kernel) (by decide +kernel), ?_⟩
    refine ev_more (σ := [some (.ref r)]) rfl rd H (Ex.refl H) _ (fun H1 e1 => ⟨_, rfl, r, ?_, fun H2 e2 => q H2 (e1.trans e2)⟩)
    rw [decide_eq_false (by omega)]
    rfl
theorem scTk : FnScope ["self"] ["self"] (defScope (inClass (topS 19) 5)) := ⟨rfl, rfl, rfl, by decide +kernel, rfl, by decide +kernel, by decide +kernel⟩
theorem ok_tk {f : Addr} {fd : FuncData} (F : Fun K "take_token" "Tokens.take_token" (inClass (topS 19) 5) f fd) (T : RdT K mg CR) (M : TkM P w K mg base CR) : FnOk P w K mg base CX0 2 f fd ["self"] (spTk CR V.str fun _ => True) := by
  obtain ⟨fr, fdr, mr, okr, br⟩ := M.req
  obtain ⟨fm, fdm, mm, okm, bm⟩ := M.more
  refine F.ok (k := 1) scTk (fun vs H Q E h => ?_) (fun cdv A outer s H vs Q E hr h => ?_)
  · obtain ⟨r, tl, toks, i, x, t, rfl, _⟩ := h
    rfl
  · obtain ⟨r, tl, toks, i, x, t, rfl, rd, ht, _, q⟩ := h
    refine ⟨_, pss_cons (ps_expr (pe_meth (E := E0) (pv 0) T.cl mr okr hr br .nil pass0 (pa_cons (pe_meth0 (E := E0) (pv 0) T.cl mm okm hr bm .nil pass0) pa_nil)))
      (pss_cons (ps_fldaug (pv 0) pe_int in_add) (pss_one (ps_ret (pe_ix ix_list (pe_fld (pv 0) rfl) (pe_op op_sub (pe_fld (pv 0) rfl) pe_int) (fun _ _ => rfl))))), ?_⟩
    obtain ⟨dx, h1, h2⟩ := id rd
    have hlt : i < toks.length := (List.getElem?_eq_some_iff.mp ht).1
    refine ⟨_, rfl, r, dx, _, rfl, h1, rd_no (by decide +kernel) (by decide +kernel) (by decide +kernel), ?_⟩
    refine ev_more (σ := [some (.ref r)]) rfl rd H (Ex.refl H) _ (fun H1 e1 => ⟨r, ?_, fun H2 e2 => ?_⟩)
    · rw [decide_eq_true hlt]
      rfl
    have e12 := e1.trans e2
    refine ⟨_, rfl, r, CR, dx, _, _, rfl, e12 _ _ h1, T.cl, T.nK, rd_taken, _, _, rfl, rfl, _, _, e12 _ _ h1, by show 3 < 1000; decide, ?_⟩
    rw [rd_put]
    have ntl : tl ≠ r := fun z => by rw [z, h1] at h2; cases h2
    have h2' : (upd H2 r (.ins CR dx (rdF tl (i + 1) x))) tl = some (.lst (toks.map V.str)) := by rw [upd_ne ntl]; exact e12 _ _ h2
    refine s_ret (v := .str t) (ev_op (x := .ref tl) (y := .int (i : Int)) (ev_fld (ev_var rfl) upd_same T.cl T.nT rd_tokens) (ev_is (ev_op (x := .int ((i + 1 : Nat) : Int)) (y := .int 1) (ev_fld (ev_var rfl) upd_same T.cl T.nK rd_taken) ev_c rv_I0) (by show V.int (((i + 1 : Nat) : Int) - 1) = _; rw [show ((i + 1 : Nat) : Int) - 1 = (i : Int) by omega])) (rv_ixL (sq_of h2') (atI_nat (by rw [List.getElem?_map, ht]; rfl)))) (fun H3 e3 => ?_)
    exact q H3 (fun c o hc h => e3 _ _ (by rw [upd_ne hc]; exact e12 _ _ h)) ⟨dx, e3 _ _ upd_same, e3 _ _ h2'⟩
end
theorem if_T {c : Prop} [Decidable c] {A B : Prop} (h : c) (a : A) : if c then A else B := by rw [if_pos h]; exact a
theorem if_F {c : Prop} [Decidable c] {A B : Prop} (h : ¬ c) (b : B) : if c then A else B := by rw [if_neg h]; exact b
def MthX (P : Program) (w : World) (K : PySem.W.Frag) (mg : Str → Option Value) (base : Heap) (CR : Addr) (k : Nat) (m : Str) (ps : List Str) (sp : Sp) : Prop := ∃ f fd, Meth K CR m f ∧ FnOk P w K mg base CX0 k f fd ps sp ∧ Binds K fd ps []
theorem ExA.mut {a l : Addr} {H H1 : Hp} {o : HO} (e : ExA a H H1) (hl : H l = none) : ExA a H (L2.upd H1 l o) := fun c o' hc h => by
  rw [upd_ne (fun z => by rw [z, hl] at h; cases h)]
  exact e c o' hc h
theorem RdAt.upd {CR : Addr} {H : Hp} {r tl l : Addr} {toks : List Str} {i : Nat} {x : V} {o : HO} (h : RdAt CR H r tl toks i x) (h1 : l ≠ r) (h2 : l ≠ tl) : RdAt CR (L2.upd H l o) r tl toks i x := by
  obtain ⟨dx, g1, g2⟩ := h
  exact ⟨dx, by rw [upd_ne (Ne.symm h1)]; exact g1, by rw [upd_ne (Ne.symm h2)]; exact g2⟩
section
variable {σ : L2.St} {H : Hp} {CR r tl : Addr} {toks : List Str} {i : Nat} {x : V} {t : Str} {f : Str → V} {ok : Str → Prop} {m : Str}
theorem em_tk (s0 : σ[0]? = some (some (.ref r))) (rd : RdAt CR H r tl toks i x) (ht : toks[i]? = some t) (h : ok t) (hm : List.lookup m (rdF tl i x) = none) : EvM (tMeth CR m (spTk CR f ok) [] E0 (tVar 0) tNil) σ H r (fun v H' => v = f t ∧ RdAt CR H' r tl toks (i + 1) x) := fun Q q => by
  obtain ⟨dx, h1, h2⟩ := id rd
  exact ⟨_, s0, r, dx, _, rfl, h1, hm, r, tl, toks, i, x, t, rfl, rd, ht, h, fun H' e rd' => q _ H' e ⟨rfl, rd'⟩⟩
end
section
variable {P : Program} {w : World} {K : PySem.W.Frag} {mg : Str → Option Value} {base : Heap} {CR : Addr}
theorem scTi : FnScope ["self", "value"] ["self"] (defScope (inClass (topS 19) 6)) := ⟨rfl, rfl, rfl, by decide +kernel, rfl, by decide +kernel, by decide +kernel⟩
theorem ok_ti {f : Addr} {fd : FuncData} (F : Fun K "take_int" "Tokens.take_int" (inClass (topS 19) 6) f fd) (T : RdT K mg CR) (MR : MthX P w K mg base CR 1 "require" ["self", "allowed"] spReq) (MT : MthX P w K mg base CR 2 "take_token" ["self"] (spTk CR V.str fun _ => True)) (GI : CalX P w K mg base CX0 1 "int_read" spIr) : FnOk P w K mg base CX0 3 f fd ["self"] (spTk CR irV isI) := by
  obtain ⟨fr, fdr, mr, okr, br⟩ := MR
  obtain ⟨ft, fdt, mt, okt, bt⟩ := MT
  refine F.ok (k := 2) scTi (fun vs H Q E h => ?_) (fun cdv A outer s H vs Q E hr h => ?_)
  · obtain ⟨r, tl, toks, i, x, t, rfl, _⟩ := h
    rfl
  · obtain ⟨r, tl, toks, i, x, t, rfl, rd, ht, ⟨hsh, n, hn⟩, q⟩ := h
    refine ⟨_, pss_cons (ps_set (i := 1) scTi.nd rfl (Or.inl rfl) (pe_cx (E := fun _ => E0) GI hr (by decide) (by rfl) at0 (pa_cons (pe_meth0 (E := E0) (pv 0) T.cl mt okt hr bt .nil pass0) pa_nil)))
      (pss_cons (ps_expr (pe_meth (E := E0) (pv 0) T.cl mr okr (hr.mono (by decide)) br .nil pass0 (pa_cons (pe_cmpR op_notN (pv 1) pe_non (nomark _)) pa_nil)))
      (pss_one (ps_ret (pv 1)))), ?_⟩
    refine em_tk (σ := [some (.ref r), none]) (f := V.str) (ok := fun _ => True) rfl rd ht trivial (rd_no (by decide +kernel) (by decide +kernel) (by decide +kernel)) _ (fun v H1 e1 ⟨hv, rd1⟩ => ?_)
    subst hv
    refine ⟨t, rfl, hsh, fun H2 e2 => ?_⟩
    obtain ⟨dx, g1, g2⟩ := id (rd1.ex e2)
    rw [hn]
    refine ⟨_, rfl, r, dx, _, rfl, g1, rd_no (by decide +kernel) (by decide +kernel) (by decide +kernel), _, rfl, rfl, r, by rw [decide_eq_false (fun z => by cases z)]; rfl, fun H3 e3 => ?_⟩
    refine ⟨_, rfl, ?_⟩
    have := q H3 (e1.trans (.of (e2.trans e3))) (rd1.ex (e2.trans e3))
    rw [hn] at this
    exact this
end
abbrev spS : Str := " "
def Fr (xs : List Str) : Prop := ∀ t ∈ xs, (32 : Nat) ∉ t.cps.toList
theorem Fr.app {xs ys : List Str} (h1 : Fr xs) (h2 : Fr ys) : Fr (xs ++ ys) := fun t ht => (List.mem_append.mp ht).elim (h1 t) (h2 t)
theorem Fr.nil : Fr [] := fun t ht => by simp at ht
theorem Fr.cons {x : Str} {xs : List Str} (h1 : (32 : Nat) ∉ x.cps.toList) (h2 : Fr xs) : Fr (x :: xs) := fun t ht => by
  rcases List.mem_cons.mp ht with rfl | ht
  · exact h1
  · exact h2 t ht
theorem join_same : ∀ (s : Str) (ts : List Str), Txt.join s ts = Str.join s ts := fun s ts => by
  first | rfl | exact TL.join_eq .. | simp [TL.join_eq]
/-- the tokens are had back -/
theorem split_tx {ts : List Str} (hne : ts ≠ []) (hf : Fr ts) : Txt.split (Str.join spS ts) spS = ts := by
  rw [← join_same]
  exact TL.split_join (y := spS) (s := 32) (S := []) (by decide +kernel) (by decide +kernel) hne hf
def spTk0 (CR : Addr) : Sp := fun vs H Q _ => ∃ (a dx : Addr) (line : Str), vs = [.ref a, .str line] ∧ H a = some (.ins CR dx []) ∧ line.length + 2 ≤ 100000 ∧ ∀ tl H', tl ≠ a → H tl = none → ExA a H H' → H' a = some (.ins CR dx [("tokens", .ref tl), ("taken", .int 0)]) → H' tl = some (.lst ((Txt.split line spS).map V.str)) → Q .non H'
theorem ExA.ex {a : Addr} {H H' : Hp} (h : H a = none) (e : ExA a H H') : Ex H H' := fun c o hc => e c o (fun z => by rw [z, h] at hc; cases hc) hc
section
variable {P : Program} {w : World} {K : PySem.W.Frag} {mg : Str → Option Value} {base : Heap} {CR CT : Addr} {k d : Nat}
theorem put_tokens {v : V} : putF ("tokens" : Str) v [] = [(("tokens" : Str), v)] := rfl
theorem put_taken {v u : V} : putF ("taken" : Str) v [(("tokens" : Str), u)] = [(("tokens" : Str), u), (("taken" : Str), v)] := by
  have h1 : ¬ ("tokens" : Str) = "taken" := by decide +kernel
  show (if ("tokens" : Str) = "taken" then _ else (("tokens" : Str), u) :: [(("taken" : Str), v)]) = _
  rw [if_neg h1]
theorem put_text {v u z : V} : putF ("text" : Str) v [(("tokens" : Str), u), (("taken" : Str), z)] = [(("tokens" : Str), u), (("taken" : Str), z), (("text" : Str), v)] := by
  have h1 : ¬ ("tokens" : Str) = "text" := by decide +kernel
  have h2 : ¬ ("taken" : Str) = "text" := by decide +kernel
  show (if ("tokens" : Str) = "text" then _ else (("tokens" : Str), u) :: (if ("taken" : Str) = "text" then _ else (("taken" : Str), z) :: [(("text" : Str), v)])) = _
  rw [if_neg h1, if_neg h2]
theorem scTk0 : FnScope ["self", "line"] ["self", "line"] (defScope (inClass (topS 19) 0)) := ⟨rfl, rfl, rfl, by decide +kernel, rfl, by decide +kernel, by decide +kernel⟩
theorem ok_tk0 {f : Addr} {fd : FuncData} (F : Fun K "__init__" "Tokens.__init__" (inClass (topS 19) 0) f fd) (T : RdT K mg CR) : FnOk P w K mg base CX0 1 f fd ["self", "line"] (spTk0 CR) := by
  refine F.ok scTk0 (fun vs H Q E h => ?_) (fun cdv A outer s H vs Q E hr h => ?_)
  · obtain ⟨a, dx, line, rfl, _⟩ := h
    rfl
  · obtain ⟨a, dx, line, rfl, ha, hl, q⟩ := h
    refine ⟨_, pss_cons (ps_fld (pv 0) (pe_split (pv 1) pe_str) rfl) (pss_one (ps_fld (pv 0) pe_int rfl)), ?_⟩
    refine ⟨_, rfl, ⟨line, rfl⟩, line, spS, rfl, rfl, by decide +kernel, sz_of (by omega), fun tl htl => ?_⟩
    have ntl : tl ≠ a := fun z => by rw [z, ha] at htl; cases htl
    refine ⟨_, rfl, a, CR, dx, _, rfl, (Ex.new htl) _ _ ha, T.cl, T.nT, by show 0 < 1000; decide, ?_⟩
    rw [put_tokens]
    refine ⟨_, rfl, a, CR, dx, _, rfl, upd_same, T.cl, T.nK, by show 1 < 1000; decide, ?_⟩
    rw [put_taken]
    refine q tl _ ntl htl (fun c o hc h => ?_) upd_same ?_
    · rw [upd_ne hc, upd_ne hc]
      exact (Ex.new htl) _ _ h
    · rw [upd_ne ntl, upd_ne ntl]
      exact upd_same
end
/-! more of one token -/
theorem iS_free {c : Nat} {i : Int} (h1 : c ≠ 45) (h2 : c < 48 ∨ 57 < c) : c ∉ (iS i).cps.toList := by
  cases i with
  | ofNat n =>
    rw [show (iS (Int.ofNat n)).cps.toList = TL.numL n from TL.tl_num n]
    exact TL.numL_free h2
  | negSucc n =>
    rw [show (iS (Int.negSucc n)).cps.toList = 45 :: TL.numL (n + 1) from neg_text n]
    intro hm
    rcases List.mem_cons.mp hm with z | z
    · exact h1 z
    · exact TL.numL_free h2 z
theorem split_ch {h n s : Int} : Txt.split (wS (chD h n s)) ":" = [iS h, iS n, iS s] := by
  show Txt.split (Str.join ":" [iS h, iS n, iS s]) ":" = _
  rw [← join_same]
  refine TL.split_join (y := ":") (s := 58) (S := []) (by decide +kernel) (by decide +kernel) (by simp) (fun p hp => ?_)
  have : p = iS h ∨ p = iS n ∨ p = iS s := by simpa using hp
  rcases this with rfl | rfl | rfl <;> exact iS_free (by decide) (.inr (by decide))
theorem tl_cat (a b : Str) : (a ++ b).cps.toList = a.cps.toList ++ b.cps.toList := TL.tl_append a b
theorem ch_tl {h n s : Int} : (wS (chD h n s)).cps.toList = (iS h).cps.toList ++ 58 :: ((iS n).cps.toList ++ 58 :: (iS s).cps.toList) := by
  have e : wS (chD h n s) = (iS h ++ (":" : Str)) ++ ((iS n ++ (":" : Str)) ++ iS s) := rfl
  have c : (":" : Str).cps.toList = [58] := by decide +kernel
  rw [e, tl_cat, tl_cat, tl_cat, tl_cat, c]
  simp only [List.append_assoc, List.cons_append, List.nil_append]
theorem ch_len {h n s : Int} (ok : ChOk h n s) : (wS (chD h n s)).length ≤ 95 := by
  have h1 := int_len ok.ih
  have h2 := int_len ok.inn
  have h3 := int_len ok.is
  rw [len_l] at h1 h2 h3
  rw [len_l, ch_tl]
  simp only [List.length_append, List.length_cons]
  omega
theorem ch_free {h n s : Int} : (32 : Nat) ∉ (wS (chD h n s)).cps.toList := by
  rw [ch_tl]
  intro hm
  have f : ∀ i : Int, (32 : Nat) ∉ (iS i).cps.toList := fun i => iS_free (by decide) (.inl (by decide))
  simp only [List.mem_append, List.mem_cons] at hm
  rcases hm with z | z | z | z | z
  · exact f h z
  · cases z
  · exact f n z
  · cases z
  · exact f s z
theorem dgL_mem {c : Nat} (h : c ≠ 45) : ∀ {l : List Nat}, c ∈ l → c ∈ dgL l
  | [], hm => hm
  | x :: l, hm => by
    by_cases h45 : x = 45
    · subst h45
      rcases List.mem_cons.mp hm with z | z
      · exact absurd z h
      · exact z
    · have e : dgL (x :: l) = x :: l := by
        unfold dgL
        split
        · rename_i cs' he
          injection he with e1 e2
          exact absurd e1 h45
        · rfl
      rw [e]
      exact hm
theorem ch_ir {h n s : Int} : irV (wS (chD h n s)) = .non := by
  refine irV_no ?_
  have hm : (58 : Nat) ∈ dgL (wS (chD h n s)).cps.toList := dgL_mem (by decide) (by rw [ch_tl]; simp)
  have : (dgL (wS (chD h n s)).cps.toList).all isDig = false := by
    cases hq : (dgL (wS (chD h n s)).cps.toList).all isDig with
    | false => rfl
    | true => exact absurd (List.all_eq_true.mp hq _ hm) (by decide)
  unfold irOk
  rw [this]
  simp
theorem w_len {d : PyData} (h : WOk d) : (wS d).length ≤ 95 := by
  rcases h with ⟨i, rfl, hi⟩ | ⟨a, n, s, rfl, ok⟩
  · exact Nat.le_trans (int_len hi) (by decide)
  · exact ch_len ok
theorem w_free {d : PyData} (h : WOk d) : (32 : Nat) ∉ (wS d).cps.toList := by
  rcases h with ⟨i, rfl, hi⟩ | ⟨a, n, s, rfl, ok⟩
  · exact iS_free (by decide) (.inl (by decide))
  · exact ch_free
end Fs

set_option Elab.async false
set_option linter.all false
set_option maxRecDepth 100000
set_option maxHeartbeats 4000000
/-! counts, channels, values, rows, parts read -/
namespace Fs
open PySem L2 Evl FsE FsC FsR FsP FsV
theorem no3 {CR : Addr} {tl : Addr} {i : Nat} {x : V} {m : Str} (h1 : (m == ("tokens" : Str)) = false) (h2 : (m == ("taken" : Str)) = false) (h3 : (m == ("text" : Str)) = false) : List.lookup m (rdF tl i x) = none := rd_no h1 h2 h3
def spTC (CR : Addr) : Sp := fun vs H Q _ => ∃ (r tl : Addr) (toks : List Str) (i : Nat) (x : V) (lo n : Int), vs = [.ref r, .int lo] ∧ RdAt CR H r tl toks i x ∧ toks[i]? = some (iS n) ∧ iOk n ∧ lo ≤ n ∧ ∀ H', ExA r H H' → RdAt CR H' r tl toks (i + 1) x → Q (.int n) H'
def spTB (CR : Addr) : Sp := fun vs H Q _ => ∃ (r tl : Addr) (toks : List Str) (i : Nat) (x : V) (lim n : Int), vs = [.ref r, .int lim] ∧ RdAt CR H r tl toks i x ∧ toks[i]? = some (iS n) ∧ iOk n ∧ 0 ≤ n ∧ n < lim ∧ ∀ H', ExA r H H' → RdAt CR H' r tl toks (i + 1) x → Q (.int n) H'
def spTis (CR : Addr) : Sp := fun vs H Q _ => ∃ (r tl : Addr) (toks : List Str) (i : Nat) (x : V) (h n s : Int), vs = [.ref r, .str ":", .int 3] ∧ RdAt CR H r tl toks i x ∧ toks[i]? = some (wS (chD h n s)) ∧ ChOk h n s ∧ ∀ a H', ExA r H H' → RdAt CR H' r tl toks (i + 1) x → H' a = some (.tup [.int h, .int n, .int s]) → Q (.ref a) H'
def spTch (CR : Addr) : Sp := fun vs H Q _ => ∃ (r tl : Addr) (toks : List Str) (i : Nat) (x : V) (h n s : Int), vs = [.ref r] ∧ RdAt CR H r tl toks i x ∧ toks[i]? = some (wS (chD h n s)) ∧ ChOk h n s ∧ ∀ a H', ExA r H H' → RdAt CR H' r tl toks (i + 1) x → H' a = some (.tup [.int h, .int n, .int s]) → Q (.ref a) H'
def spTv (CR : Addr) : Sp := fun vs H Q _ => ∃ (r tl : Addr) (toks : List Str) (i : Nat) (x : V) (d : PyData), vs = [.ref r] ∧ RdAt CR H r tl toks i x ∧ toks[i]? = some (wS d) ∧ WOk d ∧ ∀ v H', ExA r H H' → RdAt CR H' r tl toks (i + 1) x → DaAt H' v d → Q v H'
theorem ch_da {H : Hp} {a : Addr} {h n s : Int} (ha : H a = some (.tup [.int h, .int n, .int s])) : DaAt H (.ref a) (chD h n s) := da_tup ha (DaL.cons da_int (DaL.cons da_int (DaL.cons da_int DaL.nil)))
section
variable {σ : L2.St} {H : Hp} {CR r tl : Addr} {toks : List Str} {i : Nat} {x : V} {te : TE}
theorem em_ti {n : Int} (s0 : σ[0]? = some (some (.ref r))) (rd : RdAt CR H r tl toks i x) (ht : toks[i]? = some (iS n)) (hn : iOk n) : EvM (tMeth CR "take_int" (spTk CR irV isI) [] E0 (tVar 0) tNil) σ H r (fun v H' => v = .int n ∧ RdAt CR H' r tl toks (i + 1) x) := fun Q q =>
  em_tk s0 rd ht ⟨by have := int_len hn; unfold shT; omega, n, ir_iS hn⟩ (rd_no (by decide +kernel) (by decide +kernel) (by decide +kernel)) Q fun v H' e ⟨hv, rd'⟩ => q v H' e ⟨hv.trans (ir_iS hn), rd'⟩
theorem em_word {t : Str} (s0 : σ[0]? = some (some (.ref r))) (rd : RdAt CR H r tl toks i x) (ht : toks[i]? = some t) : EvM (tMeth CR "take_token" (spTk CR V.str fun _ => True) [] E0 (tVar 0) tNil) σ H r (fun v H' => v = .str t ∧ RdAt CR H' r tl toks (i + 1) x) := fun Q q =>
  em_tk s0 rd ht trivial (rd_no (by decide +kernel) (by decide +kernel) (by decide +kernel)) Q q
/-- self.require(a test that holds) -/
theorem ev_req {te : TE} (s0 : σ[0]? = some (some (.ref r))) (rd : RdAt CR H r tl toks i x) (hte : Ev te σ H (.bl true)) : Ev (tMeth CR "require" spReq [] E0 (tVar 0) (tCons te tNil)) σ H .non := fun H1 e1 Q q => by
  obtain ⟨dx, h1, h2⟩ := id rd
  exact ⟨_, s0, r, dx, _, rfl, e1 _ _ h1, rd_no (by decide +kernel) (by decide +kernel) (by decide +kernel), hte H1 e1 _ fun H2 e2 => ⟨r, rfl, fun H3 e3 => q H3 (e2.trans e3)⟩⟩
theorem em_tb {n lim : Int} (s0 : σ[0]? = some (some (.ref r))) (rd : RdAt CR H r tl toks i x) (hte : Ev te σ H (.int lim)) (ht : toks[i]? = some (iS n)) (hn : iOk n) (n0 : 0 ≤ n) (n1 : n < lim) : EvM (tMeth CR "take_below" (spTB CR) [] E0 (tVar 0) (tCons te tNil)) σ H r (fun v H' => v = .int n ∧ RdAt CR H' r tl toks (i + 1) x) := fun Q q => by
  obtain ⟨dx, h1, h2⟩ := id rd
  exact ⟨_, s0, r, dx, _, rfl, h1, rd_no (by decide +kernel) (by decide +kernel) (by decide +kernel), hte H (Ex.refl H) _ fun H1 e1 => ⟨r, tl, toks, i, x, lim, n, rfl, rd.ex e1, ht, hn, n0, n1, fun H' e rd' => q _ H' ((ExA.of e1).trans e) ⟨rfl, rd'⟩⟩⟩
theorem em_tch {h n s : Int} (s0 : σ[0]? = some (some (.ref r))) (rd : RdAt CR H r tl toks i x) (ht : toks[i]? = some (wS (chD h n s))) (ok : ChOk h n s) : EvM (tMeth CR "take_channel" (spTch CR) [] E0 (tVar 0) tNil) σ H r (fun v H' => ∃ a, v = .ref a ∧ H' a = some (.tup [.int h, .int n, .int s]) ∧ RdAt CR H' r tl toks (i + 1) x) := fun Q q => by
  obtain ⟨dx, h1, h2⟩ := id rd
  exact ⟨_, s0, r, dx, _, rfl, h1, rd_no (by decide +kernel) (by decide +kernel) (by decide +kernel), r, tl, toks, i, x, h, n, s, rfl, rd, ht, ok, fun a H' e rd' ha => q _ H' e ⟨a, rfl, ha, rd'⟩⟩
theorem em_tv {d : PyData} (s0 : σ[0]? = some (some (.ref r))) (rd : RdAt CR H r tl toks i x) (ht : toks[i]? = some (wS d)) (ok : WOk d) : EvM (tMeth CR "take_value" (spTv CR) [] E0 (tVar 0) tNil) σ H r (fun v H' => DaAt H' v d ∧ RdAt CR H' r tl toks (i + 1) x) := fun Q q => by
  obtain ⟨dx, h1, h2⟩ := id rd
  exact ⟨_, s0, r, dx, _, rfl, h1, rd_no (by decide +kernel) (by decide +kernel) (by decide +kernel), r, tl, toks, i, x, d, rfl, rd, ht, ok, fun v H' e rd' hd => q _ H' e ⟨hd, rd'⟩⟩
end
section
variable {P : Program} {w : World} {K : PySem.W.Frag} {mg : Str → Option Value} {base : Heap} {CR : Addr}
theorem scTC : FnScope ["self", "least", "value"] ["self", "least"] (defScope (inClass (topS 19) 7)) := ⟨rfl, rfl, rfl, by decide +kernel, rfl, by decide +kernel, by decide +kernel⟩
abbrev FunTC (K : PySem.W.Frag) (f : Addr) (fd : FuncData) : Prop := FunD K "take_count" "Tokens.take_count" (defArgs (inClass (topS 19) 7)) (defBody (inClass (topS 19) 7)) (defScope (inClass (topS 19) 7)) [.int 0] [] f fd
theorem ok_tc {f : Addr} {fd : FuncData} (F : FunTC K f fd) (T : RdT K mg CR) (MR : MthX P w K mg base CR 1 "require" ["self", "allowed"] spReq) (MI : MthX P w K mg base CR 3 "take_int" ["self"] (spTk CR irV isI)) : FnOk P w K mg base CX0 4 f fd ["self", "least"] (spTC CR) := by
  obtain ⟨fr, fdr, mr, okr, br⟩ := MR
  obtain ⟨fi, fdi, mi, oki, bi⟩ := MI
  refine F.ok (k := 3) scTC (fun vs H Q E h => ?_) (fun cdv A outer s H vs Q E hr h => ?_)
  · obtain ⟨r, tl, toks, i, x, lo, n, rfl, _⟩ := h
    rfl
  · obtain ⟨r, tl, toks, i, x, lo, n, rfl, rd, ht, hn, hlo, q⟩ := h
    refine ⟨_, pss_cons (ps_set (i := 2) scTC.nd rfl (Or.inl rfl) (pe_meth0 (E := E0) (pv 0) T.cl mi oki hr bi .nil pass0))
      (pss_cons (ps_expr (pe_meth (E := E0) (pv 0) T.cl mr okr (hr.mono (by decide)) br .nil pass0 (pa_cons (pe_cmpR op_ge (pv 2) (pv 1) (nomark _)) pa_nil)))
      (pss_one (ps_ret (pv 2)))), ?_⟩
    refine q_asgM (em_ti rfl rd ht hn) (fun v H1 e1 ⟨hv, rd1⟩ => ?_)
    subst hv
    refine ev_req (σ := [some (.ref r), some (.int lo), some (.int n)]) rfl rd1 (ev_is (ev_op (x := .int n) (y := .int lo) (ev_var rfl) (ev_var rfl) rv_I0) (by show V.bl (decide (n ≥ lo)) = _; rw [decide_eq_true hlo])) H1 (Ex.refl H1) _ (fun H2 e2 => ⟨_, rfl, q H2 (e1.trans (.of e2)) (rd1.ex e2)⟩)
theorem scTis : FnScope ["self", "sign", "count", "numbers", "part", "number"] ["self", "sign", "count"] (defScope (inClass (topS 19) 8)) := ⟨rfl, rfl, rfl, by decide +kernel, rfl, by decide +kernel, by decide +kernel⟩
theorem ok_tis {f : Addr} {fd : FuncData} (F : Fun K "take_ints" "Tokens.take_ints" (inClass (topS 19) 8) f fd) (B : BasT K mg) (T : RdT K mg CR) (MR : MthX P w K mg base CR 1 "require" ["self", "allowed"] spReq) (MT : MthX P w K mg base CR 2 "take_token" ["self"] (spTk CR V.str fun _ => True)) (GI : CalX P w K mg base CX0 1 "int_read" spIr) : FnOk P w K mg base CX0 3 f fd ["self", "sign", "count"] (spTis CR) := by
  obtain ⟨fr, fdr, mr, okr, br⟩ := MR
  obtain ⟨ft, fdt, mt, okt, bt⟩ := MT
  refine F.ok (k := 2) scTis (fun vs H Q E h => ?_) (fun cdv A outer s H vs Q E hr h => ?_)
  · obtain ⟨r, tl, toks, i, x, h, n, s, rfl, _⟩ := h
    rfl
  · obtain ⟨r, tl, toks, i, x, h, n, s9, rfl, rd, ht, ok, q⟩ := h
    refine ⟨_, pss_cons (ps_setLc (i := 3) (own := [("part", 4)]) (g := gName 4) (tt := tYes) (te := tCallS spIr (fun _ => E0) (tCons (tVar 4) tNil)) rfl scTis.nd rfl rfl (sw_true rfl rfl rfl (by decide +kernel)) (pi_list (pe_split (pe_meth0 (E := E0) (pv 0) T.cl mt okt hr bt .nil pass0) (pv 1))) (blkOk_by (own := [("part", 4)]) (N := ["self", "sign", "count", "numbers", "part", "number"]) (sc := defScope (inClass (topS 19) 8)) (by decide +kernel))
        (fun _ _ _ _ _ => pg_name (i := 4) scTis.nd rfl (Or.inl rfl)) (fun _ _ _ _ _ => pts_nil) (fun _ _ _ _ _ => pe_cx (E := fun _ => E0) GI hr (by decide) (by rfl) at0 (pa_cons (pv 4) pa_nil)))
      (pss_cons (ps_expr (pe_meth (E := E0) (pv 0) T.cl mr okr (hr.mono (by decide)) br .nil pass0 (pa_cons (pe_and (pe_cmpR op_eq (pe_callB call_len_seq (by rfl) B.len PySem.boot_len (pa_cons (pv 3) pa_nil)) (pv 2) (nomark _))
          (pe_one (pe_callB (cr_all rfl) (by rfl) B.all (by decide +kernel) (pa_cons (pe_lc (own := [("number", 5)]) (g := gName 5) (tt := tYes) rfl scTis.nd (pi_list (pv 3)) (blkOk_by (own := [("number", 5)]) (N := ["self", "sign", "count", "numbers", "part", "number"]) (sc := defScope (inClass (topS 19) 8)) (by decide +kernel))
            (fun _ _ _ _ _ => pg_name (i := 5) scTis.nd rfl (Or.inl rfl)) (fun _ _ _ _ _ => pts_nil) (fun _ _ _ _ _ => pe_cmpR op_notN (pv 5) pe_non (nomark _))) pa_nil)))) pa_nil)))
      (pss_one (ps_ret (pe_callTy call_tuple_of (by rfl) B.tuple (by decide +kernel) (pa_cons (pv 3) pa_nil))))), ?_⟩
    have rise : toks[i]? = some (wS (chD h n s9)) := ht
    refine em_word (σ := [some (.ref r), some (.str ":"), some (.int 3), none, none, none]) rfl rd ht _ (fun v H1 e1 ⟨hv, rd1⟩ => ?_)
    subst hv
    have wl := ch_len ok
    refine ⟨⟨_, rfl⟩, _, rfl, _, _, rfl, rfl, by decide +kernel, sz_of (by omega), ?_⟩
    rw [split_ch]
    intro l hl
    have hlH : H l = none := rd.fresh e1 hl rd1.some
    have nlr : l ≠ r := fun z => by
      rw [z] at hl
      exact rd1.some hl
    refine ⟨l, rfl, ⟨_, sq_of upd_same⟩, fun Dl hD => lc_list (xs := [.str (iS h), .str (iS n), .str (iS s9)]) (fun j H' => H' Dl = some (.lst (([h, n, s9].take j).map V.int)) ∧ Ex (upd H1 l (.lst ([iS h, iS n, iS s9].map V.str))) H') ⟨upd_same, Ex.new hD⟩ (fun j H' _ ⟨_, he⟩ => sq_of (he _ _ upd_same)) (fun j xx H' hx ⟨g1, he⟩ => ?_) (fun H' ⟨g1, he⟩ => ?_)⟩
    · have one : ∀ {z : Int}, xx = .str (iS z) → [h, n, s9][j]? = some z → iOk z → j < 3 → (wipe ([some (.ref r), some (.str ":"), some (.int 3), none, none, none].set 4 (some xx)) [4] = wipe [some (.ref r), some (.str ":"), some (.int 3), none, none, none] [4]) ∧ tYes ([some (.ref r), some (.str ":"), some (.int 3), none, some xx, none] : L2.St) H' fun b H3 => if b = true then tCallS spIr (fun _ => E0) (tCons (tVar 4) tNil) ([some (.ref r), some (.str ":"), some (.int 3), none, some xx, none] : L2.St) H3 fun y H4 => ∃ acc, H4 Dl = some (.lst acc) ∧ acc.length < sizeLine ∧ ((upd H4 Dl (.lst (acc ++ [y]))) Dl = some (.lst (([h, n, s9].take (j + 1)).map V.int)) ∧ Ex (upd H1 l (.lst ([iS h, iS n, iS s9].map V.str))) (upd H4 Dl (.lst (acc ++ [y])))) else (H3 Dl = some (.lst (([h, n, s9].take (j + 1)).map V.int)) ∧ Ex (upd H1 l (.lst ([iS h, iS n, iS s9].map V.str))) H3) := fun {z} hz hj hi hj3 => by
        subst hz
        refine ⟨rfl, ⟨_, rfl, iS z, rfl, by have := int_len hi; omega, fun H4 e4 => ⟨_, e4 _ _ g1, sz_lt (by rw [List.length_map, List.length_take]; show min j 3 < 100000; omega), ?_, Ex.mut (he.trans e4) hD⟩⟩⟩
        rw [List.take_add_one, hj, List.map_append, ir_iS hi]
        exact upd_same
      match j, hx with
      | 0, hx => exact one (Option.some.inj hx).symm rfl ok.ih (by decide)
      | 1, hx => exact one (Option.some.inj hx).symm rfl ok.inn (by decide)
      | 2, hx => exact one (Option.some.inj hx).symm rfl ok.is (by decide)
      | j + 3, hx => exact absurd hx (by simp)
    · have g3 : H' Dl = some (.lst [.int h, .int n, .int s9]) := g1
      have x1 : Ex H1 H' := (Ex.new hl).trans he
      have rd2 := rd1.ex x1
      refine ev_req (σ := [some (.ref r), some (.str ":"), some (.int 3), some (.ref Dl), none, none]) rfl rd2 (ev_is (ev_andV (a := true) (b := true) (ev_is (ev_op (x := .int 3) (y := .int 3) (ev_cb (ea_cons (ev_var rfl) ea_nil) (fun H5 e5 Q5 q5 => ⟨Dl, _, rfl, .inl (sq_of (e5 _ _ g3)), q5 H5 (Ex.refl H5)⟩)) (ev_var rfl) (rv_eq rfl)) (by decide +kernel))
        (fun _ => ev_is (ev_all (bs := [true, true, true]) (el_lcLy (K := K) (xs := [.int h, .int n, .int s9]) (ys := [.bl true, .bl true, .bl true]) (ev_var rfl) (sq_of g3) (by show 3 ≤ 40000; decide) (fun _ => rfl) rfl (fun j y z H5 e5 hy hz => ?_))) rfl)) rfl) H' (Ex.refl H') _ (fun H3 e3 => ?_)
      · obtain ⟨m, rfl⟩ : ∃ m : Int, y = .int m := by
          match j, hy with
          | 0, hy => exact ⟨h, (Option.some.inj hy).symm⟩
          | 1, hy => exact ⟨n, (Option.some.inj hy).symm⟩
          | 2, hy => exact ⟨s9, (Option.some.inj hy).symm⟩
          | j + 3, hy => exact absurd hy (by simp)
        have ez : z = .bl true := by
          match j, hz with
          | 0, hz => exact (Option.some.inj hz).symm
          | 1, hz => exact (Option.some.inj hz).symm
          | 2, hz => exact (Option.some.inj hz).symm
          | j + 3, hz => exact absurd hz (by simp)
        rw [ez]
        exact ev_is (ev_op (x := .int m) (y := .non) (ev_var rfl) ev_c rv_notNon) (by rw [decide_eq_false (fun z => by cases z)]; rfl)
      · refine ⟨_, rfl, Dl, _, rfl, .inl ⟨sq_of (e3 _ _ g3), fun a ha => ?_⟩⟩
        exact q a _ (e1.trans (.of ((x1.trans e3).trans (Ex.new ha)))) ((rd2.ex e3).ex (Ex.new ha)) upd_same
end
end Fs

set_option Elab.async false
set_option linter.all false
set_option maxRecDepth 100000
set_option maxHeartbeats 4000000
/-! a reader made; a number below another, a channel, a value read -/
namespace Fs
open PySem L2 Evl FsE FsC FsR FsP FsV
def party4 : List V := [.str "heard", .str "ask", .str "done", .str "free"]
def home3 : List V := [.str "offers", .str "yes", .str "no"]
structure MsT (K : PySem.W.Frag) (mg : Str → Option Value) : Prop where
  most : GC mg "MOST_MACHINES" (.int 6)
  offers : GC mg "MOST_OFFERS" (.int 6)
  party : ∃ a, mg "TO_PARTY" = some (.ref a) ∧ ∀ H, SqT K H a party4
  home : ∃ a, mg "TO_HOME" = some (.ref a) ∧ ∀ H, SqT K H a home3
structure TokM (P : Program) (w : World) (K : PySem.W.Frag) (mg : Str → Option Value) (base : Heap) (CR : Addr) : Prop where
  req : MthX P w K mg base CR 1 "require" ["self", "allowed"] spReq
  more : MthX P w K mg base CR 1 "has_more" ["self"] (spMore CR)
  fin : MthX P w K mg base CR 2 "finish" ["self"] (spFin CR)
  tok : MthX P w K mg base CR 2 "take_token" ["self"] (spTk CR V.str fun _ => True)
  int : MthX P w K mg base CR 3 "take_int" ["self"] (spTk CR irV isI)
  nums : MthX P w K mg base CR 3 "take_ints" ["self", "sign", "count"] (spTis CR)
  cnt : MthX P w K mg base CR 4 "take_count" ["self", "least"] (spTC CR)
  cnt0 : ∃ f fd ds, Meth K CR "take_count" f ∧ FnOk P w K mg base CX0 4 f fd ["self", "least"] (spTC CR) ∧ Vals [.int 0] ds ∧ Binds K fd ["self", "least"] ds
theorem binds_tc {K : PySem.W.Frag} {f : Addr} {fd : FuncData} (F : FunTC K f fd) : Binds K fd ["self", "least"] [] := by
  obtain ⟨ds, vd, bd⟩ := F.binds1 (ps := ["self", "least"]) 2 1 (by simp) rfl (fun T kV doc pm an cdv ct us its h1 h2 => match us, its, h1, h2 with | [_, _], [_], _, _ => ⟨_, rfl, rfl⟩)
  cases vd
  exact bd
theorem binds_tc0 {K : PySem.W.Frag} {f : Addr} {fd : FuncData} (F : FunTC K f fd) : ∃ ds, Vals [.int 0] ds ∧ Binds K fd ["self", "least"] ds :=
  F.binds1 (ps := ["self", "least"]) 1 0 (by simp) rfl (fun T kV doc pm an cdv ct us its h1 h2 => match us, its, h1, h2 with | [_], [_], _, _ => ⟨_, rfl, rfl⟩)
theorem q_unp3 {σ : L2.St} {H : Hp} {K : PySem.W.Frag} {ta : TE} {a : Addr} {x1 x2 x3 : V} {i1 i2 i3 : Nat} {tz : TS} {D : Ends} (h : Ev ta σ H (.ref a)) (hx : H a = some (.tup [x1, x2, x3])) (σ' : L2.St)
    (hσ : ((σ.set i1 (some x1)).set i2 (some x2)).set i3 (some x3) = σ') (k : ∀ H1, Ex H H1 → tz D σ' H1) : tSeq (tAsg ta (gTup K 3 (gCons (gName i1) (gCons (gName i2) (gCons (gName i3) gNil))))) tz D σ H := by
  subst hσ
  exact h H (Ex.refl H) _ fun H1 e1 => ⟨a, _, rfl, st_of (e1 _ _ hx), rfl, _, _, rfl, _, _, rfl, _, _, rfl, rfl, k H1 e1⟩
def spMR0 (CR : Addr) : Sp := fun vs H Q _ => ∃ (a dx : Addr) (line : Str) (H0 : Hp), vs = [.ref a, .str line] ∧ H a = some (.ins CR dx []) ∧ H0 a = none ∧ Ex H0 H ∧ line.length + 2 ≤ 100000 ∧ ∀ tl H', Ex H0 H' → RdAt CR H' a tl (Txt.split line spS) 0 (.str line) → Q .non H'
section
variable {P : Program} {w : World} {K : PySem.W.Frag} {mg : Str → Option Value} {base : Heap} {CR CT : Addr} {k d : Nat}
theorem scMR0 : FnScope ["self", "text"] ["self", "text"] (defScope (inClass (topS 23) 0)) := ⟨rfl, rfl, rfl, by decide +kernel, rfl, by decide +kernel, by decide +kernel⟩
theorem ok_mr0 {f g : Addr} {fd gd : FuncData} {mc : Value} (F : Fun K "__init__" "MessageReader.__init__" (inClass (topS 23) 0) f fd) (T : RdT K mg CR) (gT : mg "Tokens" = some (.ref CT)) (r : ClX.CRead K CT mc) (c : FMet K CT mc "__init__" g) (G : FnOk P w K mg base CX0 1 g gd ["self", "line"] (spTk0 CR)) (b : Binds K gd ["self", "line"] []) : FnOk P w K mg base CX0 2 f fd ["self", "text"] (spMR0 CR) := by
  refine F.ok (k := 1) scMR0 (fun vs H Q E h => ?_) (fun cdv A outer s H vs Q E hr h => ?_)
  · obtain ⟨a, dx, line, H0, rfl, _⟩ := h
    rfl
  · obtain ⟨a, dx, line, H0, rfl, ha, h0, e0, hl, q⟩ := h
    refine ⟨_, pss_cons (ps_expr (pe_clsf (E := fun _ => E0) (pe_glob (v := .ref CT) (by rfl) gT rfl) r c G hr b (fun σ => at0 (E := fun _ => E0) σ) (pa_cons (pv 0) (pa_cons (pv 1) pa_nil)))) (pss_one (ps_fld (pv 0) (pv 1) rfl)), ?_⟩
    refine ⟨rfl, _, rfl, _, rfl, a, dx, line, rfl, ha, hl, fun tl H1 ntl htl e1 ha1 hl1 => ?_⟩
    refine ⟨_, rfl, _, rfl, a, CR, dx, _, rfl, ha1, T.cl, T.nN, by show 2 < 1000; decide, ?_⟩
    rw [put_text]
    refine q tl _ (fun c o hc => ?_) ⟨dx, upd_same, ?_⟩
    · have hca : c ≠ a := fun z => by rw [z, h0] at hc; cases hc
      rw [upd_ne hca]
      exact e1 c o hca (e0 _ _ hc)
    · rw [upd_ne ntl]
      exact hl1
theorem scTB : FnScope ["self", "limit", "value"] ["self", "limit"] (defScope (inClass (topS 23) 4)) := ⟨rfl, rfl, rfl, by decide +kernel, rfl, by decide +kernel, by decide +kernel⟩
theorem ok_tb {f : Addr} {fd : FuncData} (F : Fun K "take_below" "MessageReader.take_below" (inClass (topS 23) 4) f fd) (T : RdT K mg CR) (M : TokM P w K mg base CR) (GX : CalX P w K mg base CX0 2 "is_index" spIndex) : FnOk P w K mg base CX0 4 f fd ["self", "limit"] (spTB CR) := by
  obtain ⟨fr, fdr, mr, okr, br⟩ := M.req
  obtain ⟨fi, fdi, mi, oki, bi⟩ := M.int
  refine F.ok (k := 3) scTB (fun vs H Q E h => ?_) (fun cdv A outer s H vs Q E hr h => ?_)
  · obtain ⟨r, tl, toks, i, x, lo, n, rfl, _⟩ := h
    rfl
  · obtain ⟨r, tl, toks, i, x, lim, n, rfl, rd, ht, hn, n0, n1, q⟩ := h
    refine ⟨_, pss_cons (ps_set (i := 2) scTB.nd rfl (Or.inl rfl) (pe_meth0 (E := E0) (pv 0) T.cl mi oki hr bi .nil pass0))
      (pss_cons (ps_expr (pe_meth (E := E0) (pv 0) T.cl mr okr (hr.mono (by decide)) br .nil pass0 (pa_cons (pe_cx (E := fun _ => E0) GX hr (by decide) (by rfl) at0 (pa_cons (pv 2) (pa_cons (pv 1) pa_nil))) pa_nil)))
      (pss_one (ps_ret (pv 2)))), ?_⟩
    refine q_asgM (em_ti rfl rd ht hn) (fun v H1 e1 ⟨hv, rd1⟩ => ?_)
    subst hv
    refine ev_req (σ := [some (.ref r), some (.int lim), some (.int n)]) rfl rd1 (ev_is (ev_cx (z := .bl (decide (0 ≤ n) && decide (n < lim))) (ea_cons (ev_var rfl) (ea_cons (ev_var rfl) ea_nil)) (fun H2 e2 Q2 q2 E2 => ⟨n, lim, rfl, q2⟩)) (by rw [decide_eq_true n0, decide_eq_true n1]; rfl)) H1 (Ex.refl H1) _ (fun H2 e2 => ⟨_, rfl, q H2 (e1.trans (.of e2)) (rd1.ex e2)⟩)
theorem scTch : FnScope ["self", "channel", "home", "number", "seats"] ["self"] (defScope (inClass (topS 23) 5)) := ⟨rfl, rfl, rfl, by decide +kernel, rfl, by decide +kernel, by decide +kernel⟩
theorem ok_tch {f : Addr} {fd : FuncData} (F : Fun K "take_channel" "MessageReader.take_channel" (inClass (topS 23) 5) f fd) (T : RdT K mg CR) (C : MsT K mg) (M : TokM P w K mg base CR) (GX : CalX P w K mg base CX0 2 "is_index" spIndex) (GS : CalX P w K mg base CX0 2 "is_seats" spIsSe) : FnOk P w K mg base CX0 4 f fd ["self"] (spTch CR) := by
  obtain ⟨fr, fdr, mr, okr, br⟩ := M.req
  obtain ⟨fi, fdi, mi, oki, bi⟩ := M.nums
  refine F.ok (k := 3) scTch (fun vs H Q E h => ?_) (fun cdv A outer s H vs Q E hr h => ?_)
  · obtain ⟨r, tl, toks, i, x, h, n, s9, rfl, _⟩ := h
    rfl
  · obtain ⟨r, tl, toks, i, x, h, n, s9, rfl, rd, ht, ok, q⟩ := h
    refine ⟨_, pss_cons (ps_set (i := 1) scTch.nd rfl (Or.inl rfl) (pe_meth (E := E0) (pv 0) T.cl mi oki hr bi .nil pass0 (pa_cons pe_str (pa_cons pe_int pa_nil))))
      (pss_cons (ps_asg (pv 1) (pg_tup rfl (pgs_cons (pg_name (i := 2) scTch.nd rfl (.inl rfl)) (pgs_cons (pg_name (i := 3) scTch.nd rfl (.inl rfl)) (pgs_cons (pg_name (i := 4) scTch.nd rfl (.inl rfl)) pgs_nil)))))
      (pss_cons (ps_expr (pe_meth (E := E0) (pv 0) T.cl mr okr (hr.mono (by decide)) br .nil pass0 (pa_cons (pe_and (pe_cx (E := fun _ => E0) GX hr (by decide) (by rfl) at0 (pa_cons (pv 2) (pa_cons (C8.pe_gc (by rfl) C.most) pa_nil))) (pe_and (pe_cmpR op_ge (pv 3) pe_int (nomark _)) (pe_one (pe_cx (E := fun _ => E0) GS hr (by decide) (by rfl) at0 (pa_cons (pv 4) pa_nil))))) pa_nil)))
      (pss_one (ps_ret (pv 1))))), ?_⟩
    have em : EvM (tMeth CR "take_ints" (spTis CR) [] E0 (tVar 0) (tCons (tC (.str ":")) (tCons (tC (.int 3)) tNil))) [some (.ref r), none, none, none, none] H r (fun v H' => ∃ a, v = .ref a ∧ H' a = some (.tup [.int h, .int n, .int s9]) ∧ RdAt CR H' r tl toks (i + 1) x) := fun Q q => by
      obtain ⟨dx, h1, h2⟩ := id rd
      exact ⟨_, rfl, r, dx, _, rfl, h1, rd_no (by decide +kernel) (by decide +kernel) (by decide +kernel), r, tl, toks, i, x, h, n, s9, rfl, rd, ht, ok, fun a H' e rd' ha => q _ H' e ⟨a, rfl, ha, rd'⟩⟩
    refine q_asgM em (fun v H1 e1 ⟨a, hv, ha, rd1⟩ => ?_)
    subst hv
    refine q_unp3 (ev_var rfl) ha [some (.ref r), some (.ref a), some (.int h), some (.int n), some (.int s9)] rfl (fun H2 e2 => ?_)
    refine ev_req (σ := [some (.ref r), some (.ref a), some (.int h), some (.int n), some (.int s9)]) rfl (rd1.ex e2) (ev_andV (a := true) (b := true) (ev_is (ev_cx (z := .bl (decide (0 ≤ h) && decide (h < 6))) (ea_cons (ev_var rfl) (ea_cons ev_c ea_nil)) (fun H3 e3 Q3 q3 E3 => ⟨h, 6, rfl, q3⟩)) (by rw [decide_eq_true ok.h0, decide_eq_true ok.h6]; rfl))
      (fun _ => ev_andV (a := true) (b := true) (ev_is (ev_op (x := .int n) (y := .int 0) (ev_var rfl) ev_c rv_I0) (by show V.bl (decide (n ≥ 0)) = _; rw [decide_eq_true ok.n0])) (fun _ => ev_is (ev_cx (z := .bl (decide (1 ≤ s9) && decide (s9 ≤ 4))) (ea_cons (ev_var rfl) ea_nil) (fun H3 e3 Q3 q3 E3 => ⟨s9, rfl, q3⟩)) (by rw [decide_eq_true ok.s1, decide_eq_true ok.s4]; rfl)))) H2 (Ex.refl H2) _ (fun H3 e3 => ?_)
    exact ⟨_, rfl, q a H3 (e1.trans (.of (e2.trans e3))) (rd1.ex (e2.trans e3)) ((e2.trans e3) _ _ ha)⟩
theorem scTv : FnScope ["self"] ["self"] (defScope (inClass (topS 23) 6)) := ⟨rfl, rfl, rfl, by decide +kernel, rfl, by decide +kernel, by decide +kernel⟩
theorem ok_tv {f : Addr} {fd : FuncData} (F : Fun K "take_value" "MessageReader.take_value" (inClass (topS 23) 6) f fd) (T : RdT K mg CR) (M : TokM P w K mg base CR) (MC : MthX P w K mg base CR 4 "take_channel" ["self"] (spTch CR)) (GI : CalX P w K mg base CX0 1 "int_read" spIr) : FnOk P w K mg base CX0 5 f fd ["self"] (spTv CR) := by
  obtain ⟨fm, fdm, mm, okm, bm⟩ := M.more
  obtain ⟨fi, fdi, mi, oki, bi⟩ := M.int
  obtain ⟨fc, fdc, mc, okc, bc⟩ := MC
  refine F.ok (k := 4) scTv (fun vs H Q E h => ?_) (fun cdv A outer s H vs Q E hr h => ?_)
  · obtain ⟨r, tl, toks, i, x, d, rfl, _⟩ := h
    rfl
  · obtain ⟨r, tl, toks, i, x, d, rfl, rd, ht, ok, q⟩ := h
    refine ⟨_, pss_cons (ps_if (PW.pt (pw_and (pt_val (pe_meth0 (E := E0) (pv 0) T.cl mm okm (hr.mono (by decide)) bm .nil pass0)) (pw_and1 (pt_cmpR op_isN (pe_cx (E := fun _ => E0) GI hr (by decide) (by rfl) at0 (pa_cons (pe_ix ix_list (pe_fld (pv 0) rfl) (pe_fld (pv 0) rfl) (fun _ _ => rfl)) pa_nil)) pe_non (nomark _)))))
        (pss_one (ps_ret (pe_meth0 (E := E0) (pv 0) T.cl mc okc hr bc .nil pass0))) pss_nil)
      (pss_one (ps_ret (pe_meth0 (E := E0) (pv 0) T.cl mi oki (hr.mono (by decide)) bi .nil pass0))), ?_⟩
    obtain ⟨dx, h1, h2⟩ := id rd
    have hlt : i < toks.length := (List.getElem?_eq_some_iff.mp ht).1
    have wl := w_len ok
    have tok : ∀ {H1 : Hp}, Ex H H1 → Ev (tOp (rIxL K) (tFld K (tVar 0) "tokens") (tFld K (tVar 0) "taken")) [some (.ref r)] H1 (.str (wS d)) := fun {H1} e1 => ev_op (x := .ref tl) (y := .int (i : Int)) (ev_fld (ev_var rfl) (e1 _ _ h1) T.cl T.nT rd_tokens) (ev_fld (ev_var rfl) (e1 _ _ h1) T.cl T.nK rd_taken) (rv_ixL (sq_of (e1 _ _ h2)) (atI_nat (by rw [List.getElem?_map, ht]; rfl)))
    have tst : ∀ {b : Bool}, decide (irV (wS d) = V.non) = b → EvT (tAnd (tTest (tMeth CR "has_more" (spMore CR) [] E0 (tVar 0) tNil)) (tTest (tOp (fun x y H Q => y = .non ∧ Q (.bl (decide (x = .non))) H) (tCallS spIr (fun _ => E0) (tCons (tOp (rIxL K) (tFld K (tVar 0) "tokens") (tFld K (tVar 0) "taken")) tNil)) (tC .non)))) [some (.ref r)] H b := fun {b} hb =>
      et_and (a := true) (et_B (ev_is (ev_more (σ := [some (.ref r)]) rfl rd) (by rw [decide_eq_true hlt]))) (fun _ => et_is (et_test (ev_op (x := irV (wS d)) (y := .non) (fun H1 e1 Q1 q1 => tok (Ex.refl H) H1 e1 _ (fun H2 e2 => ⟨wS d, rfl, by omega, fun H3 e3 => q1 H3 (e2.trans e3)⟩)) ev_c rv_isNon)) hb)
    rcases ok with ⟨n, rfl, hn⟩ | ⟨h, n, s9, rfl, okc⟩
    · refine q_when (b := false) (tst (by rw [show irV (wS (.int n)) = .int n from ir_iS hn]; exact decide_eq_false (fun z => by cases z))) (fun z => nomatch z) (fun _ H1 e1 => ?_)
      exact s_retM (em_ti (σ := [some (.ref r)]) rfl (rd.ex e1) ht hn) (fun v H2 e2 ⟨hv, rd2⟩ => q v H2 ((ExA.of e1).trans e2) rd2 (by rw [hv]; exact da_int))
    · refine q_when (b := true) (tst (by rw [ch_ir]; exact decide_eq_true rfl)) (fun _ H1 e1 => ?_) (fun z => nomatch z)
      exact s_retM (em_tch (σ := [some (.ref r)]) rfl (rd.ex e1) ht okc) (fun v H2 e2 ⟨a, hv, ha, rd2⟩ => q v H2 ((ExA.of e1).trans e2) rd2 (by rw [hv]; exact ch_da ha))
end
end Fs

set_option Elab.async false
set_option linter.all false
set_option maxRecDepth 100000
set_option maxHeartbeats 6400000
/-! set(xs) of a list of whole numbers; sorted of it -/
namespace FsG
open PySem PySem.Spec PyProof.Rows L2
abbrev eSet (w : World) : Obj := { cls := .type "set", dict := none, data := .set #[] 0 (.fresh 0 0 (!w.params.followText "set-order")) }
section
variable {P : Program} {w : World} {A : Around} {E : Value → Shared → Prop} {s : Shared}
theorem made_of {l : Addr} {vs : Array Value} (ns : List Int) {Q : Value → Shared → Prop} (ha : A.handled = none) (lst : s.heap.IsList l vs) (whole : IntsAre vs.toList ns) (few : ns.length + 1 < scanBound)
    (k : ∀ (g : Heap) (t c : Nat), SetR w g s.heap.objs.size (fun j => decide (j ∈ ns)) c → c ≤ ns.length → (∀ b o, s.heap.get? b = some o → g.get? b = some o) → Q (.ref s.heap.objs.size) { s with heap := g, toks := t }) :
    wpAny (model P w) A (call (.type "set") [.ref l]) Q E s := by
  have many : vs.size = ns.length := (Array.length_toList (xs := vs)).symm.trans (IntsAre.length whole)
  -- the call of the class: __new__, then __init__
  obtain ⟨mc, mt, mm⟩ := F.called_set.mro
  have m1 := F.called_set.made; have m2 := F.called_set.sub; have m3 := F.called_set.notType; have m4 := F.called_set.canCreate; have m5 := F.typeCall_set_1 (.ref l)
  refine wpAny_call (codeAny_of_tree (show wpAny _ _ (callAny (.type "set") _) _ _ _ from wpAny_pure ⟨Code.quiet_builtin _ (by decide +kernel), codeAny_builtin F.entry_type_call ?_⟩))
  rw [Around.under_plain (weight_type_call_type "set" [.ref l] []) rfl]
  repeat (any_goals (first | wp_step | assumption))
  refine codeAny_mono (code_set_led1 (.ref l) (E := E) (Q₁ := fun v z => v = .ref s.heap.objs.size ∧ z = { s with heap := s.heap.push (eSet w) }) ⟨rfl, rfl⟩) fun r1 z1 h1 => ?_
  match r1, h1 with
  | .error _, h1 => exact h1
  | .ok .next, h1 => exact h1.elim
  | .ok .brk, h1 => exact h1.elim
  | .ok .cont, h1 => exact h1.elim
  | .ok (.ret _), h1 =>
    obtain ⟨rfl, rfl⟩ := h1
    have here : (s.heap.push (eSet w)).get? s.heap.objs.size = some (eSet w) := Heap.get?_push_size _ rfl
    have ty : Shared.TypeIs { s with heap := s.heap.push (eSet w) } (.ref s.heap.objs.size) "set" := ⟨_, here, rfl⟩
    have i1 := F.called_set.init.lookup; have i2 := F.called_set.init.bind (.ref s.heap.objs.size)
    repeat (any_goals (first | wp_step | assumption))
    refine codeAny_mono (codeAny_call_builtin (R := wants (fun u z => u = .none ∧ ∃ g t c, z = { s with heap := g, toks := t } ∧ SetR w g s.heap.objs.size (fun j => decide (j ∈ ns)) c ∧ c ≤ ns.length ∧ ∀ b o, s.heap.get? b = some o → g.get? b = some o) E)
      F.called_set.init.plain F.entry_set_init (check_set_init_1 ty ?_)) fun r2 z2 h2 => ?_
    · have lst1 : (s.heap.push (eSet w)).IsList l vs := lst.push _
      have low : l < s.heap.objs.size := by
        obtain ⟨o, e, _⟩ := lst
        exact Heap.lt_size e
      have d1 : (Value.type "list" == Value.type "dict") = false := by decide
      have d2 := F.sub_list_set; have d3 := F.sub_list_frozenset
      obtain ⟨⟨oc, od, oda, osl⟩, oe, e1, en, e2⟩ := id lst1
      simp only at e1 e2
      subst e1
      subst e2
      unfold Builtin.«set.__init__» Builtin.Frozenset.updateFrom noKeywords
      generalize g0 : pyIter = PX
      wp_walk
      subst g0
      have big : (s.heap.push (eSet w)).objs.size = s.heap.objs.size + 1 := Heap.size_push ..
      refine wpAny_pyIter_list lst1 (wpAny_bind (wpAny_runValue ?_))
      have lne : l ≠ (s.heap.push (eSet w)).objs.size := Nat.ne_of_lt (by rw [big]; exact Nat.lt_succ_of_lt low)
      refine set_update_ints ((Walks.list (show A.in1.in1.in1.handled = none by simp [ha]) _ l lne vs).toS) s.heap.objs.size (by
          simp only [List.mem_cons, List.not_mem_nil, or_false, not_or]
          exact ⟨Nat.ne_of_lt (by rw [big]; exact Nat.lt_succ_self _), (Nat.ne_of_lt low).symm⟩) ns many few (fun i v hv => ?_) (vs.size - 0) 0 _ rfl (Nat.zero_le _) ⟨⟨_, Heap.get?_push_size _ rfl, rfl, rfl⟩, lst1.push _⟩ ⟨0, Nat.le_refl 0, setR_new_at (Heap.get?_push_of_some _ here)⟩ (fun z c mv hc hR => ?_)
      · have hi : i < ns.length := by
          rw [← many]
          exact (Array.getElem?_eq_some_iff.mp hv).1
        obtain ⟨t, e⟩ := IntsAre.int_at whole i v (by rw [Array.getElem?_toList]; exact hv)
        exact ⟨ns[i], t, List.getElem?_eq_getElem hi, by rw [e, List.getD_eq_getElem?_getD, List.getElem?_eq_getElem hi]; rfl⟩
      · obtain ⟨zh, zg, zd, zt, zo⟩ := z
        have q1 : zg = s.gens := mv.gens
        have q2 : zd = s.drawn := mv.drawn
        have q3 : zo = s.os := mv.os
        subst q1 q2 q3
        refine wpAny_pure (wpAny_pure ⟨rfl, zh, zt, c, rfl, hR, by omega, fun b o e => ?_⟩)
        have lo := Heap.lt_size e
        refine mv.heap b o ?_ (Heap.get?_push_of_some _ (Heap.get?_push_of_some _ e))
        simp only [List.mem_cons, List.not_mem_nil, or_false, not_or]
        exact ⟨Nat.ne_of_lt lo, Nat.ne_of_lt (by rw [big]; exact Nat.lt_succ_of_lt lo)⟩
    · match r2, h2 with
      | .error _, h2 => exact h2
      | .ok .next, h2 => exact h2.elim
      | .ok .brk, h2 => exact h2.elim
      | .ok .cont, h2 => exact h2.elim
      | .ok (.ret _), h2 =>
        obtain ⟨rfl, g, t, c, rfl, a1, a2, a3⟩ := h2
        repeat (any_goals (first | wp_step | assumption))
        exact k g t c a1 a2 a3
end
theorem same_rise : ∀ {xs ys : List Int}, xs.Pairwise (· < ·) → ys.Pairwise (· < ·) → (∀ k, k ∈ xs ↔ k ∈ ys) → xs = ys
  | [], [], _, _, _ => rfl
  | [], y :: ys, _, _, h => absurd ((h y).mpr (List.mem_cons_self ..)) (by simp)
  | x :: xs, [], _, _, h => absurd ((h x).mp (List.mem_cons_self ..)) (by simp)
  | x :: xs, y :: ys, hx, hy, h => by
    obtain ⟨x1, x2⟩ := List.pairwise_cons.mp hx
    obtain ⟨y1, y2⟩ := List.pairwise_cons.mp hy
    have e : x = y := by
      rcases List.mem_cons.mp ((h x).mp (List.mem_cons_self ..)) with a | a
      · exact a
      · rcases List.mem_cons.mp ((h y).mpr (List.mem_cons_self ..)) with b | b
        · exact b.symm
        · have := x1 y b
          have := y1 x a
          omega
    subst e
    congr 1
    refine same_rise x2 y2 fun k => ⟨fun hk => ?_, fun hk => ?_⟩
    · rcases List.mem_cons.mp ((h k).mp (List.mem_cons_of_mem _ hk)) with a | a
      · have := x1 k hk
        omega
      · exact a
    · rcases List.mem_cons.mp ((h k).mpr (List.mem_cons_of_mem _ hk)) with a | a
      · have := y1 k hk
        omega
      · exact a
/-- set(xs) -/
def rSetI (K : PySem.W.Frag) (w : World) : List V → Hp → VK → Prop := fun xs H Q => ∃ (l : Addr) (ns : List Int), xs = [V.ref l] ∧ SqL K H l (ns.map V.int) ∧ ns.length ≤ 1000 ∧ ∀ p c, H p = none → c ≤ ns.length → Q (.ref p) (upd H p (SetO w p (fun j => decide (j ∈ ns)) c))
section
variable {X : Cx}
theorem cr_setI (hc : X.calm = true) : CallR X (.type "set") (rSetI X.K X.w) := by
  intro pins s σ H xs us Q I r h
  obtain ⟨l, ns, rfl, hq, hl, q⟩ := h
  rw [Vals.ref1 r]
  obtain ⟨its, rv, pl, hz⟩ := I.list hq
  have few : ns.length + 1 < scanBound := by
    unfold scanBound
    omega
  refine made_of ns (I.ok.hd hc) pl.isList (by simpa using RZ.intsAre_vals rv) few fun g t c R hcn k => ?_
  exact ⟨.ref _, _, I.laid (t' := t) k (Nat.le_refl _) (setO_new R), rfl, q _ c (I.hok.fresh (Nat.le_refl _)) hcn⟩
end
open Evl in
/-- what sorted(set(xs)) tells of a list that rises -/
theorem sorted_rise {w : World} {H : Hp} {ns : List Int} {Q : VK} {p : Addr} {c : Nat} (hp : H p = none) (few : ns.length < 64) (hcn : c ≤ ns.length) (rise : ns.Pairwise (· < ·)) (q : ∀ u H', H u = none → Ex H H' → H' u = some (.lst (ns.map V.int)) → Q (.ref u) H') :
    rSortedSet w [.ref p] (upd H p (SetO w p (fun j => decide (j ∈ ns)) c)) Q := ⟨p, _, c, rfl, upd_same, by omega, fun ms u h1 h2 h3 hu => by
  have e : ms = ns := same_rise h1 rise fun k => (h2 k).trans (by simp)
  subst e
  exact q u _ (by
    by_cases hup : u = p
    · rw [hup]
      exact hp
    · rw [upd_ne hup] at hu
      exact hu) ((Ex.new hp).trans (Ex.new hu)) upd_same⟩
end FsG

set_option Elab.async false
set_option linter.all false
set_option maxRecDepth 100000
set_option maxHeartbeats 4000000
/-! rows and parts read -/
namespace Fs
open PySem L2 Evl FsE FsC FsR FsP FsV
structure Rw where
  (p n s t : Int) (d : PyData)
structure Pt where
  (m u p : Int) (d : PyData)
def Rw.dat (h : Int) (r : Rw) : PyData := .tuple [.int r.p, chD h r.n r.s, .int r.t, r.d]
def Pt.dat (q : Pt) : PyData := .tuple [.int q.m, .int q.u, .int q.p, q.d]
def tokR (h : Int) (r : Rw) : List Str := [iS r.p, wS (chD h r.n r.s), iS r.t, wS r.d]
def tokP (q : Pt) : List Str := [iS q.m, iS q.u, iS q.p, wS q.d]
structure RwOk (h : Int) (r : Rw) : Prop where
  p0 : 0 ≤ r.p
  p6 : r.p < 6
  ch : ChOk h r.n r.s
  t0 : 0 ≤ r.t
  t1 : r.t < r.s
  w : WOk r.d
structure PtOk (q : Pt) : Prop where
  m0 : 0 ≤ q.m
  m6 : q.m < 6
  u0 : 0 ≤ q.u
  u1 : q.u < 10 ^ 30
  p0 : 0 ≤ q.p
  p6 : q.p < 6
  w : WOk q.d
theorem iok_6 {i : Int} (h0 : 0 ≤ i) (h1 : i < 6) : iOk i := ⟨by omega, by omega⟩
theorem iok_n {i : Int} (h0 : 0 ≤ i) (h1 : i < 10 ^ 30) : iOk i := ⟨by omega, h1⟩
def spTrow (CR : Addr) : Sp := fun vs H Q _ => ∃ (r tl : Addr) (toks : List Str) (i : Nat) (x : V) (h : Int) (rw' : Rw) (post : List Str), vs = [.ref r, .int h] ∧ RdAt CR H r tl toks i x ∧ toks.drop i = tokR h rw' ++ post ∧ RwOk h rw' ∧ ∀ a H', ExA r H H' → RdAt CR H' r tl toks (i + 4) x → DaAt H' (.ref a) (rw'.dat h) → Q (.ref a) H'
def spTpt (CR : Addr) : Sp := fun vs H Q _ => ∃ (r tl : Addr) (toks : List Str) (i : Nat) (x : V) (q : Pt) (post : List Str), vs = [.ref r] ∧ RdAt CR H r tl toks i x ∧ toks.drop i = tokP q ++ post ∧ PtOk q ∧ ∀ a H', ExA r H H' → RdAt CR H' r tl toks (i + 4) x → DaAt H' (.ref a) q.dat → Q (.ref a) H'
section
variable {σ : L2.St} {H : Hp} {CR r tl : Addr} {toks : List Str} {i : Nat} {x : V} {te : TE}
theorem em_tc0 {n : Int} (s0 : σ[0]? = some (some (.ref r))) (rd : RdAt CR H r tl toks i x) (ht : toks[i]? = some (iS n)) (hn : iOk n) (n0 : 0 ≤ n) : EvM (tMeth CR "take_count" (spTC CR) [.int 0] E0 (tVar 0) tNil) σ H r (fun v H' => v = .int n ∧ RdAt CR H' r tl toks (i + 1) x) := fun Q q => by
  obtain ⟨dx, h1, h2⟩ := id rd
  exact ⟨_, s0, r, dx, _, rfl, h1, rd_no (by decide +kernel) (by decide +kernel) (by decide +kernel), r, tl, toks, i, x, 0, n, rfl, rd, ht, hn, n0, fun H' e rd' => q _ H' e ⟨rfl, rd'⟩⟩
theorem em_tc1 {n : Int} (s0 : σ[0]? = some (some (.ref r))) (rd : RdAt CR H r tl toks i x) (ht : toks[i]? = some (iS n)) (hn : iOk n) (n0 : 1 ≤ n) : EvM (tMeth CR "take_count" (spTC CR) [] E0 (tVar 0) (tCons (tC (.int 1)) tNil)) σ H r (fun v H' => v = .int n ∧ RdAt CR H' r tl toks (i + 1) x) := fun Q q => by
  obtain ⟨dx, h1, h2⟩ := id rd
  exact ⟨_, s0, r, dx, _, rfl, h1, rd_no (by decide +kernel) (by decide +kernel) (by decide +kernel), r, tl, toks, i, x, 1, n, rfl, rd, ht, hn, n0, fun H' e rd' => q _ H' e ⟨rfl, rd'⟩⟩
theorem em_row {h : Int} {rw' : Rw} {post : List Str} (s0 : σ[0]? = some (some (.ref r))) (rd : RdAt CR H r tl toks i x) (hte : Ev te σ H (.int h)) (ht : toks.drop i = tokR h rw' ++ post) (ok : RwOk h rw') : EvM (tMeth CR "take_row" (spTrow CR) [] E0 (tVar 0) (tCons te tNil)) σ H r (fun v H' => DaAt H' v (rw'.dat h) ∧ RdAt CR H' r tl toks (i + 4) x) := fun Q q => by
  obtain ⟨dx, h1, h2⟩ := id rd
  exact ⟨_, s0, r, dx, _, rfl, h1, rd_no (by decide +kernel) (by decide +kernel) (by decide +kernel), hte H (Ex.refl H) _ fun H1 e1 => ⟨r, tl, toks, i, x, h, rw', post, rfl, rd.ex e1, ht, ok, fun a H' e rd' hd => q _ H' ((ExA.of e1).trans e) ⟨hd, rd'⟩⟩⟩
theorem em_pt {q' : Pt} {post : List Str} (s0 : σ[0]? = some (some (.ref r))) (rd : RdAt CR H r tl toks i x) (ht : toks.drop i = tokP q' ++ post) (ok : PtOk q') : EvM (tMeth CR "take_part" (spTpt CR) [] E0 (tVar 0) tNil) σ H r (fun v H' => DaAt H' v q'.dat ∧ RdAt CR H' r tl toks (i + 4) x) := fun Q q => by
  obtain ⟨dx, h1, h2⟩ := id rd
  exact ⟨_, s0, r, dx, _, rfl, h1, rd_no (by decide +kernel) (by decide +kernel) (by decide +kernel), r, tl, toks, i, x, q', post, rfl, rd, ht, ok, fun a H' e rd' hd => q _ H' e ⟨hd, rd'⟩⟩
end
structure BelM (P : Program) (w : World) (K : PySem.W.Frag) (mg : Str → Option Value) (base : Heap) (CR : Addr) : Prop where
  bel : MthX P w K mg base CR 4 "take_below" ["self", "limit"] (spTB CR)
  ch : MthX P w K mg base CR 4 "take_channel" ["self"] (spTch CR)
  val : MthX P w K mg base CR 5 "take_value" ["self"] (spTv CR)
section
variable {P : Program} {w : World} {K : PySem.W.Frag} {mg : Str → Option Value} {base : Heap} {CR CT : Addr} {k d : Nat}
theorem scTpt : FnScope ["self"] ["self"] (defScope (inClass (topS 23) 10)) := ⟨rfl, rfl, rfl, by decide +kernel, rfl, by decide +kernel, by decide +kernel⟩
theorem ok_tpt {f : Addr} {fd : FuncData} (F : Fun K "take_part" "MessageReader.take_part" (inClass (topS 23) 10) f fd) (T : RdT K mg CR) (C : MsT K mg) (M : TokM P w K mg base CR) (B : BelM P w K mg base CR) : FnOk P w K mg base CX0 6 f fd ["self"] (spTpt CR) := by
  obtain ⟨fb, fdb, mb, okb, bb⟩ := B.bel
  obtain ⟨fv, fdv, mv, okv, bv⟩ := B.val
  obtain ⟨fc, fdc, ds, mc, okc, vc, bc⟩ := M.cnt0
  refine F.ok (k := 5) scTpt (fun vs H Q E h => ?_) (fun cdv A outer s H vs Q E hr h => ?_)
  · obtain ⟨r, tl, toks, i, x, q', post, rfl, _⟩ := h
    rfl
  · obtain ⟨r, tl, toks, i, x, q', post, rfl, rd, ht, ok, q⟩ := h
    refine ⟨_, pss_one (ps_ret (pe_tup (pa_cons (pe_meth (E := E0) (pv 0) T.cl mb okb (hr.mono (by decide)) bb .nil pass0 (pa_cons (C8.pe_gc (by rfl) C.most) pa_nil)) (pa_cons (pe_meth0 (dvs := [.int 0]) (E := E0) (pv 0) T.cl mc okc (hr.mono (by decide)) bc vc pass0)
      (pa_cons (pe_meth (E := E0) (pv 0) T.cl mb okb (hr.mono (by decide)) bb .nil pass0 (pa_cons (C8.pe_gc (by rfl) C.offers) pa_nil)) (pa_cons (pe_meth0 (E := E0) (pv 0) T.cl mv okv hr bv .nil pass0) pa_nil)))))), ?_⟩
    obtain ⟨t0, d0⟩ := drop_at ht
    obtain ⟨t1, d1⟩ := drop_at d0
    obtain ⟨t2, d2⟩ := drop_at d1
    obtain ⟨t3, d3⟩ := drop_at d2
    refine em_tb (σ := [some (.ref r)]) rfl rd ev_c t0 (iok_6 ok.m0 ok.m6) ok.m0 ok.m6 _ (fun v H1 e1 ⟨hv, rd1⟩ => ?_)
    subst hv
    refine em_tc0 (σ := [some (.ref r)]) rfl rd1 t1 (iok_n ok.u0 ok.u1) ok.u0 _ (fun v H2 e2 ⟨hv, rd2⟩ => ?_)
    subst hv
    refine em_tb (σ := [some (.ref r)]) rfl rd2 ev_c t2 (iok_6 ok.p0 ok.p6) ok.p0 ok.p6 _ (fun v H3 e3 ⟨hv, rd3⟩ => ?_)
    subst hv
    refine em_tv (σ := [some (.ref r)]) rfl rd3 t3 ok.w _ (fun v H4 e4 ⟨hd, rd4⟩ => ?_)
    refine ⟨by show 4 ≤ sizeLine; decide, fun a ha => ?_⟩
    exact q a _ ((((e1.trans e2).trans e3).trans e4).trans (.of (Ex.new ha))) (rd4.ex (Ex.new ha)) (da_tup upd_same (DaL.cons da_int (DaL.cons da_int (DaL.cons da_int (DaL.cons (hd.ex (Ex.new ha)) DaL.nil)))))
theorem scTrow : FnScope ["self", "home", "place", "channel", "seat"] ["self", "home"] (defScope (inClass (topS 23) 8)) := ⟨rfl, rfl, rfl, by decide +kernel, rfl, by decide +kernel, by decide +kernel⟩
theorem ok_trow {f : Addr} {fd : FuncData} (F : Fun K "take_row" "MessageReader.take_row" (inClass (topS 23) 8) f fd) (T : RdT K mg CR) (C : MsT K mg) (M : TokM P w K mg base CR) (B : BelM P w K mg base CR) : FnOk P w K mg base CX0 6 f fd ["self", "home"] (spTrow CR) := by
  obtain ⟨fr, fdr, mr, okr, br⟩ := M.req
  obtain ⟨fb, fdb, mb, okb, bb⟩ := B.bel
  obtain ⟨fv, fdv, mv, okv, bv⟩ := B.val
  obtain ⟨fc, fdc, mc, okc, bc⟩ := B.ch
  refine F.ok (k := 5) scTrow (fun vs H Q E h => ?_) (fun cdv A outer s H vs Q E hr h => ?_)
  · obtain ⟨r, tl, toks, i, x, h, q', post, rfl, _⟩ := h
    rfl
  · obtain ⟨r, tl, toks, i, x, h, q', post, rfl, rd, ht, ok, q⟩ := h
    refine ⟨_, pss_cons (ps_set (i := 2) scTrow.nd rfl (Or.inl rfl) (pe_meth (E := E0) (pv 0) T.cl mb okb (hr.mono (by decide)) bb .nil pass0 (pa_cons (C8.pe_gc (by rfl) C.offers) pa_nil)))
      (pss_cons (ps_set (i := 3) scTrow.nd rfl (Or.inl rfl) (pe_meth0 (E := E0) (pv 0) T.cl mc okc (hr.mono (by decide)) bc .nil pass0))
      (pss_cons (ps_expr (pe_meth (E := E0) (pv 0) T.cl mr okr (hr.mono (by decide)) br .nil pass0 (pa_cons (pe_cmpR op_eq (pe_ix ix_tup (pv 3) pe_int (fun _ _ => rfl)) (pv 1) (nomark _)) pa_nil)))
      (pss_cons (ps_set (i := 4) scTrow.nd rfl (Or.inl rfl) (pe_meth (E := E0) (pv 0) T.cl mb okb (hr.mono (by decide)) bb .nil pass0 (pa_cons (pe_ix ix_tup (pv 3) pe_int (fun _ _ => rfl)) pa_nil)))
      (pss_one (ps_ret (pe_tup (pa_cons (pv 2) (pa_cons (pv 3) (pa_cons (pv 4) (pa_cons (pe_meth0 (E := E0) (pv 0) T.cl mv okv hr bv .nil pass0) pa_nil)))))))))), ?_⟩
    obtain ⟨t0, d0⟩ := drop_at ht
    obtain ⟨t1, d1⟩ := drop_at d0
    obtain ⟨t2, d2⟩ := drop_at d1
    obtain ⟨t3, d3⟩ := drop_at d2
    have s4 := ok.ch.s4
    have t1' := ok.t1
    refine q_asgM (em_tb (σ := [some (.ref r), some (.int h), none, none, none]) rfl rd ev_c t0 (iok_6 ok.p0 ok.p6) ok.p0 ok.p6) (fun v H1 e1 ⟨hv, rd1⟩ => ?_)
    subst hv
    refine q_asgM (em_tch (σ := [some (.ref r), some (.int h), some (.int q'.p), none, none]) rfl rd1 t1 ok.ch) (fun v H2 e2 ⟨a, hv, ha, rd2⟩ => ?_)
    subst hv
    refine ev_req (σ := [some (.ref r), some (.int h), some (.int q'.p), some (.ref a), none]) rfl rd2 (ev_is (ev_op (x := .int h) (y := .int h) (ev_op (ev_var rfl) ev_c (rv_ixT (K := K) (i := 0) (st_of ha) (atI_nat (j := 0) rfl))) (ev_var rfl) (rv_eq rfl)) (by rw [decide_eq_true rfl])) H2 (Ex.refl H2) _ (fun H3 e3 => ?_)
    refine q_asgM (em_tb (σ := [some (.ref r), some (.int h), some (.int q'.p), some (.ref a), none]) rfl (rd2.ex e3) (ev_op (ev_var rfl) ev_c (rv_ixT (K := K) (i := 2) (st_of (e3 _ _ ha)) (atI_nat (j := 2) rfl))) t2 (iok_6 ok.t0 (by omega)) ok.t0 ok.t1) (fun v H4 e4 ⟨hv, rd4⟩ => ?_)
    subst hv
    have hch : DaAt H3 (.ref a) (chD h q'.n q'.s) := ch_da (e3 _ _ ha)
    have hch4 := hch.keep ((rd2.ex e3).tk e4)
    refine ⟨_, rfl, _, rfl, _, rfl, em_tv (σ := [some (.ref r), some (.int h), some (.int q'.p), some (.ref a), some (.int q'.t)]) rfl rd4 t3 ok.w _ (fun v H5 e5 ⟨hd, rd5⟩ => ?_)⟩
    have hch5 := hch4.keep (rd4.tk e5)
    refine ⟨by show 4 ≤ sizeLine; decide, fun b hb => ?_⟩
    exact q b _ (((((e1.trans e2).trans (.of e3)).trans e4).trans e5).trans (.of (Ex.new hb))) (rd5.ex (Ex.new hb)) (da_tup upd_same (DaL.cons da_int (DaL.cons (hch5.ex (Ex.new hb)) (DaL.cons da_int (DaL.cons (hd.ex (Ex.new hb)) DaL.nil)))))
end
end Fs

set_option Elab.async false
set_option linter.all false
set_option maxRecDepth 100000
set_option maxHeartbeats 4000000
/-! the rows of offers, a meeting read -/
namespace Fs
open PySem L2 Evl FsE FsC FsR FsP FsV FsG
structure RowT (mg : Str → Option Value) : Prop where
  len : mg "len" = none
  set : mg "set" = none
  sorted : mg "sorted" = none
  range : mg "range" = none
  tuple : mg "tuple" = none
def toksR (h : Int) (rs : List Rw) : List Str := rs.flatMap (tokR h)
def toksP (ps : List Pt) : List Str := ps.flatMap tokP
structure RsOk (h : Int) (rs : List Rw) : Prop where
  ok : ∀ r ∈ rs, RwOk h r
  rise : (rs.map Rw.p).Pairwise (· < ·)
  len : rs.length ≤ 6
structure PsOk (to h n s : Int) (ps : List Pt) : Prop where
  ok : ∀ r ∈ ps, PtOk r
  ch : ChOk h n s
  mem : to ∈ ps.map Pt.m
  nd : (ps.map Pt.m).Nodup
  len : ps.length = s.toNat
def mtD (h n s : Int) (ps : List Pt) : PyData := .tuple [chD h n s, .tuple (ps.map Pt.dat)]
theorem toksR_len {h : Int} : ∀ (rs : List Rw), (toksR h rs).length = 4 * rs.length
  | [] => rfl
  | r :: rs => by
    show (tokR h r ++ toksR h rs).length = _
    rw [List.length_append, toksR_len rs, List.length_cons]
    show 4 + 4 * rs.length = _
    omega
theorem toksP_len : ∀ (rs : List Pt), (toksP rs).length = 4 * rs.length
  | [] => rfl
  | r :: rs => by
    show (tokP r ++ toksP rs).length = _
    rw [List.length_append, toksP_len rs, List.length_cons]
    show 4 + 4 * rs.length = _
    omega
theorem drop_R {h : Int} : ∀ {rs : List Rw} {j : Nat} {r : Rw} {post : List Str}, rs[j]? = some r → (toksR h rs ++ post).drop (4 * j) = tokR h r ++ (toksR h (rs.drop (j + 1)) ++ post)
  | r' :: rs, 0, r, post, e => by
    cases e
    show (tokR h r' ++ toksR h rs) ++ post = _
    rw [List.append_assoc]
    rfl
  | r' :: rs, j + 1, r, post, e => by
    have := drop_R (h := h) (rs := rs) (j := j) (post := post) e
    show ((tokR h r' ++ toksR h rs) ++ post).drop (4 * (j + 1)) = _
    rw [List.append_assoc, show 4 * (j + 1) = (tokR h r').length + 4 * j by show _ = 4 + 4 * j; omega, ← List.drop_drop, List.drop_left, this]
    rfl
theorem drop_P : ∀ {rs : List Pt} {j : Nat} {r : Pt} {post : List Str}, rs[j]? = some r → (toksP rs ++ post).drop (4 * j) = tokP r ++ (toksP (rs.drop (j + 1)) ++ post)
  | r' :: rs, 0, r, post, e => by
    cases e
    show (tokP r' ++ toksP rs) ++ post = _
    rw [List.append_assoc]
    rfl
  | r' :: rs, j + 1, r, post, e => by
    have := drop_P (rs := rs) (j := j) (post := post) e
    show ((tokP r' ++ toksP rs) ++ post).drop (4 * (j + 1)) = _
    rw [List.append_assoc, show 4 * (j + 1) = (tokP r').length + 4 * j by show _ = 4 + 4 * j; omega, ← List.drop_drop, List.drop_left, this]
    rfl
theorem drop_to {α : Type} {xs ys zs : List α} {i j : Nat} (h : xs.drop i = ys) (g : ys.drop j = zs) : xs.drop (i + j) = zs := by
  rw [← List.drop_drop, h, g]
section
variable {σ : L2.St} {H : Hp} {te : TE} {K : PySem.W.Frag}
/-- [e for a, b, c, d in (a list of tuples)] -/
theorem el_lcL4 {a : Addr} {xs ys : List V} {tl : TE} {i1 i2 i3 i4 : Nat} {vs : List Nat} (h : Ev tl σ H (.ref a)) (hx : SqL K H a xs) (hz : xs.length ≤ 40000) (hw : ∀ x1 x2 x3 x4, wipe (((((wipe σ vs).set i1 (some x1)).set i2 (some x2)).set i3 (some x3)).set i4 (some x4)) vs = wipe σ vs) (hl : ys.length = xs.length)
    (he : ∀ (i : Nat) (x y : V) H1, Ex H H1 → xs[i]? = some x → ys[i]? = some y → ∃ (q : Addr) (x1 x2 x3 x4 : V), x = .ref q ∧ H1 q = some (.tup [x1, x2, x3, x4]) ∧ Ev te (((((wipe σ vs).set i1 (some x1)).set i2 (some x2)).set i3 (some x3)).set i4 (some x4)) H1 y) :
    EvL (tLc (iList K tl) (gTup K 4 (gCons (gName i1) (gCons (gName i2) (gCons (gName i3) (gCons (gName i4) gNil))))) tYes te vs) σ H ys := fun H0 e Q q => h H0 e _ fun H1 e1 => ⟨a, rfl, ⟨xs, ex_l (e.trans e1) hx⟩, fun Dl hD =>
  lc_list (xs := xs) (Cw H1 (fun _ => true) (fun i => ys.getD i .non) Dl) ⟨hD, Ex.new hD, upd_same⟩ (fun i H' _ p => ex_l ((e.trans e1).trans p.2.1) hx) (fun i x H' hi p => by
    have hi1 := (List.getElem?_eq_some_iff.mp hi).1
    have hy : ys[i]? = some (ys.getD i .non) := by rw [List.getD_eq_getElem?_getD, List.getElem?_eq_getElem (by omega)]; rfl
    obtain ⟨r, x1, x2, x3, x4, rfl, hr, ht⟩ := he i x _ H1 (e.trans e1) hi hy
    exact ⟨r, _, rfl, st_of (p.2.1 _ _ hr), rfl, _, _, rfl, _, _, rfl, _, _, rfl, _, _, rfl, rfl, hw x1 x2 x3 x4, cw_turn (f := fun _ => true) (v := fun i => ys.getD i .non) p (by omega) et_nil (fun _ => ht)⟩)
    (fun H' p => by
      have e3 : given xs.length (fun _ => true) (fun i => ys.getD i .non) = ys := by rw [given_all, range_ys hl]
      have h3 : H' Dl = some (.lst (given xs.length (fun _ => true) (fun i => ys.getD i .non))) := p.2.2
      rw [e3] at h3
      exact q Dl H' (fresh_back e1 p.1) (e1.trans p.2.1) h3)⟩
/-- the tuple of a datum of four -/
theorem DaAt.tup4 {H : Hp} {v : V} {d1 d2 d3 d4 : PyData} (h : DaAt H v (.tuple [d1, d2, d3, d4])) : ∃ (a : Addr) (x1 x2 x3 x4 : V), v = .ref a ∧ H a = some (.tup [x1, x2, x3, x4]) ∧ DaAt H x1 d1 ∧ DaAt H x2 d2 ∧ DaAt H x3 d3 ∧ DaAt H x4 d4 := by
  obtain ⟨a, xs, rfl, ha, hx⟩ := h.tup
  unfold DaL at hx
  obtain ⟨x1, r1, rfl, g1, hx⟩ := hx
  unfold DaL at hx
  obtain ⟨x2, r2, rfl, g2, hx⟩ := hx
  unfold DaL at hx
  obtain ⟨x3, r3, rfl, g3, hx⟩ := hx
  unfold DaL at hx
  obtain ⟨x4, r4, rfl, g4, hx⟩ := hx
  unfold DaL at hx
  subst hx
  exact ⟨a, x1, x2, x3, x4, rfl, ha, g1, g2, g3, g4⟩
end
theorem dp_intsL {H : Hp} {K : PySem.W.Frag} {l : Addr} {ns : List Int} (h : SqL K H l (ns.map V.int)) : Dp K H (.ref l) (.list (ns.map PyData.int)) := by
  refine .lst h ?_
  have g : ∀ ms : List Int, DpAll K H (ms.map V.int) (ms.map PyData.int) := fun ms => by
    induction ms with
    | nil => exact .nil
    | cons m ms ih => exact .cons (.int m) ih
  exact g ns
theorem sh_ints (ns : List Int) : SeqAt.shaped (.list (ns.map PyData.int)) = true := by
  have g : ∀ ms : List Int, PyData.canLayAll0 (ms.map PyData.int) = true ∧ PyData.depthAll (ms.map PyData.int) = 0 := fun ms => by
    induction ms with
    | nil => exact ⟨by simp [PyData.canLayAll0], by simp [PyData.depthAll]⟩
    | cons m ms ih =>
      obtain ⟨h1, h2⟩ := ih
      exact ⟨by simp [PyData.canLayAll0, PyData.canLay0, h1], by simp [PyData.depthAll, PyData.depth, h2]⟩
  simp [SeqAt.shaped, PyData.canLay0, PyData.depth, (g ns).1, (g ns).2]
def spTrs (CR : Addr) : Sp := fun vs H Q _ => ∃ (r tl : Addr) (toks : List Str) (i : Nat) (x : V) (h : Int) (rs : List Rw), vs = [.ref r, .int h] ∧ RdAt CR H r tl toks i x ∧ i ≤ toks.length ∧ toks.drop i = toksR h rs ∧ RsOk h rs ∧ ∀ a H', ExA r H H' → RdAt CR H' r tl toks toks.length x → DaAt H' (.ref a) (.tuple (rs.map (Rw.dat h))) → Q (.ref a) H'
def spTmt (CR : Addr) : Sp := fun vs H Q _ => ∃ (r tl : Addr) (toks : List Str) (i : Nat) (x : V) (to h n s : Int) (ps : List Pt) (post : List Str), vs = [.ref r, .int to, .int h] ∧ RdAt CR H r tl toks i x ∧ toks.drop i = wS (chD h n s) :: (toksP ps ++ post) ∧ PsOk to h n s ps ∧ ∀ a H', ExA r H H' → RdAt CR H' r tl toks (i + 1 + 4 * ps.length) x → DaAt H' (.ref a) (mtD h n s ps) → Q (.ref a) H'
section
variable {P : Program} {w : World} {K : PySem.W.Frag} {mg : Str → Option Value} {base : Heap} {CR CT : Addr} {k d : Nat}
abbrev nsTrs : List Str := ["self", "home", "rows", "places", "place", "channel", "seat", "value"]
theorem scTrs : FnScope nsTrs ["self", "home"] (defScope (inClass (topS 23) 7)) := ⟨rfl, rfl, rfl, by decide +kernel, rfl, by decide +kernel, by decide +kernel⟩
theorem ok_trs {f : Addr} {fd : FuncData} (F : Fun K "take_rows" "MessageReader.take_rows" (inClass (topS 23) 7) f fd) (T : RdT K mg CR) (R : RowT mg) (M : TokM P w K mg base CR) (MR : MthX P w K mg base CR 6 "take_row" ["self", "home"] (spTrow CR)) : FnOk P w K mg base CX0 7 f fd ["self", "home"] (spTrs CR) := by
  obtain ⟨fr, fdr, mr, okr, br⟩ := M.req
  obtain ⟨fm, fdm, mm, okm, bm⟩ := M.more
  obtain ⟨fw, fdw, mw, okw, bw⟩ := MR
  refine F.ok (k := 6) scTrs (fun vs H Q E h => ?_) (fun cdv A outer s H vs Q E hr h => ?_)
  · obtain ⟨r, tl, toks, i, x, h, rs, rfl, _⟩ := h
    rfl
  · obtain ⟨r, tl, toks, i, x, h, rs, rfl, rd, hi, ht, ok, q⟩ := h
    refine ⟨_, pss_cons (ps_set (i := 2) scTrs.nd rfl (Or.inl rfl) (pe_lst pa_nil))
      (pss_cons (ps_while PassesOwn.never (pt_val (pe_meth0 (E := E0) (pv 0) T.cl mm okm (hr.mono (by decide)) bm .nil pass0))
        (pss_one (ps_expr (pe_bm PySem.F.plainAttrs_list PySem.F.slot_list_append PySem.F.type_list_append mt_append (pv 2) (pa_cons (pe_meth (E := E0) (pv 0) T.cl mw okw hr bw .nil pass0 (pa_cons (pv 1) pa_nil)) pa_nil)))))
      (pss_cons (ps_setLc (i := 3) (own := [("place", 4), ("channel", 5), ("seat", 6), ("value", 7)]) (g := gTup K 4 (gCons (gName 4) (gCons (gName 5) (gCons (gName 6) (gCons (gName 7) gNil))))) (tt := tYes) (te := tVar 4) rfl scTrs.nd rfl rfl (sw_true rfl rfl rfl (by decide +kernel)) (pi_list (pv 2)) (blkOk_by (own := [("place", 4), ("channel", 5), ("seat", 6), ("value", 7)]) (N := nsTrs) (sc := defScope (inClass (topS 23) 7)) (by decide +kernel))
        (fun _ _ _ _ _ => pg_tup rfl (pgs_cons (pg_name (i := 4) scTrs.nd rfl (.inl rfl)) (pgs_cons (pg_name (i := 5) scTrs.nd rfl (.inl rfl)) (pgs_cons (pg_name (i := 6) scTrs.nd rfl (.inl rfl)) (pgs_cons (pg_name (i := 7) scTrs.nd rfl (.inl rfl)) pgs_nil))))) (fun _ _ _ _ _ => pts_nil) (fun _ _ _ _ _ => pv 4))
      (pss_cons (ps_expr (pe_meth (E := E0) (pv 0) T.cl mr okr (hr.mono (by decide)) br .nil pass0 (pa_cons (pe_cmpR (op_eqD hr.units) (pv 3) (pe_callB (cr_sortedSet rfl) (by rfl) R.sorted (by decide +kernel) (pa_cons (pe_callTy (cr_setI rfl) (by rfl) R.set (by decide +kernel) (pa_cons (pv 3) pa_nil)) pa_nil)) (nomark _)) pa_nil)))
      (pss_one (ps_ret (pe_callTy call_tuple_of (by rfl) R.tuple (by decide +kernel) (pa_cons (pv 2) pa_nil))))))), ?_⟩
    have nn : rs.length ≤ 6 := ok.len
    have hlen : toks.length = i + 4 * rs.length := by
      have h1 : (toks.drop i).length = 4 * rs.length := by rw [ht, toksR_len]
      rw [List.length_drop] at h1
      omega
    obtain ⟨dx0, hr0, htl0⟩ := id rd
    refine q_asgL (xs := []) (el_lst ea_nil (by decide)) (fun l H1 hl e1 h1 => ?_)
    have nlr : l ≠ r := fun z => by rw [z, hr0] at hl; cases hl
    have nlt : l ≠ tl := fun z => by rw [z, htl0] at hl; cases hl
    refine q_while (fun m σ' H' => ∃ (j : Nat) (vs : List V), j ≤ rs.length ∧ m = rs.length - j ∧ σ' = [some (.ref r), some (.int h), some (.ref l), none, none, none, none, none] ∧ H' l = some (.lst vs) ∧ DaL H' vs ((rs.take j).map (Rw.dat h)) ∧ RdAt CR H' r tl toks (i + 4 * j) x ∧ ExA r H H') rs.length ⟨0, [], Nat.zero_le _, rfl, rfl, h1, by rw [List.take_zero]; exact DaL.nil, rd.ex e1, .of e1⟩ (fun m σ' H' ⟨j, vs, hj, hm, hσ, hl', hd, rd', he⟩ => ?_)
    subst hσ
    have vlen : vs.length = j := by rw [hd.length, List.length_map, List.length_take]; omega
    refine ⟨decide (i + 4 * j < toks.length), et_B (ev_more rfl rd'), fun hb H2 e2 => ?_, fun hb H2 e2 => ?_⟩
    · have hj1 : j < rs.length := by
        have := of_decide_eq_true hb
        omega
      obtain ⟨rw', hrw⟩ : ∃ z, rs[j]? = some z := ⟨_, List.getElem?_eq_getElem hj1⟩
      refine ⟨fun σ2 H3 => ∃ (j' : Nat) (vs : List V), j' ≤ rs.length ∧ rs.length - (j + 1) = rs.length - j' ∧ σ2 = [some (.ref r), some (.int h), some (.ref l), none, none, none, none, none] ∧ H3 l = some (.lst vs) ∧ DaL H3 vs ((rs.take j').map (Rw.dat h)) ∧ RdAt CR H3 r tl toks (i + 4 * j') x ∧ ExA r H H3, fun σ2 H3 hN => ⟨_, by omega, hN⟩, ?_⟩
      refine ⟨_, rfl, .inl ⟨rfl, _, sq_of (e2 _ _ hl')⟩, ?_⟩
      refine em_row (σ := [some (.ref r), some (.int h), some (.ref l), none, none, none, none, none]) (post := toksR h (rs.drop (j + 1)) ++ []) rfl (rd'.ex e2) (ev_var rfl) (drop_to ht (by rw [← List.append_nil (toksR h rs)]; exact drop_R hrw)) (ok.ok _ (List.mem_of_getElem? hrw)) _ (fun v H3 e3 ⟨hdv, rd3⟩ => ?_)
      have hl3 : H3 l = some (.lst vs) := (rd'.ex e2).lst e3 (e2 _ _ hl')
      have eA : ExA r H H3 := (he.trans (.of e2)).trans e3
      have tk : TK H3 (upd H3 l (.lst (vs ++ [v]))) := fun a xs ha => by
        have : a ≠ l := fun z => by rw [z, hl3] at ha; cases ha
        rw [upd_ne this]
        exact ha
      refine ⟨l, vs, v, rfl, rfl, hl3, sz_lt (by omega), j + 1, vs ++ [v], hj1, rfl, rfl, upd_same, ?_, ?_, ?_⟩
      · rw [List.take_add_one, hrw, List.map_append]
        exact DaL.snoc ((hd.ex e2).keep (((rd'.ex e2).tk e3).trans tk)) (hdv.keep tk)
      · rw [show i + 4 * (j + 1) = i + 4 * j + 4 by omega]
        exact rd3.upd nlr nlt
      · exact ExA.mut eA hl
    · have hjn : j = rs.length := by
        have := of_decide_eq_false hb
        omega
      subst hjn
      rw [List.take_length] at hd
      have hd2 := hd.ex e2
      have hl2 := e2 _ _ hl'
      have rd2 := rd'.ex e2
      refine q_asgL (xs := (rs.map Rw.p).map V.int) (el_lcL4 (K := K) (xs := vs) (ev_var rfl) (sq_of hl2) (by omega) (fun _ _ _ _ => rfl) (by rw [List.length_map, List.length_map, vlen]) (fun k' v y H3 e3 hv hy => ?_)) (fun pl H3 hpl e3 h3 => ?_)
      · obtain ⟨dd, hdd, hda⟩ := (hd2.ex e3).got hv
        rw [List.getElem?_map] at hdd
        rw [List.getElem?_map, List.getElem?_map] at hy
        cases hk : rs[k']? with
        | none => rw [hk] at hdd; cases hdd
        | some z =>
          rw [hk] at hdd hy
          cases hdd
          cases hy
          obtain ⟨a, x1, x2, x3, x4, rfl, ha, g1, _, _, _⟩ := DaAt.tup4 hda
          exact ⟨a, x1, x2, x3, x4, rfl, ha, ev_is (ev_var rfl) g1.int⟩
      · have hsh : SeqAt.shaped (.list ((rs.map Rw.p).map PyData.int)) = true := sh_ints _
        refine ev_req (σ := [some (.ref r), some (.int h), some (.ref l), some (.ref pl), none, none, none, none]) rfl (rd2.ex e3) (fun H4 e4 Q4 q4 => ⟨_, rfl, _, rfl, pl, rs.map Rw.p, rfl, sq_of (e4 _ _ h3), by rw [List.length_map]; omega, fun p c hp hc => sorted_rise (w := w) (Q := fun y H2 => rEqD K (.ref pl) y H2 Q4) hp (by rw [List.length_map]; omega) hc ok.rise (fun u H5 hu e5 h5 => ?_)⟩) H3 (Ex.refl H3) _ (fun H4 e4 => ?_)
        · have x4 := e3.trans e4
          refine ⟨_, rfl, l, vs, rfl, .inl ⟨sq_of (x4 _ _ hl2), fun a ha => ?_⟩⟩
          exact q a _ (((he.trans (.of e2)).trans (.of x4)).trans (.of (Ex.new ha))) (by rw [hlen]; exact (rd2.ex x4).ex (Ex.new ha)) (da_tup upd_same ((hd2.ex x4).ex (Ex.new ha)))
        · refine ⟨_, _, dp_intsL (sq_of ((e4.trans e5) _ _ h3)), dp_intsL (sq_of h5), hsh, hsh, ?_⟩
          rw [SeqAt.eqv_refl _ (SeqAt.canLay_of_shaped hsh)]
          exact q4 H5 e5
end
end Fs

set_option Elab.async false
set_option linter.all false
set_option maxRecDepth 100000
set_option maxHeartbeats 4000000
/-! a meeting read -/
namespace Fs
open PySem L2 Evl FsE FsC FsR FsP FsV FsG
section
variable {σ : L2.St} {H : Hp} {te : TE} {K : PySem.W.Frag}
/-- [e for a, b, c, d in (a tuple of tuples)] -/
theorem el_lcT4 {a : Addr} {xs ys : List V} {tl : TE} {i1 i2 i3 i4 : Nat} {vs : List Nat} (h : Ev tl σ H (.ref a)) (hx : SqT K H a xs) (hz : xs.length ≤ 40000) (hw : ∀ x1 x2 x3 x4, wipe (((((wipe σ vs).set i1 (some x1)).set i2 (some x2)).set i3 (some x3)).set i4 (some x4)) vs = wipe σ vs) (hl : ys.length = xs.length)
    (he : ∀ (i : Nat) (x y : V) H1, Ex H H1 → xs[i]? = some x → ys[i]? = some y → ∃ (q : Addr) (x1 x2 x3 x4 : V), x = .ref q ∧ H1 q = some (.tup [x1, x2, x3, x4]) ∧ Ev te (((((wipe σ vs).set i1 (some x1)).set i2 (some x2)).set i3 (some x3)).set i4 (some x4)) H1 y) :
    EvL (tLc (iTup K tl) (gTup K 4 (gCons (gName i1) (gCons (gName i2) (gCons (gName i3) (gCons (gName i4) gNil))))) tYes te vs) σ H ys := fun H0 e Q q => h H0 e _ fun H1 e1 => ⟨a, rfl, ⟨xs, ex_t (e.trans e1) hx⟩, fun Dl hD =>
  lc_tup (xs := xs) (Cw H1 (fun _ => true) (fun i => ys.getD i .non) Dl) ⟨hD, Ex.new hD, upd_same⟩ (fun i H' _ p => ex_t ((e.trans e1).trans p.2.1) hx) (fun i x H' hi p => by
    have hi1 := (List.getElem?_eq_some_iff.mp hi).1
    have hy : ys[i]? = some (ys.getD i .non) := by rw [List.getD_eq_getElem?_getD, List.getElem?_eq_getElem (by omega)]; rfl
    obtain ⟨r, x1, x2, x3, x4, rfl, hr, ht⟩ := he i x _ H1 (e.trans e1) hi hy
    exact ⟨r, _, rfl, st_of (p.2.1 _ _ hr), rfl, _, _, rfl, _, _, rfl, _, _, rfl, _, _, rfl, rfl, hw x1 x2 x3 x4, cw_turn (f := fun _ => true) (v := fun i => ys.getD i .non) p (by omega) et_nil (fun _ => ht)⟩)
    (fun H' p => by
      have e3 : given xs.length (fun _ => true) (fun i => ys.getD i .non) = ys := by rw [given_all, range_ys hl]
      have h3 : H' Dl = some (.lst (given xs.length (fun _ => true) (fun i => ys.getD i .non))) := p.2.2
      rw [e3] at h3
      exact q Dl H' (fresh_back e1 p.1) (e1.trans p.2.1) h3)⟩
end
theorem inV_int (m : Int) (ms : List Int) : inV (.int m) (ms.map V.int) = decide (m ∈ ms) := by
  unfold inV
  rw [Bool.eq_iff_iff]
  simp [eqV]
theorem flat_is (ns : List Int) : (ns.map V.int).all flatV = true := by
  rw [List.all_eq_true]
  intro v hv
  obtain ⟨i, _, rfl⟩ := List.mem_map.mp hv
  rfl
section
variable {P : Program} {w : World} {K : PySem.W.Frag} {mg : Str → Option Value} {base : Heap} {CR CT : Addr} {k d : Nat}
abbrev nsTmt : List Str := ["self", "to", "home", "channel", "parts", "seat", "machines", "machine", "turn", "place", "value"]
theorem scTmt : FnScope nsTmt ["self", "to", "home"] (defScope (inClass (topS 23) 9)) := ⟨rfl, rfl, rfl, by decide +kernel, rfl, by decide +kernel, by decide +kernel⟩
theorem ok_tmt {f : Addr} {fd : FuncData} (F : Fun K "take_meeting" "MessageReader.take_meeting" (inClass (topS 23) 9) f fd) (T : RdT K mg CR) (R : RowT mg) (M : TokM P w K mg base CR) (B : BelM P w K mg base CR) (MP : MthX P w K mg base CR 6 "take_part" ["self"] (spTpt CR)) : FnOk P w K mg base CX0 7 f fd ["self", "to", "home"] (spTmt CR) := by
  obtain ⟨fr, fdr, mr, okr, br⟩ := M.req
  obtain ⟨fc, fdc, mc, okc, bc⟩ := B.ch
  obtain ⟨fw, fdw, mw, okw, bw⟩ := MP
  refine F.ok (k := 6) scTmt (fun vs H Q E h => ?_) (fun cdv A outer s H vs Q E hr h => ?_)
  · obtain ⟨r, tl, toks, i, x, to, h, n, s9, ps, post, rfl, _⟩ := h
    rfl
  · obtain ⟨r, tl, toks, i, x, to, h, n, s9, ps, post, rfl, rd, ht, ok, q⟩ := h
    refine ⟨_, pss_cons (ps_set (i := 3) scTmt.nd rfl (Or.inl rfl) (pe_meth0 (E := E0) (pv 0) T.cl mc okc (hr.mono (by decide)) bc .nil pass0))
      (pss_cons (ps_expr (pe_meth (E := E0) (pv 0) T.cl mr okr (hr.mono (by decide)) br .nil pass0 (pa_cons (pe_cmpR op_eq (pe_ix ix_tup (pv 3) pe_int (fun _ _ => rfl)) (pv 2) (nomark _)) pa_nil)))
      (pss_cons (ps_set (i := 4) scTmt.nd rfl (Or.inl rfl) (pe_callTy call_tuple_of (by rfl) R.tuple (by decide +kernel) (pa_cons (pe_lc (own := [("seat", 5)]) (g := gName 5) (tt := tYes) rfl scTmt.nd (pi_range1 (by rfl) R.range (pa_cons (pe_ix ix_tup (pv 3) pe_int (fun _ _ => rfl)) pa_nil)) (blkOk_by (own := [("seat", 5)]) (N := nsTmt) (sc := defScope (inClass (topS 23) 9)) (by decide +kernel))
        (fun _ _ _ _ _ => pg_name (i := 5) scTmt.nd rfl (Or.inl rfl)) (fun _ _ _ _ _ => pts_nil) (fun _ _ _ _ _ => pe_meth0 (E := E0) (pv 0) T.cl mw okw hr bw .nil pass0)) pa_nil)))
      (pss_cons (ps_setLc (i := 6) (own := [("machine", 7), ("turn", 8), ("place", 9), ("value", 10)]) (g := gTup K 4 (gCons (gName 7) (gCons (gName 8) (gCons (gName 9) (gCons (gName 10) gNil))))) (tt := tYes) (te := tVar 7) rfl scTmt.nd rfl rfl (sw_true rfl rfl rfl (by decide +kernel)) (pi_tup (pv 4)) (blkOk_by (own := [("machine", 7), ("turn", 8), ("place", 9), ("value", 10)]) (N := nsTmt) (sc := defScope (inClass (topS 23) 9)) (by decide +kernel))
        (fun _ _ _ _ _ => pg_tup rfl (pgs_cons (pg_name (i := 7) scTmt.nd rfl (.inl rfl)) (pgs_cons (pg_name (i := 8) scTmt.nd rfl (.inl rfl)) (pgs_cons (pg_name (i := 9) scTmt.nd rfl (.inl rfl)) (pgs_cons (pg_name (i := 10) scTmt.nd rfl (.inl rfl)) pgs_nil))))) (fun _ _ _ _ _ => pts_nil) (fun _ _ _ _ _ => pv 7))
      (pss_cons (ps_expr (pe_meth (E := E0) (pv 0) T.cl mr okr (hr.mono (by decide)) br .nil pass0 (pa_cons (pe_and (pe_cmpR op_in_seq (pv 1) (pv 6) (by rfl)) (pe_one (pe_cmpR op_eq (RZ.pe_lenSetI (by rfl) R.len (by rfl) R.set (pv 6)) (pe_callB call_len_seq (by rfl) R.len PySem.boot_len (pa_cons (pv 6) pa_nil)) (nomark _)))) pa_nil)))
      (pss_one (ps_ret (pe_tup (pa_cons (pv 3) (pa_cons (pv 4) pa_nil))))))))), ?_⟩
    obtain ⟨t0, d0⟩ := drop_at ht
    have s4 := ok.ch.s4
    have s1 := ok.ch.s1
    have plen : ps.length ≤ 4 := by rw [ok.len]; omega
    refine q_asgM (em_tch (σ := [some (.ref r), some (.int to), some (.int h), none, none, none, none, none, none, none, none]) rfl rd t0 ok.ch) (fun v H1 e1 ⟨a, hv, ha, rd1⟩ => ?_)
    subst hv
    refine ev_req (σ := [some (.ref r), some (.int to), some (.int h), some (.ref a), none, none, none, none, none, none, none]) rfl rd1 (ev_is (ev_op (x := .int h) (y := .int h) (ev_op (ev_var rfl) ev_c (rv_ixT (K := K) (i := 0) (st_of ha) (atI_nat (j := 0) rfl))) (ev_var rfl) (rv_eq rfl)) (by rw [decide_eq_true rfl])) H1 (Ex.refl H1) _ (fun H2 e2 => ?_)
    have ha2 := e2 _ _ ha
    have rd2 := rd1.ex e2
    have hch2 : DaAt H2 (.ref a) (chD h n s9) := ch_da ha2
    obtain ⟨dx2, hr2, htl2⟩ := id rd2
    refine ⟨_, rfl, a, _, 2, .int s9, rfl, rfl, st_of ha2, atI_nat (j := 2) rfl, s9, rfl, by omega, by omega, fun Dl hD => lc_range (fun j H' => ∃ vs : List V, H' Dl = some (.lst vs) ∧ DaL H' vs ((ps.take j).map Pt.dat) ∧ RdAt CR H' r tl toks (i + 1 + 4 * j) x ∧ ExA r H2 H') ⟨[], upd_same, by rw [List.take_zero]; exact DaL.nil, rd2.ex (Ex.new hD), .of (Ex.new hD)⟩ (fun j H' hj ⟨vs, hl', hd, rd', he⟩ => ?_) (fun H' ⟨vs, hl', hd, rd', he⟩ => ?_)⟩
    · have nlr : Dl ≠ r := fun z => by rw [z, hr2] at hD; cases hD
      have nlt : Dl ≠ tl := fun z => by rw [z, htl2] at hD; cases hD
      have hj1 : j < ps.length := by rw [ok.len]; exact hj
      obtain ⟨q', hq⟩ : ∃ z, ps[j]? = some z := ⟨_, List.getElem?_eq_getElem hj1⟩
      have vlen : vs.length = j := by rw [hd.length, List.length_map, List.length_take]; omega
      refine ⟨rfl, em_pt (σ := [some (.ref r), some (.int to), some (.int h), some (.ref a), none, some (.int (0 + (j : Int))), none, none, none, none, none]) (post := toksP (ps.drop (j + 1)) ++ post) rfl rd' (drop_to d0 (drop_P hq)) (ok.ok _ (List.mem_of_getElem? hq)) _ (fun v H3 e3 ⟨hdv, rd3⟩ => ?_)⟩
      have hl3 : H3 Dl = some (.lst vs) := rd'.lst e3 hl'
      have tk : TK H3 (upd H3 Dl (.lst (vs ++ [v]))) := fun b xs hb => by
        have : b ≠ Dl := fun z => by rw [z, hl3] at hb; cases hb
        rw [upd_ne this]
        exact hb
      refine ⟨vs, hl3, sz_lt (by omega), vs ++ [v], upd_same, ?_, ?_, ?_⟩
      · rw [List.take_add_one, hq, List.map_append]
        exact DaL.snoc (hd.keep ((rd'.tk e3).trans tk)) (hdv.keep tk)
      · rw [show i + 1 + 4 * (j + 1) = i + 1 + 4 * j + 4 by omega]
        exact rd3.upd nlr nlt
      · exact ExA.mut (he.trans e3) hD
    · have et : ps.take s9.toNat = ps := by rw [← ok.len, List.take_length]
      have hd0 : DaL H' vs (ps.map Pt.dat) := by
        have z := hd
        rw [show ((s9 : Int).toNat) = s9.toNat from rfl, et] at z
        exact z
      have vlen : vs.length = ps.length := by rw [hd0.length, List.length_map]
      rw [show ((s9 : Int).toNat) = s9.toNat from rfl, ← ok.len] at rd'
      have hch := hch2.keep (rd2.tk he)
      refine ⟨_, _, rfl, .inl ⟨sq_of hl', fun p hp => ?_⟩⟩
      have hd3 := hd0.ex (Ex.new (o := .tup vs) hp)
      have rd3 := rd'.ex (Ex.new (o := .tup vs) hp)
      have hch3 := hch.ex (Ex.new (o := .tup vs) hp)
      refine q_asgL (xs := (ps.map Pt.m).map V.int) (el_lcT4 (K := K) (xs := vs) (ev_var rfl) (st_of upd_same) (by omega) (fun _ _ _ _ => rfl) (by rw [List.length_map, List.length_map, vlen]) (fun k' v y H3 e3 hv hy => ?_)) (fun ml H3 hml e3 h3 => ?_)
      · obtain ⟨dd, hdd, hda⟩ := (hd3.ex e3).got hv
        rw [List.getElem?_map] at hdd
        rw [List.getElem?_map, List.getElem?_map] at hy
        cases hk : ps[k']? with
        | none => rw [hk] at hdd; cases hdd
        | some z =>
          rw [hk] at hdd hy
          cases hdd
          cases hy
          obtain ⟨b, x1, x2, x3, x4, rfl, hb, g1, _, _, _⟩ := DaAt.tup4 hda
          exact ⟨b, x1, x2, x3, x4, rfl, hb, ev_is (ev_var rfl) g1.int⟩
      · refine ev_req (σ := [some (.ref r), some (.int to), some (.int h), some (.ref a), some (.ref p), none, some (.ref ml), none, none, none, none]) rfl (rd3.ex e3) (ev_andV (a := true) (b := true) (ev_is (ev_op (x := .int to) (y := .ref ml) (ev_var rfl) (ev_var rfl) (rv_isL (sq_of h3) rfl (flat_is _))) (by rw [inV_int, decide_eq_true ok.mem]))
          (fun _ => ev_is (ev_op (x := .int ((ps.map Pt.m).length : Int)) (y := .int (((ps.map Pt.m).map V.int).length : Int)) (fun H4 e4 Q4 q4 => ⟨_, rfl, ml, ps.map Pt.m, rfl, sq_of (e4 _ _ h3), ok.nd, by rw [List.length_map]; omega, q4 H4 (Ex.refl H4)⟩) (ev_cb (ea_cons (ev_var rfl) ea_nil) (fun H5 e5 Q5 q5 => ⟨ml, _, rfl, .inl (sq_of (e5 _ _ h3)), q5 H5 (Ex.refl H5)⟩)) (rv_eq rfl)) (by rw [List.length_map (f := V.int)]; rw [decide_eq_true rfl]))) H3 (Ex.refl H3) _ (fun H4 e4 => ?_)
        have x4 := e3.trans e4
        refine ⟨_, rfl, _, rfl, by show 2 ≤ sizeLine; decide, fun b hb => ?_⟩
        have eN := Ex.new (o := .tup [.ref a, .ref p]) hb
        exact q b _ (((((e1.trans (.of e2)).trans he).trans (.of (Ex.new hp))).trans (.of x4)).trans (.of eN)) ((rd3.ex x4).ex eN)
          (da_tup upd_same (DaL.cons ((hch3.ex x4).ex eN) (DaL.cons (da_tup (eN _ _ (x4 _ _ upd_same)) ((hd3.ex x4).ex eN)) DaL.nil)))
end
end Fs

set_option Elab.async false
set_option linter.all false
set_option maxRecDepth 100000
set_option maxHeartbeats 4000000
/-! a body, a message read -/
namespace Fs
open PySem L2 Evl FsE FsC FsR FsP FsV FsG
inductive Bd
  | heard (f : Int)
  | one (k : Str) (f : Int)
  | ask (f g : Int)
  | offers (f : Int) (rs : List Rw)
  | done (f n s : Int) (ps : List Pt)
def Bd.kind : Bd → Str
  | .heard _ => "heard"
  | .one k _ => k
  | .ask _ _ => "ask"
  | .offers _ _ => "offers"
  | .done _ _ _ _ => "done"
def Bd.dat (to from_ : Int) : Bd → PyData
  | .heard f => .tuple [.int f]
  | .one _ f => .tuple [.int f]
  | .ask f g => .tuple [.int f, .int g]
  | .offers f rs => .tuple [.int f, .tuple (rs.map (Rw.dat to))]
  | .done f n s ps => .tuple [.int f, mtD from_ n s ps]
def Bd.toks (to from_ : Int) : Bd → List Str
  | .heard f => [iS f]
  | .one _ f => [iS f]
  | .ask f g => [iS f, iS g]
  | .offers f rs => iS f :: toksR to rs
  | .done f n s ps => iS f :: wS (chD from_ n s) :: toksP ps
def BdOk (to from_ : Int) : Bd → Prop
  | .heard f => 0 ≤ f ∧ f < 10 ^ 30
  | .one k f => (k = "yes" ∨ k = "no" ∨ k = "free") ∧ 1 ≤ f ∧ f < 10 ^ 30
  | .ask f g => (1 ≤ f ∧ f < 10 ^ 30) ∧ 0 ≤ g ∧ g < 10 ^ 30
  | .offers f rs => (0 ≤ f ∧ f < 10 ^ 30) ∧ RsOk to rs
  | .done f n s ps => (1 ≤ f ∧ f < 10 ^ 30) ∧ PsOk to from_ n s ps
structure Msg where
  (to from_ : Int) (b : Bd)
def Msg.kind (m : Msg) : Str := m.b.kind
def Msg.body (m : Msg) : PyData := m.b.dat m.to m.from_
def Msg.dat (m : Msg) : PyData := .tuple [.str m.kind, .int m.to, .int m.from_, m.body]
def Msg.toks (m : Msg) : List Str := m.kind :: iS m.to :: iS m.from_ :: m.b.toks m.to m.from_
structure MsgOk (m : Msg) : Prop where
  t0 : 0 ≤ m.to
  t6 : m.to < 6
  f0 : 0 ≤ m.from_
  f6 : m.from_ < 6
  b : BdOk m.to m.from_ m.b
theorem kind_ok {to from_ : Int} : ∀ {b : Bd}, BdOk to from_ b → (inV (.str b.kind) party4 || inV (.str b.kind) home3) = true
  | .heard _, _ => by show (inV (.str "heard") party4 || inV (.str "heard") home3) = true; decide +kernel
  | .one k _, h => by
    obtain ⟨h, _⟩ := h
    rcases h with rfl | rfl | rfl
    · show (inV (.str "yes") party4 || inV (.str "yes") home3) = true; decide +kernel
    · show (inV (.str "no") party4 || inV (.str "no") home3) = true; decide +kernel
    · show (inV (.str "free") party4 || inV (.str "free") home3) = true; decide +kernel
  | .ask _ _, _ => by show (inV (.str "ask") party4 || inV (.str "ask") home3) = true; decide +kernel
  | .offers _ _, _ => by show (inV (.str "offers") party4 || inV (.str "offers") home3) = true; decide +kernel
  | .done _ _ _ _, _ => by show (inV (.str "done") party4 || inV (.str "done") home3) = true; decide +kernel
def spTbd (CR : Addr) : Sp := fun vs H Q _ => ∃ (r tl : Addr) (toks : List Str) (i : Nat) (x : V) (to from_ : Int) (b : Bd), vs = [.ref r, .str b.kind, .int to, .int from_] ∧ RdAt CR H r tl toks i x ∧ i ≤ toks.length ∧ toks.drop i = b.toks to from_ ∧ BdOk to from_ b ∧ ∀ a H', ExA r H H' → RdAt CR H' r tl toks toks.length x → DaAt H' (.ref a) (b.dat to from_) → Q (.ref a) H'
def spTms (CR : Addr) : Sp := fun vs H Q _ => ∃ (r tl : Addr) (x : V) (m : Msg), vs = [.ref r] ∧ RdAt CR H r tl m.toks 0 x ∧ MsgOk m ∧ ∀ a H', ExA r H H' → DaAt H' (.ref a) m.dat → Q (.ref a) H'
theorem drop_len {α : Type} {xs ys : List α} {i : Nat} (h : xs.drop i = ys) (hi : i ≤ xs.length) : xs.length = i + ys.length := by
  have : (xs.drop i).length = ys.length := by rw [h]
  rw [List.length_drop] at this
  omega
section
variable {P : Program} {w : World} {K : PySem.W.Frag} {mg : Str → Option Value} {base : Heap} {CR CT : Addr} {k d : Nat}
theorem et_kind {σ : L2.St} {H : Hp} {i : Nat} {z y : Str} {b : Bool} (s1 : σ[i]? = some (some (.str z))) (e : decide (V.str z = V.str y) = b) : EvT (tTest (tOp rEq (tVar i) (tC (.str y)))) σ H b := et_is (et_test (ev_op (x := .str z) (y := .str y) (ev_var s1) ev_c (rv_eq rfl))) e
theorem scTbd : FnScope ["self", "kind", "to", "sender", "attempt"] ["self", "kind", "to", "sender"] (defScope (inClass (topS 23) 3)) := ⟨rfl, rfl, rfl, by decide +kernel, rfl, by decide +kernel, by decide +kernel⟩
theorem ok_tbd {f : Addr} {fd : FuncData} (F : Fun K "take_body" "MessageReader.take_body" (inClass (topS 23) 3) f fd) (T : RdT K mg CR) (M : TokM P w K mg base CR) (MR : MthX P w K mg base CR 7 "take_rows" ["self", "home"] (spTrs CR)) (MM : MthX P w K mg base CR 7 "take_meeting" ["self", "to", "home"] (spTmt CR)) : FnOk P w K mg base CX0 8 f fd ["self", "kind", "to", "sender"] (spTbd CR) := by
  obtain ⟨fc, fdc, mc, okc, bc⟩ := M.cnt
  obtain ⟨fz, fdz, ds, mz, okz, vz, bz⟩ := M.cnt0
  obtain ⟨fr, fdr, mr, okr, br⟩ := MR
  obtain ⟨fm, fdm, mm, okm, bm⟩ := MM
  refine F.ok (k := 7) scTbd (fun vs H Q E h => ?_) (fun cdv A outer s H vs Q E hr h => ?_)
  · obtain ⟨r, tl, toks, i, x, to, from_, b, rfl, _⟩ := h
    rfl
  · obtain ⟨r, tl, toks, i, x, to, from_, b, rfl, rd, hi, ht, ok, q⟩ := h
    refine ⟨_, pss_cons (ps_if (pt_cmpR op_eq (pv 1) pe_str (nomark _)) (pss_one (ps_ret (pe_tup (pa_cons (pe_meth0 (dvs := [.int 0]) (E := E0) (pv 0) T.cl mz okz (hr.mono (by decide)) bz vz pass0) (pa_cons (pe_meth (E := E0) (pv 0) T.cl mr okr hr br .nil pass0 (pa_cons (pv 2) pa_nil)) pa_nil))))) pss_nil)
      (pss_cons (ps_if (pt_cmpR op_eq (pv 1) pe_str (nomark _)) (pss_one (ps_ret (pe_tup (pa_cons (pe_meth0 (dvs := [.int 0]) (E := E0) (pv 0) T.cl mz okz (hr.mono (by decide)) bz vz pass0) pa_nil)))) pss_nil)
      (pss_cons (ps_set (i := 4) scTbd.nd rfl (Or.inl rfl) (pe_meth (E := E0) (pv 0) T.cl mc okc (hr.mono (by decide)) bc .nil pass0 (pa_cons pe_int pa_nil)))
      (pss_cons (ps_if (pt_cmpR op_eq (pv 1) pe_str (nomark _)) (pss_one (ps_ret (pe_tup (pa_cons (pv 4) (pa_cons (pe_meth0 (dvs := [.int 0]) (E := E0) (pv 0) T.cl mz okz (hr.mono (by decide)) bz vz pass0) pa_nil))))) pss_nil)
      (pss_cons (ps_if (pt_cmpR op_eq (pv 1) pe_str (nomark _)) (pss_one (ps_ret (pe_tup (pa_cons (pv 4) (pa_cons (pe_meth (E := E0) (pv 0) T.cl mm okm hr bm .nil pass0 (pa_cons (pv 2) (pa_cons (pv 3) pa_nil))) pa_nil))))) pss_nil)
      (pss_one (ps_ret (pe_tup (pa_cons (pv 4) pa_nil)))))))), ?_⟩
    have hlen := drop_len ht hi
    cases b with
    | offers fst rs =>
      obtain ⟨⟨f0, f1⟩, rok⟩ := ok
      obtain ⟨t0, d0⟩ := drop_at ht
      have l1 : i + 1 ≤ toks.length := (List.getElem?_eq_some_iff.mp t0).1
      refine q_when (b := true) (et_kind (z := "offers") (i := 1) rfl (by decide +kernel)) (fun _ H0 e0 => ?_) (fun z => nomatch z)
      refine em_tc0 (σ := [some (.ref r), some (.str "offers"), some (.int to), some (.int from_), none]) rfl (rd.ex e0) t0 (iok_n f0 f1) f0 _ (fun v H1 e1 ⟨hv, rd1⟩ => ?_)
      subst hv
      obtain ⟨dx, h1, h2⟩ := id rd1
      refine ⟨_, rfl, r, dx, _, rfl, h1, rd_no (by decide +kernel) (by decide +kernel) (by decide +kernel), _, rfl, r, tl, toks, i + 1, x, to, rs, rfl, rd1, l1, d0, rok, fun a H2 e2 rd2 hd => ?_⟩
      refine ⟨by show 2 ≤ sizeLine; decide, fun c hc => ?_⟩
      have eN := Ex.new (o := .tup [.int fst, .ref a]) hc
      exact q c _ ((((ExA.of e0).trans e1).trans e2).trans (.of eN)) (rd2.ex eN) (da_tup upd_same (DaL.cons da_int (DaL.cons (hd.ex eN) DaL.nil)))
    | heard fst =>
      obtain ⟨f0, f1⟩ := ok
      obtain ⟨t0, d0⟩ := drop_at ht
      have l1 : toks.length = i + 1 := hlen
      refine q_when (b := false) (et_kind (z := "heard") (i := 1) rfl (by decide +kernel)) (fun z => nomatch z) (fun _ H0 e0 => ?_)
      refine q_when (b := true) (et_kind (z := "heard") (i := 1) rfl (by decide +kernel)) (fun _ H0' e0' => ?_) (fun z => nomatch z)
      have e00 := e0.trans e0'
      refine em_tc0 (σ := [some (.ref r), some (.str "heard"), some (.int to), some (.int from_), none]) rfl (rd.ex e00) t0 (iok_n f0 f1) f0 _ (fun v H1 e1 ⟨hv, rd1⟩ => ?_)
      subst hv
      refine ⟨by show 1 ≤ sizeLine; decide, fun c hc => ?_⟩
      have eN := Ex.new (o := .tup [.int fst]) hc
      exact q c _ (((ExA.of e00).trans e1).trans (.of eN)) (by rw [l1]; exact rd1.ex eN) (da_tup upd_same (DaL.cons da_int DaL.nil))
    | one kd fst =>
      obtain ⟨hk, f0, f1⟩ := ok
      obtain ⟨t0, d0⟩ := drop_at ht
      have l1 : toks.length = i + 1 := hlen
      have ne : decide (V.str kd = V.str "offers") = false ∧ decide (V.str kd = V.str "heard") = false ∧ decide (V.str kd = V.str "ask") = false ∧ decide (V.str kd = V.str "done") = false := by
        rcases hk with rfl | rfl | rfl <;> decide +kernel
      refine q_when (b := false) (et_kind (i := 1) rfl ne.1) (fun z => nomatch z) (fun _ H0 e0 => ?_)
      refine q_when (b := false) (et_kind (i := 1) rfl ne.2.1) (fun z => nomatch z) (fun _ H0' e0' => ?_)
      have e00 := e0.trans e0'
      refine q_asgM (em_tc1 (σ := [some (.ref r), some (.str kd), some (.int to), some (.int from_), none]) rfl (rd.ex e00) t0 (iok_n (by omega) f1) f0) (fun v H1 e1 ⟨hv, rd1⟩ => ?_)
      subst hv
      refine q_when (b := false) (et_kind (i := 1) rfl ne.2.2.1) (fun z => nomatch z) (fun _ H2 e2 => ?_)
      refine q_when (b := false) (et_kind (i := 1) rfl ne.2.2.2) (fun z => nomatch z) (fun _ H3 e3 => ?_)
      refine ⟨_, rfl, by show 1 ≤ sizeLine; decide, fun c hc => ?_⟩
      have eN := Ex.new (o := .tup [.int fst]) hc
      exact q c _ (((ExA.of e00).trans e1).trans (.of ((e2.trans e3).trans eN))) (by rw [l1]; exact (rd1.ex (e2.trans e3)).ex eN) (da_tup upd_same (DaL.cons da_int DaL.nil))
    | ask fst snd =>
      obtain ⟨⟨f0, f1⟩, g0, g1⟩ := ok
      obtain ⟨t0, d0⟩ := drop_at ht
      obtain ⟨t1, d1⟩ := drop_at d0
      have l1 : toks.length = i + 2 := hlen
      refine q_when (b := false) (et_kind (z := "ask") (i := 1) rfl (by decide +kernel)) (fun z => nomatch z) (fun _ H0 e0 => ?_)
      refine q_when (b := false) (et_kind (z := "ask") (i := 1) rfl (by decide +kernel)) (fun z => nomatch z) (fun _ H0' e0' => ?_)
      have e00 := e0.trans e0'
      refine q_asgM (em_tc1 (σ := [some (.ref r), some (.str "ask"), some (.int to), some (.int from_), none]) rfl (rd.ex e00) t0 (iok_n (by omega) f1) f0) (fun v H1 e1 ⟨hv, rd1⟩ => ?_)
      subst hv
      refine q_when (b := true) (et_kind (z := "ask") (i := 1) rfl (by decide +kernel)) (fun _ H2 e2 => ?_) (fun z => nomatch z)
      refine ⟨_, rfl, em_tc0 (σ := [some (.ref r), some (.str "ask"), some (.int to), some (.int from_), some (.int fst)]) rfl (rd1.ex e2) t1 (iok_n g0 g1) g0 _ (fun v H3 e3 ⟨hv, rd3⟩ => ?_)⟩
      subst hv
      refine ⟨by show 2 ≤ sizeLine; decide, fun c hc => ?_⟩
      have eN := Ex.new (o := .tup [.int fst, .int snd]) hc
      exact q c _ (((((ExA.of e00).trans e1).trans (.of e2)).trans e3).trans (.of eN)) (by rw [l1]; exact rd3.ex eN) (da_tup upd_same (DaL.cons da_int (DaL.cons da_int DaL.nil)))
    | done fst n s9 ps =>
      obtain ⟨⟨f0, f1⟩, pok⟩ := ok
      obtain ⟨t0, d0⟩ := drop_at ht
      have l1 : toks.length = i + 1 + 1 + 4 * ps.length := by
        rw [hlen]
        show i + ((toksP ps).length + 1 + 1) = _
        rw [toksP_len]
        omega
      refine q_when (b := false) (et_kind (z := "done") (i := 1) rfl (by decide +kernel)) (fun z => nomatch z) (fun _ H0 e0 => ?_)
      refine q_when (b := false) (et_kind (z := "done") (i := 1) rfl (by decide +kernel)) (fun z => nomatch z) (fun _ H0' e0' => ?_)
      have e00 := e0.trans e0'
      refine q_asgM (em_tc1 (σ := [some (.ref r), some (.str "done"), some (.int to), some (.int from_), none]) rfl (rd.ex e00) t0 (iok_n (by omega) f1) f0) (fun v H1 e1 ⟨hv, rd1⟩ => ?_)
      subst hv
      refine q_when (b := false) (et_kind (z := "done") (i := 1) rfl (by decide +kernel)) (fun z => nomatch z) (fun _ H2 e2 => ?_)
      refine q_when (b := true) (et_kind (z := "done") (i := 1) rfl (by decide +kernel)) (fun _ H3 e3 => ?_) (fun z => nomatch z)
      have rd3 := rd1.ex (e2.trans e3)
      obtain ⟨dx, h1, h2⟩ := id rd3
      refine ⟨_, rfl, _, rfl, r, dx, _, rfl, h1, rd_no (by decide +kernel) (by decide +kernel) (by decide +kernel), _, rfl, _, rfl, r, tl, toks, i + 1, x, to, from_, n, s9, ps, [], rfl, rd3, by rw [List.append_nil]; exact d0, pok, fun a H4 e4 rd4 hd => ?_⟩
      refine ⟨by show 2 ≤ sizeLine; decide, fun c hc => ?_⟩
      have eN := Ex.new (o := .tup [.int fst, .ref a]) hc
      exact q c _ (((((ExA.of e00).trans e1).trans (.of (e2.trans e3))).trans e4).trans (.of eN)) (by rw [l1]; exact rd4.ex eN) (da_tup upd_same (DaL.cons da_int (DaL.cons (hd.ex eN) DaL.nil)))
theorem scTms : FnScope ["self", "kind", "to", "sender", "body"] ["self"] (defScope (inClass (topS 23) 2)) := ⟨rfl, rfl, rfl, by decide +kernel, rfl, by decide +kernel, by decide +kernel⟩
theorem ok_tms {f : Addr} {fd : FuncData} (F : Fun K "take_message" "MessageReader.take_message" (inClass (topS 23) 2) f fd) (T : RdT K mg CR) (C : MsT K mg) (M : TokM P w K mg base CR) (B : BelM P w K mg base CR) (MB : MthX P w K mg base CR 8 "take_body" ["self", "kind", "to", "sender"] (spTbd CR)) : FnOk P w K mg base CX0 9 f fd ["self"] (spTms CR) := by
  obtain ⟨fr, fdr, mr, okr, br⟩ := M.req
  obtain ⟨ft, fdt, mt, okt, bt⟩ := M.tok
  obtain ⟨ff, fdf, mf, okf, bf⟩ := M.fin
  obtain ⟨fl, fdl, ml, okl, bl⟩ := B.bel
  obtain ⟨fb, fdb, mb, okb, bb⟩ := MB
  obtain ⟨aP, gP, hP⟩ := C.party
  obtain ⟨aH, gH, hH⟩ := C.home
  refine F.ok (k := 8) scTms (fun vs H Q E h => ?_) (fun cdv A outer s H vs Q E hr h => ?_)
  · obtain ⟨r, tl, x, m, rfl, _⟩ := h
    rfl
  · obtain ⟨r, tl, x, m, rfl, rd, ok, q⟩ := h
    refine ⟨_, pss_cons (ps_set (i := 1) scTms.nd rfl (Or.inl rfl) (pe_meth0 (E := E0) (pv 0) T.cl mt okt (hr.mono (by decide)) bt .nil pass0))
      (pss_cons (ps_expr (pe_meth (E := E0) (pv 0) T.cl mr okr (hr.mono (by decide)) br .nil pass0 (pa_cons (pe_or (pe_cmpR op_in_seq (pv 1) (pe_glob (v := .ref aP) (by rfl) gP rfl) (by rfl)) (pe_one (pe_cmpR op_in_seq (pv 1) (pe_glob (v := .ref aH) (by rfl) gH rfl) (by rfl)))) pa_nil)))
      (pss_cons (ps_set (i := 2) scTms.nd rfl (Or.inl rfl) (pe_meth (E := E0) (pv 0) T.cl ml okl (hr.mono (by decide)) bl .nil pass0 (pa_cons (C8.pe_gc (by rfl) C.most) pa_nil)))
      (pss_cons (ps_set (i := 3) scTms.nd rfl (Or.inl rfl) (pe_meth (E := E0) (pv 0) T.cl ml okl (hr.mono (by decide)) bl .nil pass0 (pa_cons (C8.pe_gc (by rfl) C.most) pa_nil)))
      (pss_cons (ps_set (i := 4) scTms.nd rfl (Or.inl rfl) (pe_meth (E := E0) (pv 0) T.cl mb okb hr bb .nil pass0 (pa_cons (pv 1) (pa_cons (pv 2) (pa_cons (pv 3) pa_nil)))))
      (pss_cons (ps_expr (pe_meth0 (E := E0) (pv 0) T.cl mf okf (hr.mono (by decide)) bf .nil pass0))
      (pss_one (ps_ret (pe_tup (pa_cons (pv 1) (pa_cons (pv 2) (pa_cons (pv 3) (pa_cons (pv 4) pa_nil)))))))))))), ?_⟩
    have ht : m.toks.drop 0 = m.kind :: iS m.to :: iS m.from_ :: m.b.toks m.to m.from_ := rfl
    obtain ⟨t0, d0⟩ := drop_at ht
    obtain ⟨t1, d1⟩ := drop_at d0
    obtain ⟨t2, d2⟩ := drop_at d1
    refine q_asgM (em_word (σ := [some (.ref r), none, none, none, none]) rfl rd t0) (fun v H1 e1 ⟨hv, rd1⟩ => ?_)
    subst hv
    refine ev_req (σ := [some (.ref r), some (.str m.kind), none, none, none]) rfl rd1 (ev_is (ev_orV (ev_op (x := .str m.kind) (y := .ref aP) (ev_var rfl) ev_c (rv_isT (hP _) rfl (by decide +kernel))) (fun _ => ev_op (x := .str m.kind) (y := .ref aH) (ev_var rfl) ev_c (rv_isT (hH _) rfl (by decide +kernel)))) (by rw [show m.kind = m.b.kind from rfl, kind_ok ok.b])) H1 (Ex.refl H1) _ (fun H2 e2 => ?_)
    refine q_asgM (em_tb (σ := [some (.ref r), some (.str m.kind), none, none, none]) rfl (rd1.ex e2) ev_c t1 (iok_6 ok.t0 ok.t6) ok.t0 ok.t6) (fun v H3 e3 ⟨hv, rd3⟩ => ?_)
    subst hv
    refine q_asgM (em_tb (σ := [some (.ref r), some (.str m.kind), some (.int m.to), none, none]) rfl rd3 ev_c t2 (iok_6 ok.f0 ok.f6) ok.f0 ok.f6) (fun v H4 e4 ⟨hv, rd4⟩ => ?_)
    subst hv
    obtain ⟨dx, h1, h2⟩ := id rd4
    refine ⟨_, rfl, r, dx, _, rfl, h1, rd_no (by decide +kernel) (by decide +kernel) (by decide +kernel), _, rfl, _, rfl, _, rfl, r, tl, m.toks, 3, x, m.to, m.from_, m.b, rfl, rd4, by show 3 ≤ (m.b.toks m.to m.from_).length + 1 + 1 + 1; omega, d2, ok.b, fun a H5 e5 rd5 hd => ?_⟩
    obtain ⟨dx5, h15, h25⟩ := id rd5
    refine ⟨_, rfl, r, dx5, _, rfl, h15, rd_no (by decide +kernel) (by decide +kernel) (by decide +kernel), r, tl, m.toks, _, x, rfl, rd5, rfl, fun H6 e6 => ?_⟩
    refine ⟨_, rfl, _, rfl, _, rfl, _, rfl, by show 4 ≤ sizeLine; decide, fun c hc => ?_⟩
    have eN := Ex.new (o := .tup [.str m.kind, .int m.to, .int m.from_, .ref a]) hc
    exact q c _ ((((((e1.trans (.of e2)).trans e3).trans e4).trans e5).trans (.of e6)).trans (.of eN)) (da_tup upd_same (DaL.cons da_str (DaL.cons da_int (DaL.cons da_int (DaL.cons ((hd.ex e6).ex eN) DaL.nil)))))
end
end Fs

set_option Elab.async false
set_option linter.all false
set_option maxRecDepth 100000
set_option maxHeartbeats 4000000
/-! a body's tokens -/
namespace Fs
open PySem L2 Evl FsE FsC FsR FsP FsV FsG
/-- a walk over a tuple, whatever its turns say -/
theorem walk_tup {K : PySem.W.Frag} {a : Addr} {xs : List V} {H0 : Hp} {G : V → Hp → (Hp → Prop) → Prop} {Qd : Hp → Prop} (Pv : Nat → Hp → Prop) (h0 : Pv 0 H0) (hl : ∀ i H, i ≤ xs.length → Pv i H → SqT K H a xs)
    (hs : ∀ i x H, xs[i]? = some x → Pv i H → G x H (Pv (i + 1))) (hd : ∀ H, Pv xs.length H → Qd H) :
    ∃ W : Nat → Nat → Hp → Prop, (∃ m, W 0 m H0) ∧ ∀ i m H, W i m H → ((Itt K a).stop i H ∧ Qd H) ∨ ((Itt K a).go i H ∧ ∃ Nx : Hp → Prop, (∀ H', Nx H' → ∃ m', m' < m ∧ W (i + 1) m' H') ∧ ∀ x H', (Itt K a).yld i H x H' → G x H' Nx) := by
  refine ⟨fun i m H => m = xs.length - i ∧ i ≤ xs.length ∧ Pv i H, ⟨xs.length, by simp, Nat.zero_le _, h0⟩, ?_⟩
  rintro i m H ⟨rfl, hi, p⟩
  have q := hl i H hi p
  by_cases hlt : i < xs.length
  · refine .inr ⟨⟨xs, xs[i], q, by simp [hlt]⟩, Pv (i + 1), fun H' p' => ⟨xs.length - (i + 1), by omega, rfl, hlt, p'⟩, fun x H' y => ?_⟩
    obtain ⟨e, y⟩ := y
    subst e
    exact hs i x _ (y xs q) p
  · have e : i = xs.length := by omega
    subst e
    exact .inl ⟨⟨xs, q, Nat.le_refl _⟩, hd H p⟩
def spVts : Sp := fun vs H Q _ => ∃ (v : V) (rows : List (List PyData)), vs = [v] ∧ DaAt H v (.tuple (rows.map .tuple)) ∧ (∀ ds ∈ rows, ∀ d ∈ ds, WOk d) ∧ rows.flatten.length ≤ 1000 ∧ RetL (rows.flatten.map fun d => V.str (wS d)) H Q
def spBt : Sp := fun vs H Q _ => ∃ (v : V) (to from_ : Int) (b : Bd), vs = [.str b.kind, v] ∧ DaAt H v (b.dat to from_) ∧ BdOk to from_ b ∧ RetL ((b.toks to from_).map V.str) H Q
def Rw.four (h : Int) (r : Rw) : List PyData := [.int r.p, chD h r.n r.s, .int r.t, r.d]
def Pt.four (q : Pt) : List PyData := [.int q.m, .int q.u, .int q.p, q.d]
theorem RwOk.four {h : Int} {r : Rw} (ok : RwOk h r) : ∀ d ∈ r.four h, WOk d := fun d hd => by
  have t1 := ok.t1
  have s4 := ok.ch.s4
  have : d = .int r.p ∨ d = chD h r.n r.s ∨ d = .int r.t ∨ d = r.d := by simpa [Rw.four] using hd
  rcases this with rfl | rfl | rfl | rfl
  · exact .inl ⟨_, rfl, iok_6 ok.p0 ok.p6⟩
  · exact .inr ⟨_, _, _, rfl, ok.ch⟩
  · exact .inl ⟨_, rfl, iok_6 ok.t0 (by omega)⟩
  · exact ok.w
theorem PtOk.four {r : Pt} (ok : PtOk r) : ∀ d ∈ r.four, WOk d := fun d hd => by
  have : d = .int r.m ∨ d = .int r.u ∨ d = .int r.p ∨ d = r.d := by simpa [Pt.four] using hd
  rcases this with rfl | rfl | rfl | rfl
  · exact .inl ⟨_, rfl, iok_6 ok.m0 ok.m6⟩
  · exact .inl ⟨_, rfl, iok_n ok.u0 ok.u1⟩
  · exact .inl ⟨_, rfl, iok_6 ok.p0 ok.p6⟩
  · exact ok.w
theorem toksR_four (h : Int) : ∀ rs : List Rw, (toksR h rs).map V.str = (rs.map (Rw.four h)).flatten.map fun d => V.str (wS d)
  | [] => rfl
  | r :: rs => by
    show (tokR h r ++ toksR h rs).map V.str = (r.four h ++ (rs.map (Rw.four h)).flatten).map _
    rw [List.map_append, List.map_append, toksR_four h rs]
    rfl
theorem toksP_four : ∀ rs : List Pt, (toksP rs).map V.str = (rs.map Pt.four).flatten.map fun d => V.str (wS d)
  | [] => rfl
  | r :: rs => by
    show (tokP r ++ toksP rs).map V.str = (r.four ++ (rs.map Pt.four).flatten).map _
    rw [List.map_append, List.map_append, toksP_four rs]
    rfl
theorem four_len {α : Type} {f : α → List PyData} (hf : ∀ r, (f r).length = 4) : ∀ rs : List α, ((rs.map f).flatten).length = 4 * rs.length
  | [] => rfl
  | r :: rs => by
    rw [List.map_cons, List.flatten_cons, List.length_append, hf, four_len hf rs, List.length_cons]
    omega
theorem map_dat {α : Type} {f : α → List PyData} {g : α → PyData} (e : ∀ r, g r = .tuple (f r)) (rs : List α) : rs.map g = (rs.map f).map .tuple := by
  rw [List.map_map]
  exact List.map_congr_left fun r _ => e r
/-- the tuple of a datum of two -/
theorem DaAt.tup2 {H : Hp} {v : V} {d1 d2 : PyData} (h : DaAt H v (.tuple [d1, d2])) : ∃ (a : Addr) (x1 x2 : V), v = .ref a ∧ H a = some (.tup [x1, x2]) ∧ DaAt H x1 d1 ∧ DaAt H x2 d2 := by
  obtain ⟨a, xs, rfl, ha, hx⟩ := h.tup
  unfold DaL at hx
  obtain ⟨x1, r1, rfl, g1, hx⟩ := hx
  unfold DaL at hx
  obtain ⟨x2, r2, rfl, g2, hx⟩ := hx
  unfold DaL at hx
  subst hx
  exact ⟨a, x1, x2, rfl, ha, g1, g2⟩
section
variable {P : Program} {w : World} {K : PySem.W.Frag} {mg : Str → Option Value} {base : Heap} {CR CT : Addr} {k d : Nat}
theorem q_unp2 {σ : L2.St} {H : Hp} {K : PySem.W.Frag} {ta : TE} {a : Addr} {x1 x2 : V} {i1 i2 : Nat} {tz : TS} {D : Ends} (h : Ev ta σ H (.ref a)) (hx : H a = some (.tup [x1, x2])) (σ' : L2.St)
    (hσ : (σ.set i1 (some x1)).set i2 (some x2) = σ') (k : ∀ H1, Ex H H1 → tz D σ' H1) : tSeq (tAsg ta (gTup K 2 (gCons (gName i1) (gCons (gName i2) gNil)))) tz D σ H := by
  subst hσ
  exact h H (Ex.refl H) _ fun H1 e1 => ⟨a, _, rfl, st_of (e1 _ _ hx), rfl, _, _, rfl, _, _, rfl, rfl, k H1 e1⟩
theorem el_nums {K : PySem.W.Frag} {H : Hp} {z : Str} {v : V} {ns : List Int} (hd : DaAt H v (.tuple (ns.map PyData.int))) (hn : ∀ n ∈ ns, iOk n) (nl : ns.length ≤ 1000) : EvL (tLc (iTup K (tVar 1)) (gName 7) tYes (tCallS (spIt True) (fun _ => E0) (tCons (tVar 7) tNil)) [7]) [some (.str z), some v, none, none, none, none, none, none] H ((ns.map iS).map V.str) := by
  obtain ⟨a, xs, rfl, ha, hx⟩ := hd.tup
  have xl : xs.length = ns.length := by rw [hx.length, List.length_map]
  refine el_lcTy (K := K) (xs := xs) (ev_var rfl) (st_of ha) (by omega) (fun _ => rfl) (by rw [List.length_map, List.length_map, xl]) (fun i x y H1 e1 hi hy => ?_)
  obtain ⟨d, hd, hda⟩ := hx.got hi
  rw [List.getElem?_map] at hd
  rw [List.getElem?_map, List.getElem?_map] at hy
  cases hq : ns[i]? with
  | none => rw [hq] at hd; cases hd
  | some n =>
    rw [hq] at hd hy
    cases hd
    cases hy
    have := hda.int
    subst this
    exact ev_cx (ea_cons (ev_var rfl) ea_nil) (fun H2 e2 Q2 q2 E2 => ⟨n, rfl, hn n (List.mem_of_getElem? hq), fun _ => trivial, q2⟩)
theorem scVts : FnScope ["rows", "row", "part"] ["rows"] (defScope (topS 27)) := ⟨rfl, rfl, rfl, by decide +kernel, rfl, by decide +kernel, by decide +kernel⟩
theorem ok_vts {f : Addr} {fd : FuncData} (F : Fun K "value_tokens" "value_tokens" (topS 27) f fd) (GV : CalX P w K mg base CX0 4 "value_text" spVt) : FnOk P w K mg base CX0 5 f fd ["rows"] spVts := by
  refine F.ok (k := 4) scVts (fun vs H Q E h => ?_) (fun cdv A outer s H vs Q E hr h => ?_)
  · obtain ⟨v, rows, rfl, _⟩ := h
    rfl
  · obtain ⟨v, rows, rfl, hv, ok, hz, q⟩ := h
    obtain ⟨a, xs, rfl, ha, hx⟩ := hv.tup
    refine ⟨_, pss_one (ps_ret (pe_lc2 (own := [("row", 1), ("part", 2)]) (vs1 := [2]) (g := gName 1) (g1 := gName 2) (tt := tYes) (tt1 := tYes) (wi1 := iTup K (tVar 1)) rfl scVts.nd (pi_tup (pv 0)) (blkOk_by (own := [("row", 1), ("part", 2)]) (N := ["rows", "row", "part"]) (sc := defScope (topS 27)) (by decide +kernel)) (by decide)
      (fun _ _ _ _ _ => pg_name (i := 1) scVts.nd rfl (Or.inl rfl)) (fun _ _ _ _ _ => pts_nil) (fun _ _ _ _ _ => pi_tup (pv 1)) (fun _ _ _ _ _ => pg_name (i := 2) scVts.nd rfl (Or.inl rfl)) (fun _ _ _ _ _ => pts_nil) (fun _ _ _ _ _ => pe_cx (E := fun _ => E0) GV hr (Nat.le_refl _) (by rfl) at0 (pa_cons (pv 2) pa_nil)))), ?_⟩
    have xlen : xs.length = rows.length := by rw [hx.length, List.length_map]
    refine ⟨_, rfl, a, rfl, ⟨xs, st_of ha⟩, fun Dl hD => walk_tup (fun i H' => H' Dl = some (.lst ((rows.take i).flatten.map fun d => V.str (wS d))) ∧ Ex H H') ⟨by rw [List.take_zero]; exact upd_same, Ex.new hD⟩ (fun i H' _ ⟨_, he⟩ => st_of (he _ _ ha)) (fun i xx H' hxx ⟨g1, he⟩ => ?_) (fun H' ⟨g1, he⟩ => ?_)⟩
    · obtain ⟨dd, hdd, hda⟩ := hx.got hxx
      rw [List.getElem?_map] at hdd
      obtain ⟨ds, hds⟩ : ∃ ds, rows[i]? = some ds := by
        cases hq : rows[i]? with
        | none => rw [hq] at hdd; cases hdd
        | some ds => exact ⟨ds, rfl⟩
      rw [hds] at hdd
      cases hdd
      obtain ⟨b, ys, rfl, hb, hy⟩ := hda.tup
      have hmem : ds ∈ rows := List.mem_of_getElem? hds
      have yl : ys.length = ds.length := hy.length
      have tk : (rows.take (i + 1)).flatten = (rows.take i).flatten ++ ds := by
        rw [List.take_add_one, hds]
        simp
      refine ⟨rfl, _, rfl, b, rfl, ⟨ys, st_of (he _ _ hb)⟩, walk_tup (fun j H2 => H2 Dl = some (.lst ((((rows.take i).flatten ++ ds.take j)).map fun d => V.str (wS d))) ∧ Ex H H2) ⟨by rw [List.take_zero, List.append_nil]; exact g1, he⟩ (fun j H2 _ ⟨_, he2⟩ => st_of (he2 _ _ hb)) (fun j y H2 hyy ⟨g2, he2⟩ => ?_) (fun H2 ⟨g2, he2⟩ => ?_)⟩
      · obtain ⟨d, hd, hdy⟩ := hy.got hyy
        have fl : ((rows.take i).flatten ++ ds.take j).length ≤ 1000 := by
          have h1 : ((rows.take i).flatten ++ ds).length ≤ rows.flatten.length := by
            rw [← tk]
            have e : rows.flatten = (rows.take (i + 1)).flatten ++ (rows.drop (i + 1)).flatten := by rw [← List.flatten_append, List.take_append_drop]
            rw [e, List.length_append]
            omega
          rw [List.length_append] at h1 ⊢
          rw [List.length_take]
          omega
        refine ⟨rfl, ⟨_, rfl, y, d, rfl, hdy.ex he2, ok ds hmem d (List.mem_of_getElem? hd), fun H4 e4 => ⟨_, e4 _ _ g2, sz_lt (by rw [List.length_map]; omega), ?_, Ex.mut (he2.trans e4) hD⟩⟩⟩
        rw [List.take_add_one, hd, ← List.append_assoc, List.map_append (l₂ := (some d).toList)]
        exact upd_same
      · have e : ds.take ys.length = ds := by rw [yl, List.take_length]
        rw [e, ← tk] at g2
        exact ⟨g2, he2⟩
    · rw [xlen, List.take_length] at g1
      exact q Dl H' hD he g1
abbrev nsBt : List Str := ["kind", "body", "turn", "rows", "attempt", "channel", "parts", "number"]
theorem scBt : FnScope nsBt ["kind", "body"] (defScope (topS 26)) := ⟨rfl, rfl, rfl, by decide +kernel, rfl, by decide +kernel, by decide +kernel⟩
theorem ok_bt {f : Addr} {fd : FuncData} (F : Fun K "body_tokens" "body_tokens" (topS 26) f fd) (GI : CalX P w K mg base CX0 2 "int_text" (spIt True)) (GV : CalX P w K mg base CX0 4 "value_text" spVt) (GS : CalX P w K mg base CX0 5 "value_tokens" spVts) : FnOk P w K mg base CX0 6 f fd ["kind", "body"] spBt := by
  refine F.ok (k := 5) scBt (fun vs H Q E h => ?_) (fun cdv A outer s H vs Q E hr h => ?_)
  · obtain ⟨v, to, from_, b, rfl, _⟩ := h
    rfl
  · obtain ⟨v, to, from_, b, rfl, hv, ok, q⟩ := h
    refine ⟨_, pss_cons (ps_if (pt_cmpR op_eq (pv 0) pe_str (nomark _)) (pss_cons (ps_asg (pv 1) (pg_tup rfl (pgs_cons (pg_name (i := 2) scBt.nd rfl (.inl rfl)) (pgs_cons (pg_name (i := 3) scBt.nd rfl (.inl rfl)) pgs_nil))))
          (pss_one (ps_ret (pe_op op_cat (pe_lst (pa_cons (pe_cx (E := fun _ => E0) GI hr (by decide) (by rfl) at0 (pa_cons (pv 2) pa_nil)) pa_nil)) (pe_cx (E := fun _ => E0) GS hr (by decide) (by rfl) at0 (pa_cons (pv 3) pa_nil)))))) pss_nil)
      (pss_cons (ps_if (pt_cmpR op_eq (pv 0) pe_str (nomark _)) (pss_cons (ps_asg (pv 1) (pg_tup rfl (pgs_cons (pg_name (i := 4) scBt.nd rfl (.inl rfl)) (pgs_cons (pg_tup rfl (pgs_cons (pg_name (i := 5) scBt.nd rfl (.inl rfl)) (pgs_cons (pg_name (i := 6) scBt.nd rfl (.inl rfl)) pgs_nil))) pgs_nil))))
          (pss_one (ps_ret (pe_op op_cat (pe_lst (pa_cons (pe_cx (E := fun _ => E0) GI hr (by decide) (by rfl) at0 (pa_cons (pv 4) pa_nil)) (pa_cons (pe_cx (E := fun _ => E0) GV hr (by decide) (by rfl) at0 (pa_cons (pv 5) pa_nil)) pa_nil))) (pe_cx (E := fun _ => E0) GS hr (by decide) (by rfl) at0 (pa_cons (pv 6) pa_nil)))))) pss_nil)
      (pss_one (ps_ret (pe_lc (own := [("number", 7)]) (g := gName 7) (tt := tYes) rfl scBt.nd (pi_tup (pv 1)) (blkOk_by (own := [("number", 7)]) (N := nsBt) (sc := defScope (topS 26)) (by decide +kernel))
        (fun _ _ _ _ _ => pg_name (i := 7) scBt.nd rfl (Or.inl rfl)) (fun _ _ _ _ _ => pts_nil) (fun _ _ _ _ _ => pe_cx (E := fun _ => E0) GI hr (by decide) (by rfl) at0 (pa_cons (pv 7) pa_nil)))))), ?_⟩
    have eIt : ∀ {σ : L2.St} {H1 : Hp} {i : Nat} {n : Int}, σ[i]? = some (some (.int n)) → iOk n → Ev (tCallS (spIt True) (fun _ => E0) (tCons (tVar i) tNil)) σ H1 (.str (iS n)) := fun {σ H1 i n} s1 hn => ev_cx (ea_cons (ev_var s1) ea_nil) (fun H2 e2 Q2 q2 E2 => ⟨n, rfl, hn, fun _ => trivial, q2⟩)
    cases b with
    | offers fst rs =>
      obtain ⟨⟨f0, f1⟩, rok⟩ := ok
      obtain ⟨a, x1, x2, rfl, ha, g1, g2⟩ := DaAt.tup2 hv
      have g1 := g1.int
      subst g1
      refine q_when (b := true) (et_kind (z := "offers") (i := 0) rfl (by decide +kernel)) (fun _ H1 e1 => ?_) (fun z => nomatch z)
      refine q_unp2 (ev_var rfl) (e1 _ _ ha) [some (.str "offers"), some (.ref a), some (.int fst), some x2, none, none, none, none] rfl (fun H2 e2 => ?_)
      have l6 := rok.len
      refine s_retL (xs := (Bd.toks to from_ (.offers fst rs)).map V.str) (el_is (el_catLL (el_lst (vs := [.str (iS fst)]) (ea_cons (eIt rfl (iok_n f0 f1)) ea_nil) (by show 1 ≤ 100000; decide)) (el_cx (ea_cons (ev_var rfl) ea_nil) (fun H3 e3 Q3 q3 E3 => ⟨x2, rs.map (Rw.four to), rfl, ?_, ?_, ?_, q3⟩)) (by show 1 + _ ≤ _; rw [List.length_map, four_len (fun _ => rfl), sizeLine_eq]; omega)) (by rw [← toksR_four]; rfl)) (fun p H3 hp e3 h3 => q p H3 (fresh_back (e1.trans e2) hp) ((e1.trans e2).trans e3) h3)
      · rw [← map_dat (fun _ => rfl)]
        exact g2.ex ((e1.trans e2).trans e3)
      · intro ds hds d hd
        obtain ⟨r, hr', rfl⟩ := List.mem_map.mp hds
        exact (rok.ok r hr').four d hd
      · rw [four_len (fun _ => rfl)]
        omega
    | done fst n s9 ps =>
      obtain ⟨⟨f0, f1⟩, pok⟩ := ok
      obtain ⟨a, x1, x2, rfl, ha, g1, g2⟩ := DaAt.tup2 hv
      have g1 := g1.int
      subst g1
      obtain ⟨b, y1, y2, rfl, hb, g3, g4⟩ := DaAt.tup2 g2
      have l4 : ps.length ≤ 4 := by rw [pok.len]; have := pok.ch.s4; omega
      refine q_when (b := false) (et_kind (z := "done") (i := 0) rfl (by decide +kernel)) (fun z => nomatch z) (fun _ H1 e1 => ?_)
      refine q_when (b := true) (et_kind (z := "done") (i := 0) rfl (by decide +kernel)) (fun _ H2 e2 => ?_) (fun z => nomatch z)
      have e12 := e1.trans e2
      refine ⟨_, rfl, a, _, rfl, st_of (e12 _ _ ha), rfl, _, _, rfl, _, _, rfl, b, _, rfl, st_of (e12 _ _ hb), rfl, _, _, rfl, _, _, rfl, rfl, rfl, ?_⟩
      refine s_retL (xs := (Bd.toks to from_ (.done fst n s9 ps)).map V.str) (el_is (el_catLL (el_lst (vs := [.str (iS fst), .str (wS (chD from_ n s9))]) (ea_cons (eIt rfl (iok_n (by omega) f1)) (ea_cons (ev_cx (ea_cons (ev_var (i := 5) rfl) ea_nil) (fun H3 e3 Q3 q3 E3 => ⟨y1, _, rfl, g3.ex (e12.trans e3), .inr ⟨_, _, _, rfl, pok.ch⟩, q3⟩)) ea_nil)) (by show 2 ≤ 100000; decide)) (el_cx (ea_cons (ev_var (i := 6) rfl) ea_nil) (fun H3 e3 Q3 q3 E3 => ⟨y2, ps.map Pt.four, rfl, ?_, ?_, ?_, q3⟩)) (by show 2 + _ ≤ _; rw [List.length_map, four_len (fun _ => rfl), sizeLine_eq]; omega)) (by rw [← toksP_four]; rfl)) (fun p H3 hp e3 h3 => q p H3 (fresh_back e12 hp) (e12.trans e3) h3)
      · rw [← map_dat (fun _ => rfl)]
        exact g4.ex (e12.trans e3)
      · intro ds hds d hd
        obtain ⟨r, hr', rfl⟩ := List.mem_map.mp hds
        exact (pok.ok r hr').four d hd
      · rw [four_len (fun _ => rfl)]
        omega
    | heard fst =>
      obtain ⟨f0, f1⟩ := ok
      refine q_when (b := false) (et_kind (z := "heard") (i := 0) rfl (by decide +kernel)) (fun z => nomatch z) (fun _ H1 e1 => ?_)
      refine q_when (b := false) (et_kind (z := "heard") (i := 0) rfl (by decide +kernel)) (fun z => nomatch z) (fun _ H2 e2 => ?_)
      refine s_retL (el_nums (K := K) (ns := [fst]) (hv.ex (e1.trans e2)) (fun m hm => by rw [List.mem_singleton.mp hm]; exact iok_n f0 f1) (by show 1 ≤ 1000; decide)) (fun p H3 hp e3 h3 => q p H3 (fresh_back (e1.trans e2) hp) ((e1.trans e2).trans e3) h3)
    | one kd fst =>
      obtain ⟨hk, f0, f1⟩ := ok
      have ne : decide (V.str kd = V.str "offers") = false ∧ decide (V.str kd = V.str "done") = false := by
        rcases hk with rfl | rfl | rfl <;> decide +kernel
      refine q_when (b := false) (et_kind (z := kd) (i := 0) rfl ne.1) (fun z => nomatch z) (fun _ H1 e1 => ?_)
      refine q_when (b := false) (et_kind (z := kd) (i := 0) rfl ne.2) (fun z => nomatch z) (fun _ H2 e2 => ?_)
      refine s_retL (el_nums (K := K) (ns := [fst]) (hv.ex (e1.trans e2)) (fun m hm => by rw [List.mem_singleton.mp hm]; exact iok_n (by omega) f1) (by show 1 ≤ 1000; decide)) (fun p H3 hp e3 h3 => q p H3 (fresh_back (e1.trans e2) hp) ((e1.trans e2).trans e3) h3)
    | ask fst snd =>
      obtain ⟨⟨f0, f1⟩, g0, g1⟩ := ok
      refine q_when (b := false) (et_kind (z := "ask") (i := 0) rfl (by decide +kernel)) (fun z => nomatch z) (fun _ H1 e1 => ?_)
      refine q_when (b := false) (et_kind (z := "ask") (i := 0) rfl (by decide +kernel)) (fun z => nomatch z) (fun _ H2 e2 => ?_)
      refine s_retL (el_nums (K := K) (ns := [fst, snd]) (hv.ex (e1.trans e2)) (fun m hm => by
        have : m = fst ∨ m = snd := by simpa using hm
        rcases this with rfl | rfl
        · exact iok_n (by omega) f1
        · exact iok_n g0 g1) (by show 2 ≤ 1000; decide)) (fun p H3 hp e3 h3 => q p H3 (fresh_back (e1.trans e2) hp) ((e1.trans e2).trans e3) h3)
end
end Fs

set_option Elab.async false
set_option linter.all false
set_option maxRecDepth 100000
set_option maxHeartbeats 2000000
/-! a op b, both instances of one class of the program that defines the operator. -/
namespace FsR
open PySem PySem.Spec PyProof.Rows L2 ClX
structure OpM (K : PySem.W.Frag) (C : Addr) (op : Operator) (g : Addr) : Prop where
  fst : PySem.W.selfFirst K C = true
  at_ : PySem.W.findIn K (.ref C) (PySem.dunder op.info.2) = some (some (.ref g))
  fn : PySem.W.isFn K (.ref g) = true
/-- a op b -/
def tOwn (C : Addr) (sp : Sp) (E : L2.St → XK) (ta tb : TE) : TE := fun σ H Q => ta σ H fun x H1 => tb σ H1 fun y H2 => ∃ (a b dx dy : Addr) (fs gs : List (Str × V)), x = .ref a ∧ y = .ref b ∧ H2 a = some (.ins C dx fs) ∧ H2 b = some (.ins C dy gs) ∧ sp [.ref a, .ref b] H2 Q (E σ)
theorem no_notimpl {y : V} (r : RelV y Value.notImplemented) : False := by
  cases y <;> first | (obtain ⟨t, e⟩ := r; cases e; done) | (cases r; done)
theorem pe_own {X : Cx} {CX : CXT} {k : Nat} {C g : Addr} {fd : FuncData} {ps : List Str} {sp : Sp} {E : L2.St → XK} {ea eb : Expr} {op : Operator} {pos : Pos} {ta tb : TE} (ha : PE X ea ta) (hb : PE X eb tb) (M : OpM X.K C op g) (F : FnOk X.prog X.w X.K X.mg X.base CX k g fd ps sp) (hr : Room k X.A) (hd : Binds X.K fd ps [])
    (hx : ∀ σ, PassesAt CX X σ (E σ)) : PE X (.BinOp ea op eb pos) (tOwn C sp E ta tb) := by
  refine ⟨fun pins s σ H Q I h => wpAny_BinOp (binT ha hb I h fun v u s2 x y H2 I2 rx ry q => ?_)⟩
  obtain ⟨a, b, dx, dy, fs, gs, rfl, rfl, h1, h2, q⟩ := q
  obtain rfl : v = Value.ref a := rx
  obtain rfl : u = Value.ref b := ry
  obtain ⟨_, O1, _, _, _, _⟩ := ins_get I2.hok h1
  obtain ⟨_, O2, _, _, _, _⟩ := ins_get I2.hok h2
  obtain ⟨_, i1, _⟩ := O1.look
  obtain ⟨_, i2, _⟩ := O2.look
  obtain ⟨m, fr⟩ := I2.fr
  refine PySem.W.binop_K fr I2.ok.mod.kin i1 i2.type M.fst M.at_ M.fn (wpAny_mono (run_fnS (us := [.ref a, .ref b]) (vs := [.ref a, .ref b]) F hr hd (hx σ) I2 (.cons rfl (.cons rfl .nil)) q) (fun w s' hw => ?_) fun _ _ z => z)
  obtain ⟨y, H', J, r, q'⟩ := hw
  have fin : EP X pins σ Q w s' := ⟨y, H', J, r, q'⟩
  cases w with
  | notImplemented => exact no_notimpl r
  | _ => exact fin
end FsR

set_option Elab.async false
set_option linter.all false
set_option maxRecDepth 100000
set_option maxHeartbeats 2000000
/-! a == b of instances of one own class, both answers; a op i, i an int. -/
namespace FsR
open PySem PySem.Spec PyProof.Rows L2 Evl
structure EqM (K : PySem.W.Frag) (C : Addr) (g : Addr) : Prop where
  at_ : PySem.W.findIn K (.ref C) "__eq__" = some (some (.ref g))
  fn : PySem.W.isFn K (.ref g) = true
/-- a == b -/
def rOwnEq (C : Addr) (sp : Sp) (E : XK) : R2 := fun x y H Q => ∃ (a b dx dy : Addr) (fs gs : List (Str × V)), x = .ref a ∧ y = .ref b ∧ H a = some (.ins C dx fs) ∧ H b = some (.ins C dy gs) ∧ sp [.ref a, .ref b] H Q E
theorem op_ownEq {X : Cx} {CX : CXT} {k : Nat} {C g : Addr} {fd : FuncData} {ps : List Str} {sp : Sp} {E : XK} (M : EqM X.K C g) (F : FnOk X.prog X.w X.K X.mg X.base CX k g fd ps sp) (hr : Room k X.A) (hd : Binds X.K fd ps []) (hx : ∀ σ, PassesAt CX X σ E) : OpR X (compareOp .Eq) (rOwnEq C sp E) := by
  intro pins s σ H x y v u Q I rx ry h
  obtain ⟨a, b, dx, dy, fs, gs, rfl, rfl, h1, h2, q⟩ := h
  obtain rfl : v = Value.ref a := rx
  obtain rfl : u = Value.ref b := ry
  obtain ⟨_, O1, _, _, _, _⟩ := ins_get I.hok h1
  obtain ⟨_, O2, _, _, _, _⟩ := ins_get I.hok h2
  obtain ⟨_, i1, _⟩ := O1.look
  obtain ⟨_, i2, _⟩ := O2.look
  obtain ⟨m, fr⟩ := I.fr
  show wpAny _ _ (richCompare .Eq _ _) _ _ _
  refine PySem.W.cmp_K (op := .Eq) (tb := .ref C) hr.units0 fr I.ok.mod.kin i1 i2.type (by unfold PySem.W.notFirst; rw [beq_self_eq_true, Bool.true_or]) M.at_ M.fn ?_
  refine wpAny_mono (run_fnS (E := fun _ => E) (us := [.ref a, .ref b]) (vs := [.ref a, .ref b]) F hr hd (hx σ) I (.cons rfl (.cons rfl .nil)) q) (fun w s' hw => ?_) fun _ _ z => z
  obtain ⟨y, H', J, r, q'⟩ := hw
  have fin : EP X pins σ Q w s' := ⟨y, H', J, r, q'⟩
  cases w with
  | notImplemented => exact no_notimpl r
  | _ => exact fin
structure OpI (K : PySem.W.Frag) (C : Addr) (op : Operator) (g : Addr) : Prop where
  fst : PySem.W.selfFirst K C = true
  at_ : PySem.W.findIn K (.ref C) (PySem.dunder op.info.2) = some (some (.ref g))
  fn : PySem.W.isFn K (.ref g) = true
  rv : PySem.W.findIn K (.ref C) (dunderR op.info.2) = some none
  h1 : ∃ fo, PySem.W.findIn K (.type "int") (PySem.dunder op.info.2) = some fo
  h2 : ∃ ro, PySem.W.findIn K (.type "int") (dunderR op.info.2) = some ro
  sub : PySem.W.subIn K (.type "int") (.ref C) = some false
/-- a op i -/
def tOwnI (C : Addr) (sp : Sp) (E : L2.St → XK) (ta tb : TE) : TE := fun σ H Q => ta σ H fun x H1 => tb σ H1 fun y H2 => ∃ (a dx : Addr) (fs : List (Str × V)) (i : Int), x = .ref a ∧ y = .int i ∧ H2 a = some (.ins C dx fs) ∧ sp [.ref a, .int i] H2 Q (E σ)
theorem pe_ownI {X : Cx} {CX : CXT} {k : Nat} {C g : Addr} {fd : FuncData} {ps : List Str} {sp : Sp} {E : L2.St → XK} {ea eb : Expr} {op : Operator} {pos : Pos} {ta tb : TE} (ha : PE X ea ta) (hb : PE X eb tb) (M : OpI X.K C op g) (F : FnOk X.prog X.w X.K X.mg X.base CX k g fd ps sp) (hr : Room k X.A) (hd : Binds X.K fd ps [])
    (hx : ∀ σ, PassesAt CX X σ (E σ)) : PE X (.BinOp ea op eb pos) (tOwnI C sp E ta tb) := by
  refine ⟨fun pins s σ H Q I h => wpAny_BinOp (binT ha hb I h fun v u s2 x y H2 I2 rx ry q => ?_)⟩
  obtain ⟨a, dx, fs, i, rfl, rfl, h1, q⟩ := q
  obtain rfl : v = Value.ref a := rx
  obtain ⟨t, rfl⟩ := ry
  obtain ⟨_, O1, _, _, _, _⟩ := ins_get I2.hok h1
  obtain ⟨_, i1, _⟩ := O1.look
  obtain ⟨m, fr⟩ := I2.fr
  obtain ⟨fo, hfo⟩ := M.h1
  obtain ⟨ro, hro⟩ := M.h2
  refine PySem.W.ksp_binT fr I2.ok.mod.kin i1 (T := "int") rfl M.fst M.at_ M.fn M.rv (.inl rfl) hfo hro M.sub (wpAny_mono (run_fnS (us := [.ref a, .int i t]) (vs := [.ref a, .int i]) F hr hd (hx σ) I2 (.cons rfl (.cons ⟨t, rfl⟩ .nil)) q) (fun w s' hw => ?_) fun _ _ z => z)
  obtain ⟨y, H', J, r, q'⟩ := hw
  have fin : EP X pins σ Q w s' := ⟨y, H', J, r, q'⟩
  cases w with
  | notImplemented => exact no_notimpl r
  | _ => exact fin
end FsR

set_option Elab.async false
set_option linter.all false
set_option maxRecDepth 100000
set_option maxHeartbeats 4000000
/-! == of tuples and of own instances, whatever the answer. -/
namespace FsQ
open PySem PySem.SeqAt
open AutoSeq1 (wpAny_loadPart')
open MeetsSeq MeetsSeq2 MeetsSeq3 SeqRoads2
open GQ
section
variable {prog : Program} {w : World} {A : Around} {R : Result → Shared → Prop}
theorem all_upto {e : Nat → Bool} {m : Nat} (h : ∀ j, j < m → e j = true) : (List.range m).all e = true := List.all_eq_true.mpr fun j hj => h j (List.mem_range.mp hj)
theorem not_all {e : Nat → Bool} {m i : Nat} (hi : i < m) (h : e i = false) : (List.range m).all e = false := by
  cases z : (List.range m).all e with
  | false => rfl
  | true =>
    have := List.all_eq_true.mp z i (List.mem_range.mpr hi)
    rw [h] at this
    cases this
/-- the walk over two tuples, the answer of each pair told -/
theorem tuple_any (l b : Addr) (xs ys : Array Value) (n n2 : Nat) (dd dd2 : Option Addr) (sl sl2 : Array (Option Value)) (e : Nat → Bool) (I : Nat → Shared → Prop)
    (pair : ∀ i (h1 : i < xs.size) (h2 : i < ys.size) s, I i s → wpAny (model prog w) A.in1 (eqBool xs[i] ys[i]) (fun r s' => r = e i ∧ I (i + 1) s') (fun z s' => R (.error z) s') s)
    (ends : ∀ i s, I i s → R (.ok (.ret (.bool ((List.range (min xs.size ys.size)).all e && (xs.size == ys.size))))) s) {s : Shared} (ha : s.heap.get? l = some { cls := .type "tuple", dict := dd, data := .seq xs n, slots := sl }) (hb : s.heap.get? b = some { cls := .type "tuple", dict := dd2, data := .seq ys n2, slots := sl2 }) (h0 : I 0 s) :
    wpAny (model prog w) A.in1 (Builtin.«tuple.__eq__» ⟨[.ref l, .ref b], []⟩) (FinOf prog w A R) (fun z s' => R (.error z) s') s := by
  have sub := AutoSeq1.sub_tuple_tuple
  have len : (xs.toList.zip ys.toList).length = min xs.size ys.size := by simp
  have start := h0
  obtain ⟨hp, g, d, tk, os⟩ := s
  wp_walk using wpAny_loadPart' ha, wpAny_loadPart' hb, wpAny_forIn_list _ (fun left acc s' => acc.1 = none ∧ ∃ i, left = (xs.toList.zip ys.toList).drop i ∧ i ≤ min xs.size ys.size ∧ (∀ j, j < i → e j = true) ∧ I i s') _
  case h => exact ⟨rfl, 0, rfl, Nat.zero_le _, fun j hj => absurd hj (Nat.not_lt_zero j), start⟩
  case turn =>
    rintro ⟨u, v⟩ left acc s' ⟨_, i, hz, _, hall, hI⟩
    have hi : i < (xs.toList.zip ys.toList).length := Nat.lt_of_not_le fun z => by
      rw [List.drop_of_length_le z] at hz
      cases hz
    have him : i < min xs.size ys.size := len ▸ hi
    have h1 : i < xs.size := Nat.lt_of_lt_of_le him (Nat.min_le_left _ _)
    have h2 : i < ys.size := Nat.lt_of_lt_of_le him (Nat.min_le_right _ _)
    rw [List.drop_eq_getElem_cons hi] at hz
    injection hz with hp0 hleft
    obtain rfl : u = xs[i] := by have := congrArg Prod.fst hp0; simpa using this
    obtain rfl : v = ys[i] := by have := congrArg Prod.snd hp0; simpa using this
    refine wpAny_bind (wpAny_mono (pair i h1 h2 s' hI) (fun r s2 ⟨hr, hI2⟩ => ?_) fun _ _ z => z)
    subst hr
    cases he : e i with
    | true =>
      wp_walk
      refine ⟨rfl, i + 1, hleft, him, fun j hj => ?_, hI2⟩
      by_cases z : j = i
      · rw [z, he]
      · exact hall j (by omega)
    | false =>
      have out := ends (i + 1) s2 hI2
      rw [not_all him he, Bool.false_and] at out
      wp_walk
      exact out
  case fin =>
    rintro ⟨a1, a2⟩ s' ⟨ha1, i, hz, hi, hall, hI⟩
    simp only at ha1
    subst ha1
    have hge : min xs.size ys.size ≤ i := Nat.le_of_not_lt fun z => by
      rw [List.drop_eq_getElem_cons (len ▸ z)] at hz
      cases hz
    obtain rfl : i = min xs.size ys.size := by omega
    have out := ends _ s' hI
    rw [all_upto hall, Bool.true_and] at out
    wp_walk
    simpa [Builtin.Tuple.tupleCompareSizes] using out
end
section
variable {prog : Program} {w : World} {A : Around} {E : Value → Shared → Prop} {s : Shared}
theorem rc_tuple_any {l b : Addr} {xs ys : Array Value} {e : Nat → Bool} {Q : Value → Shared → Prop} (hu : A.units < cLine) (I : Nat → Shared → Prop) (hl : s.heap.IsTuple l xs) (hb : s.heap.IsTuple b ys)
    (pair : ∀ i (h1 : i < xs.size) (h2 : i < ys.size) s, I i s → wpAny (model prog w) A.in1 (eqBool xs[i] ys[i]) (fun r s' => r = e i ∧ I (i + 1) s') E s)
    (ends : ∀ i s, I i s → Q (.bool ((List.range (min xs.size ys.size)).all e && (xs.size == ys.size))) s) (h0 : I 0 s) : wpAny (model prog w) A (richCompare .Eq (.ref l) (.ref b)) Q E s := by
  obtain ⟨⟨c1, d1, t1, s1⟩, o1, k1, n1, z1⟩ := id hl
  obtain ⟨⟨c2, d2, t2, s2⟩, o2, k2, n2, z2⟩ := id hb
  simp only at k1 z1 k2 z2
  subst k1 z1 k2 z2
  refine wpAny_richCompare_same_room (op := .Eq) ⟨_, o1, rfl⟩ ⟨_, o2, rfl⟩ F.slot_tuple_eq (call_here F.slot_tuple_eq ⟨_, o1, rfl⟩ F.entry_tuple_eq (F.args_tuple_eq_2 _ _) ?_) hu
  exact tuple_any (R := wants (fun v s' => v ≠ .notImplemented ∧ Q v s') E) l b xs ys n1 n2 d1 d2 s1 s2 e I pair (fun i s' q => ⟨(fun z => nomatch z), ends i s' q⟩) o1 o2 h0
end
end FsQ
namespace FsQ
open PySem PySem.Spec PyProof.Rows L2
/-- how two values compare, by the abstract heap -/
abbrev Cmp := V → V → Bool → Hp → Prop
def MonB (D : Cmp) : Prop := ∀ x y b H H', Ext H H' → D x y b H → D x y b H'
def EqB (X : Cx) (n : Nat) (D : Cmp) : Prop := ∀ (A : Around) (pins : List (Addr × Obj)) (s : Shared) (σ : L2.St) (H : Hp) (x y : V) (u v : Value) (b : Bool), Sub X n A → Inv X pins σ H s → RelV x u → RelV y v → D x y b H →
  wpAny (model X.prog X.w) A (eqBool u v) (fun r s' => r = b ∧ ∃ H', Inv X pins σ H' s' ∧ Ext H H') X.xe s
def RcB (X : Cx) (n : Nat) (D : Cmp) : Prop := ∀ (A : Around) (pins : List (Addr × Obj)) (s : Shared) (σ : L2.St) (H : Hp) (x y : V) (u v : Value) (b : Bool), Sub X n A → Inv X pins σ H s → RelV x u → RelV y v → D x y b H →
  wpAny (model X.prog X.w) A (richCompare .Eq u v) (fun r s' => r = .bool b ∧ ∃ H', Inv X pins σ H' s' ∧ Ext H H') X.xe s
/-- pair by pair, as far as both reach -/
def ZipB (D : Cmp) : List V → List V → List Bool → Hp → Prop
  | x :: xs, y :: ys, b :: bs, H => D x y b H ∧ ZipB D xs ys bs H
  | [], _, [], _ => True
  | _ :: _, [], [], _ => True
  | _, _, _, _ => False
def CFlat : Cmp := fun x y b _ => flatV x = true ∧ flatV y = true ∧ eqV x y = b
def CTup (D : Cmp) : Cmp := fun x y b H => ∃ a c xs ys bs, x = .ref a ∧ y = .ref c ∧ H a = some (.tup xs) ∧ H c = some (.tup ys) ∧ ZipB D xs ys bs H ∧ b = (bs.all id && (xs.length == ys.length))
def CIns (C : Addr) (R : Addr → Addr → Bool → Hp → Prop) : Cmp := fun x y b H => ∃ a c dx dy fs gs, x = .ref a ∧ y = .ref c ∧ H a = some (.ins C dx fs) ∧ H c = some (.ins C dy gs) ∧ R a c b H
/-- what the own == promises -/
def spEqB (R : Addr → Addr → Bool → Hp → Prop) : Sp := fun vs H Q _ => ∃ a c b, vs = [.ref a, .ref c] ∧ R a c b H ∧ ∀ H', Ext H H' → Q (.bl b) H'
section
variable {X : Cx} {n m : Nat} {D D' : Cmp}
theorem EqB.mono (h : EqB X n D) (hn : n ≤ m) : EqB X m D := fun A pins s σ H x y u v b sb => h A pins s σ H x y u v b (sb.mono hn)
theorem EqB.or (h : EqB X n D) (h' : EqB X n D') : EqB X n (fun x y b H => D x y b H ∨ D' x y b H) := fun A pins s σ H x y u v b sb I rx ry d => d.elim (h A pins s σ H x y u v b sb I rx ry) (h' A pins s σ H x y u v b sb I rx ry)
theorem MonB.or (h : MonB D) (h' : MonB D') : MonB (fun x y b H => D x y b H ∨ D' x y b H) := fun x y b H H' e d => d.elim (fun d => .inl (h x y b H H' e d)) fun d => .inr (h' x y b H H' e d)
theorem ZipB.mon (hD : MonB D) {H H' : Hp} (e : Ext H H') : ∀ {xs ys : List V} {bs : List Bool}, ZipB D xs ys bs H → ZipB D xs ys bs H'
  | _ :: _, _ :: _, _ :: _, h => ⟨hD _ _ _ _ _ e h.1, ZipB.mon hD e h.2⟩
  | [], _, [], _ => trivial
  | _ :: _, [], [], _ => trivial
  | [], [], _ :: _, h => h.elim
  | [], _ :: _, _ :: _, h => h.elim
  | _ :: _, [], _ :: _, h => h.elim
  | _ :: _, _ :: _, [], h => h.elim
theorem ZipB.len {H : Hp} : ∀ {xs ys : List V} {bs : List Bool}, ZipB D xs ys bs H → bs.length = min xs.length ys.length
  | _ :: _, _ :: _, _ :: _, h => by
    have := ZipB.len h.2
    simp only [List.length_cons]
    omega
  | [], _, [], _ => by simp
  | _ :: _, [], [], _ => by simp
  | [], [], _ :: _, h => h.elim
  | [], _ :: _, _ :: _, h => h.elim
  | _ :: _, [], _ :: _, h => h.elim
  | _ :: _, _ :: _, [], h => h.elim
theorem ZipB.get {H : Hp} : ∀ {xs ys : List V} {bs : List Bool} {i : Nat} {x y : V}, ZipB D xs ys bs H → xs[i]? = some x → ys[i]? = some y → ∃ b, bs[i]? = some b ∧ D x y b H
  | _ :: _, _ :: _, b :: _, 0, _, _, h, h1, h2 => by
    cases h1
    cases h2
    exact ⟨b, rfl, h.1⟩
  | _ :: _, _ :: _, _ :: _, i + 1, _, _, h, h1, h2 => ZipB.get (i := i) h.2 h1 h2
  | [], _, _, _, _, _, _, h1, _ => by simp at h1
  | _ :: _, [], _, _, _, _, _, _, h2 => by simp at h2
  | _ :: _, _ :: _, [], _, _, _, h, _, _ => h.elim
theorem all_getD : ∀ (bs : List Bool), (List.range bs.length).all (fun i => bs.getD i true) = bs.all id
  | [] => rfl
  | b :: bs => by
    rw [List.length_cons, List.range_succ_eq_map, List.all_cons, List.all_cons, List.all_map]
    show (b && (List.range bs.length).all fun i => bs.getD i true) = _
    rw [all_getD bs]
    rfl
theorem monB_flat : MonB CFlat := fun _ _ _ _ _ _ d => d
theorem monB_tup (hD : MonB D) : MonB (CTup D) := fun x y b H H' e ⟨a, c, xs, ys, bs, h1, h2, h3, h4, h5, h6⟩ => ⟨a, c, xs, ys, bs, h1, h2, e _ _ h3, e _ _ h4, h5.mon hD e, h6⟩
theorem monB_ins {C : Addr} {R : Addr → Addr → Bool → Hp → Prop} (hR : ∀ a c b H H', Ext H H' → R a c b H → R a c b H') : MonB (CIns C R) := fun x y b H H' e ⟨a, c, dx, dy, fs, gs, h1, h2, h3, h4, h5⟩ => ⟨a, c, dx, dy, fs, gs, h1, h2, e _ _ h3, e _ _ h4, hR _ _ _ _ _ e h5⟩
theorem eqB_flat : EqB X 0 CFlat := by
  intro A pins s σ H x y u v b sb I rx ry ⟨fx, fy, e⟩
  subst e
  exact eqAt_V (A := A) (s := s) rx ry fx fy X.prog X.w X.xe _ ⟨rfl, H, I, Ext.rfl'⟩
theorem rcB_tup (hD : MonB D) (h : EqB X n D) : RcB X (n + 1) (CTup D) := by
  intro A pins s σ H x y u v b sb I rx ry ⟨a, c, xs, ys, bs, ex, ey, ha, hc, hz, hb⟩
  subst ex ey
  cases rx
  cases ry
  obtain ⟨us, r, e1, _⟩ := I.tuple (.inl (.inl ha))
  obtain ⟨vs, r2, e2, _⟩ := I.tuple (.inl (.inl hc))
  have n1 : us.toArray.size = xs.length := by rw [List.size_toArray, ← r.length]
  have n2 : vs.toArray.size = ys.length := by rw [List.size_toArray, ← r2.length]
  have hl := hz.len
  have ans : ((List.range (min us.toArray.size vs.toArray.size)).all (fun i => bs.getD i true) && (us.toArray.size == vs.toArray.size)) = b := by
    rw [n1, n2, ← hl, all_getD, hb]
  refine rc_tuple_any (e := fun i => bs.getD i true) sb.room.units0 (fun _ s' => LoopI X pins σ H s') e1 e2 (fun i h1 h2 s' ⟨H1, I1, x1⟩ => ?_) (fun i s' q => ⟨by rw [ans], q⟩) ⟨H, I, Ext.rfl'⟩
  have k1 : i < xs.length := n1 ▸ h1
  have k2 : i < ys.length := n2 ▸ h2
  obtain ⟨p, hp, rp⟩ := r.get (List.getElem?_eq_getElem k1)
  obtain ⟨q, hq, rq⟩ := r2.get (List.getElem?_eq_getElem k2)
  obtain ⟨z, hz1, hz2⟩ := (hz.mon hD x1).get (List.getElem?_eq_getElem k1) (List.getElem?_eq_getElem k2)
  have g1 : us.toArray[i] = p := by
    have h1' : i < us.length := by simpa using h1
    rw [List.getElem?_eq_getElem h1'] at hp
    simpa using Option.some.inj hp
  have g2 : vs.toArray[i] = q := by
    have h2' : i < vs.length := by simpa using h2
    rw [List.getElem?_eq_getElem h2'] at hq
    simpa using Option.some.inj hq
  rw [g1, g2]
  refine wpAny_mono (h A.in1 pins s' σ H1 _ _ p q z sb.in1 I1 rp rq hz2) (fun t s2 ⟨ht, H2, I2, x2⟩ => ?_) fun _ _ z => z
  refine ⟨?_, H2, I2, x1.trans x2⟩
  rw [ht, List.getD_eq_getElem?_getD, hz1]
  rfl
/-- a value is equal to itself -/
def SelfB (D : Cmp) : Prop := ∀ x b H, D x x b H → b = true
theorem SelfB.or (h : SelfB D) (h' : SelfB D') : SelfB (fun x y b H => D x y b H ∨ D' x y b H) := fun x b H d => d.elim (h x b H) (h' x b H)
theorem eqV_self : ∀ x : V, flatV x = true → eqV x x = true
  | .non, _ => rfl
  | .bl b, _ => by show (b == b) = true; exact beq_self_eq_true b
  | .int i, _ => by show (i == i) = true; exact beq_self_eq_true i
  | .str z, _ => by show (z == z) = true; exact beq_self_eq_true z
theorem self_flat : SelfB CFlat := fun x b H ⟨h1, _, h3⟩ => h3 ▸ eqV_self x h1
theorem zip_self (h : SelfB D) {H : Hp} : ∀ {xs : List V} {bs : List Bool}, ZipB D xs xs bs H → bs.all id = true
  | [], [], _ => rfl
  | x :: xs, b :: bs, z => by
    rw [List.all_cons, zip_self h z.2, Bool.and_true]
    exact h x b H z.1
  | [], _ :: _, z => z.elim
  | _ :: _, [], z => z.elim
theorem self_tup (h : SelfB D) : SelfB (CTup D) := fun x b H ⟨a, c, xs, ys, bs, e1, e2, h1, h2, h3, h4⟩ => by
  subst e1
  cases e2
  rw [h1] at h2
  cases h2
  rw [h4, zip_self h h3]
  simp
theorem self_ins {C : Addr} {R : Addr → Addr → Bool → Hp → Prop} (h : ∀ a b H, R a a b H → b = true) : SelfB (CIns C R) := fun x b H ⟨a, c, _, _, _, _, e1, e2, _, _, hr⟩ => by
  subst e1
  cases e2
  exact h a b H hr
/-- the same object is equal to itself -/
theorem RcB.eqB (h : RcB X n D) (hr : ∀ x y b H, D x y b H → ∃ a c, x = .ref a ∧ y = .ref c) (hs : SelfB D) : EqB X n D := by
  intro A pins s σ H x y u v b sb I rx ry d
  obtain ⟨a, c, rfl, rfl⟩ := hr _ _ _ _ d
  cases rx
  cases ry
  by_cases hac : a = c
  · subst hac
    obtain rfl := hs _ _ _ d
    exact SeqAt.EqAt.same (A := A) (s := s) (.ref a) X.prog X.w X.xe _ ⟨rfl, H, I, Ext.rfl'⟩
  · exact GQ.eqBool_refG hac (wpAny_mono (h A pins s σ H (.ref a) (.ref c) _ _ b sb I rfl rfl d) (fun r s' ⟨q1, q2⟩ => ⟨b, q1, rfl, q2⟩) fun _ _ z => z)
/-- x == y as an expression -/
def rEqB (D : Cmp) : R2 := fun x y H Q => ∃ b, D x y b H ∧ ∀ H', Ext H H' → Q (.bl b) H'
theorem op_eqB (h : RcB X n D) (hr : Room n X.A) : OpR X (compareOp .Eq) (rEqB D) := by
  intro pins s σ H x y v u Q I rx ry ⟨b, d, q⟩
  show wpAny (model X.prog X.w) X.A (richCompare .Eq v u) (EP X pins σ Q) X.xe s
  refine wpAny_mono (h X.A pins s σ H x y v u b ⟨hr, rfl⟩ I rx ry d) (fun r s' ⟨z, H', I', e⟩ => ?_) fun _ _ z => z
  subst z
  exact ⟨.bl b, H', I', rfl, q H' e⟩
theorem rcB_ins {CX : CXT} {C f : Addr} {fd : FuncData} {ps : List Str} {R : Addr → Addr → Bool → Hp → Prop} {E : XK} (F : FnOk X.prog X.w X.K X.mg X.base CX n f fd ps (spEqB R))
    (hs : PySem.W.findIn X.K (.ref C) "__eq__" = some (some (.ref f))) (hf : PySem.W.isFn X.K (.ref f) = true) (hb : Binds X.K fd ps []) (hx : Passes CX X E) : RcB X n (CIns C R) := by
  intro A pins s σ H x y u v b sb I rx ry ⟨a, c, dx, dy, fs, gs, ex, ey, ha, hc, hr⟩
  subst ex ey
  cases rx
  cases ry
  obtain ⟨_, J, _⟩ := ins_get I.hok ha
  obtain ⟨_, J', _⟩ := ins_get I.hok hc
  obtain ⟨_, J, _⟩ := J.look
  obtain ⟨_, J', _⟩ := J'.look
  obtain ⟨m, hF⟩ := I.fr
  refine PySem.W.cmp_K (op := .Eq) (tb := .ref C) sb.room.units0 hF I.ok.mod.kin J J'.type (by simp [PySem.W.notFirst]) hs hf ?_
  have sp : spEqB R [.ref a, .ref c] H (fun v H' => v = .bl b ∧ Ext H H') E := ⟨a, c, b, rfl, hr, fun H' e => ⟨rfl, e⟩⟩
  have e0 := I.env0
  have e1 : Env0 X.prog X.w X.K X.mg X.base A X.stack s H := ⟨sb.fr.trans e0.frames, e0.mod, e0.bs, e0.bsz, e0.funs, e0.frf, e0.hok, e0.bare⟩
  have two : [Value.ref a, Value.ref c].length = ps.length := F.len _ _ _ _ sp
  have bnd := hb s [.ref a, .ref c] I.kIn (by rw [List.append_nil]; exact two)
  rw [List.append_nil] at bnd
  refine wpAny_call (codeAny_mono (F.run A X.stack s H ⟨[.ref a, .ref c], []⟩ [.ref a, .ref c] [.ref a, .ref c] _ E sb.room e1 bnd (.cons rfl (.cons rfl .nil)) sp) fun r s' hq => ?_)
  cases r with
  | error z => exact hx pins σ H s z s' I hq
  | ok fl =>
    cases fl with
    | ret t =>
      obtain ⟨z, H', I', rz, ez, ext⟩ := I.after hq
      subst ez
      cases rz
      exact ⟨rfl, H', I', ext⟩
    | next => exact False.elim hq
    | brk => exact False.elim hq
    | cont => exact False.elim hq
end
end FsQ

set_option Elab.async false
set_option linter.all false
set_option maxRecDepth 100000
set_option maxHeartbeats 4000000
/-! a != b of instances of one own class that has __eq__ and no __ne__ of its own. -/
namespace FsR
open PySem PySem.W PySem.Spec PyProof.Rows L2 Evl FsQ
theorem ne_bind (self : Value) : bindSpecial (.builtin "object.__ne__") self = pure (.builtin "object.__ne__", [self]) := PySem.F.cmp_object.ne.bind self
section
variable {prog : Program} {w : World} {A : Around} {E : Value → Shared → Prop} {K : Frag} {s : Shared} {x y C f : Addr} {ox : Obj} {od : Option Obj} {tb : Value}
theorem objNe_K (X : K.In s.heap) (I : InstAt s.heap x ox C od) (hs : findIn K (.ref C) "__eq__" = some (some (.ref f))) (hf : isFn K (.ref f) = true) (hu : A.units < cLine) {Q : Fin → Shared → Prop}
    (hcall : wpAny (model prog w) A (call (.ref f) [.ref x, .ref y]) (fun v s' => ∃ b, v = .bool b ∧ Q (.done (.ret (.bool (!b)))) s') E s) :
    wpAny (model prog w) A (Builtin.«object.__ne__» ⟨[.ref x, .ref y], []⟩) Q E s := by
  unfold Builtin.«object.__ne__»
  repeat (first
    | with_reducible refine wpAny_cRoomFor hu ?_
    | (refine wpAny_bind (m := callSpecialIfBound? (.ref x) (Str.ofString "__eq__") [.ref y])
        (ifBound_K X I hs hf (wpAny_mono hcall (fun r s' hr => by
          obtain ⟨b, rfl, hq⟩ := hr
          repeat (first | exact hq | exact wpAny_pure hq | exact wpAny_truthy_bool hq | (refine wpAny_bind (m := truthy (.bool _)) (wpAny_truthy_bool ?_)) | wp_step)) fun _ _ e => e)))
    | wp_step)
theorem tryNe_K (X : K.In s.heap) (I : InstAt s.heap x ox C od) (hs : findIn K (.ref C) "__eq__" = some (some (.ref f))) (hf : isFn K (.ref f) = true) (hn : findIn K (.ref C) "__ne__" = some (some (.builtin "object.__ne__"))) (ho : subIn K (.ref C) (.type "object") = some true)
    (hu : A.units + 1 < cLine) {Q : Option Value → Shared → Prop} (hcall : wpAny (model prog w) A.in1 (call (.ref f) [.ref x, .ref y]) (fun v s' => ∃ b, v = .bool b ∧ Q (some (.bool (!b))) s') E s) :
    wpAny (model prog w) A (tryCompare (.ref x) "__ne__" (.ref y)) Q E s := by
  have fin : wpAny (model prog w) A (call (.builtin "object.__ne__") ([.ref x] ++ [.ref y]) >>= fun v => pure (some v)) (fun r s' => ∃ b, r = some (.bool (!b)) ∧ Q (some (.bool (!b))) s') E s := by
    refine wpAny_bind (wpAny_call (codeAny_call_builtin PySem.F.cmp_object.ne.plain PySem.F.cmpEntry_ne (check_slot PySem.F.cmpKind_ne PySem.F.cmpSplit_ne (I.type.andThen (looks_subIn X ho)) (PySem.F.cmpArgs_ne _ _)
      (objNe_K (A := A.in1) X I hs hf hu (wpAny_mono hcall (fun v s' hv => ?_) fun _ _ e => e)))))
    obtain ⟨b, rfl, hq⟩ := hv
    first | exact ⟨b, rfl, wpAny_pure ⟨b, rfl, hq⟩⟩ | exact ⟨b, rfl, wpAny_pure (wpAny_pure ⟨b, rfl, hq⟩)⟩ | exact ⟨b, rfl, ⟨b, rfl, hq⟩⟩
  simp only [tryCompare]
  refine wpAny_bind ?_
  simp only [callSpecialIfBound?, bindSpecialIfBound?]
  refine wpAny_holding (wpAny_bind (wpAny_bind (wpAny_bind (I.type.here ((looks_findIn X hn).here ?_)))))
  simp only [ne_bind]
  refine wpAny_bind (wpAny_askSetting (wpAny_ite ?_))
  have fin2 := wpAny_mono fin (Q' := fun r s' => wpAny (model prog w) A (match r with | some .notImplemented | none => pure none | some v => pure (some v)) Q E s') (fun r s' z => by
    obtain ⟨b, rfl, hq⟩ := z
    exact wpAny_pure hq) fun _ _ e => e
  split
  · exact wpAny_bind (wpAny_pure (wpAny_pure fin2))
  · exact wpAny_tryCatch (wpAny_bind (wpAny_pure (wpAny_pure fin2)))
theorem richNe_K (X : K.In s.heap) (I : InstAt s.heap x ox C od) (hy : Looks (model prog w) s.heap (typeOf (.ref y)) (.ref C)) (hs : findIn K (.ref C) "__eq__" = some (some (.ref f))) (hf : isFn K (.ref f) = true) (hn : findIn K (.ref C) "__ne__" = some (some (.builtin "object.__ne__"))) (ho : subIn K (.ref C) (.type "object") = some true)
    (hu : A.units + 1 < cLine) {Q : Value → Shared → Prop} (hcall : wpAny (model prog w) A.in1 (call (.ref f) [.ref x, .ref y]) (fun v s' => ∃ b, v = .bool b ∧ Q (.bool (!b)) s') E s) :
    wpAny (model prog w) A (richCompare .NotEq (.ref x) (.ref y)) Q E s := by
  unfold richCompare
  simp only [oneThing_ref]
  refine wpAny_holding ?_
  refine wpAny_bind (wpAny_cRoomFor (Nat.lt_of_succ_lt hu) ?_)
  rw [cmpInfo_NotEq]
  dsimp only
  refine wpAny_bind (I.type.here (wpAny_bind (hy.here ?_)))
  rw [show (Value.ref C != Value.ref C) = false from by simp]
  simp only [Bool.false_eq_true, if_false]
  refine wpAny_bind (wpAny_pure ?_)
  simp only [Bool.false_eq_true, if_false]
  refine wpAny_bind (tryNe_K X I hs hf hn ho hu (wpAny_mono hcall (fun v s' hv => ?_) fun _ _ e => e))
  obtain ⟨b, rfl, hq⟩ := hv
  first | exact ⟨b, rfl, wpAny_pure hq⟩ | exact ⟨b, rfl, wpAny_pure (wpAny_pure hq)⟩
end
structure NeM (K : PySem.W.Frag) (C : Addr) (g : Addr) : Prop extends EqM K C g where
  ne : PySem.W.findIn K (.ref C) "__ne__" = some (some (.builtin "object.__ne__"))
  ob : PySem.W.subIn K (.ref C) (.type "object") = some true
/-- x != y -/
def rNeB (D : Cmp) : R2 := fun x y H Q => ∃ b, D x y b H ∧ ∀ H', Ext H H' → Q (.bl (!b)) H'
theorem op_neB {X : Cx} {n : Nat} {CX : CXT} {C f : Addr} {fd : FuncData} {ps : List Str} {R : Addr → Addr → Bool → Hp → Prop} {E : XK} (M : NeM X.K C f) (F : FnOk X.prog X.w X.K X.mg X.base CX n f fd ps (spEqB R)) (hr : Room (n + 1) X.A) (hb : Binds X.K fd ps []) (hx : Passes CX X E) :
    OpR X (compareOp .NotEq) (rNeB (CIns C R)) := by
  intro pins s σ H x y v u Q I rx ry ⟨b, d, q⟩
  obtain ⟨a, c, dx, dy, fs, gs, ex, ey, ha, hc, hr'⟩ := d
  subst ex ey
  cases rx
  cases ry
  obtain ⟨_, J, _⟩ := ins_get I.hok ha
  obtain ⟨_, J', _⟩ := ins_get I.hok hc
  obtain ⟨_, J, _⟩ := J.look
  obtain ⟨_, J', _⟩ := J'.look
  have sb : Sub X n X.A.in1 := (Sub.in1 (n := n) ⟨hr, rfl⟩)
  show wpAny _ _ (richCompare .NotEq _ _) _ _ _
  refine richNe_K I.kIn J J'.type M.at_ M.fn M.ne M.ob (by have := hr.units; omega) ?_
  have sp : spEqB R [.ref a, .ref c] H (fun v H' => v = .bl b ∧ Ext H H') E := ⟨a, c, b, rfl, hr', fun H' e => ⟨rfl, e⟩⟩
  have e0 := I.env0
  have e1 : Env0 X.prog X.w X.K X.mg X.base X.A.in1 X.stack s H := ⟨sb.fr.trans e0.frames, e0.mod, e0.bs, e0.bsz, e0.funs, e0.frf, e0.hok, e0.bare⟩
  have two : [Value.ref a, Value.ref c].length = ps.length := F.len _ _ _ _ sp
  have bnd := hb s [.ref a, .ref c] I.kIn (by rw [List.append_nil]; exact two)
  rw [List.append_nil] at bnd
  refine wpAny_call (codeAny_mono (F.run X.A.in1 X.stack s H ⟨[.ref a, .ref c], []⟩ [.ref a, .ref c] [.ref a, .ref c] _ E sb.room e1 bnd (.cons rfl (.cons rfl .nil)) sp) fun r s' hq => ?_)
  cases r with
  | error z => exact hx pins σ H s z s' I hq
  | ok fl =>
    cases fl with
    | ret t =>
      obtain ⟨z, H', I', rz, ez, ext⟩ := I.after hq
      subst ez
      cases rz
      exact ⟨b, rfl, .bl (!b), H', I', rfl, q H' ext⟩
    | next => exact False.elim hq
    | brk => exact False.elim hq
    | cont => exact False.elim hq
end FsR

set_option Elab.async false
set_option linter.all false
set_option maxRecDepth 100000
set_option maxHeartbeats 4000000
/-! messages made, read, written, compared -/
namespace Fs
open PySem L2 Evl FsE FsC FsR FsP FsV FsG FsQ
def mF (k : Str) (t s : Int) (v : V) : List (Str × V) := [("kind", .str k), ("to", .int t), ("sender", .int s), ("body", v)]
def MsAt (CM : Addr) (H : Hp) (a : Addr) (k : Str) (t s : Int) (d : PyData) : Prop := ∃ dx v, H a = some (.ins CM dx (mF k t s v)) ∧ DaAt H v d
theorem MsAt.ex {CM : Addr} {H H' : Hp} (e : Ex H H') {a : Addr} {k : Str} {t s : Int} {d : PyData} (h : MsAt CM H a k t s d) : MsAt CM H' a k t s d := by
  obtain ⟨dx, v, h1, h2⟩ := h
  exact ⟨dx, v, e _ _ h1, h2.ex e⟩
structure MgT (K : PySem.W.Frag) (mg : Str → Option Value) (CM : Addr) : Prop where
  cl : Cls K CM
  mgM : mg "Message" = some (.ref CM)
  isi : mg "isinstance" = none
  ha : PySem.W.findIn K (.ref CM) "__class__" = some (some (.builtin "object.__class__"))
  hn : PySem.W.specialIn K (.builtin "object.__class__") "__get__" = some (some (.builtin "getset_descriptor.__get__"))
  htk : PySem.W.takesIn K (.builtin "object.__class__") = some true
  hm : PySem.W.mroIn K CM (.type "object") = some true
  nK : NoAttr K CM "kind"
  nT : NoAttr K CM "to"
  nS : NoAttr K CM "sender"
  nB : NoAttr K CM "body"
section
variable {k : Str} {t s : Int} {v : V}
theorem mf_kind : List.lookup ("kind" : Str) (mF k t s v) = some (.str k) := by
  unfold mF
  rw [List.lookup_cons, show (("kind" : Str) == "kind") = true from by decide +kernel]
theorem mf_to : List.lookup ("to" : Str) (mF k t s v) = some (.int t) := by
  unfold mF
  rw [List.lookup_cons, show (("to" : Str) == "kind") = false from by decide +kernel, List.lookup_cons, show (("to" : Str) == "to") = true from by decide +kernel]
theorem mf_sender : List.lookup ("sender" : Str) (mF k t s v) = some (.int s) := by
  unfold mF
  rw [List.lookup_cons, show (("sender" : Str) == "kind") = false from by decide +kernel, List.lookup_cons, show (("sender" : Str) == "to") = false from by decide +kernel, List.lookup_cons, show (("sender" : Str) == "sender") = true from by decide +kernel]
theorem mf_body : List.lookup ("body" : Str) (mF k t s v) = some v := by
  unfold mF
  rw [List.lookup_cons, show (("body" : Str) == "kind") = false from by decide +kernel, List.lookup_cons, show (("body" : Str) == "to") = false from by decide +kernel, List.lookup_cons, show (("body" : Str) == "sender") = false from by decide +kernel, List.lookup_cons, show (("body" : Str) == "body") = true from by decide +kernel]
theorem mf_no {m : Str} (h1 : (m == ("kind" : Str)) = false) (h2 : (m == ("to" : Str)) = false) (h3 : (m == ("sender" : Str)) = false) (h4 : (m == ("body" : Str)) = false) : List.lookup m (mF k t s v) = none := by
  unfold mF
  rw [List.lookup_cons, h1, List.lookup_cons, h2, List.lookup_cons, h3, List.lookup_cons, h4]
  rfl
theorem put_ne {x y : Str} {v u : V} {r : List (Str × V)} (h : ¬ y = x) : putF x v ((y, u) :: r) = (y, u) :: putF x v r := by
  show (if y = x then _ else _) = _
  rw [if_neg h]
end
/-! lengths -/
theorem join2 (s x : Str) : ∀ (r : List Str), r ≠ [] → Str.join s (x :: r) = x ++ s ++ Str.join s r
  | y :: r, _ => rfl
theorem join_le (s : Str) : ∀ ts : List Str, (Str.join s ts).length ≤ (ts.map (·.length)).sum + ts.length * s.length
  | [] => Nat.zero_le _
  | [x] => by
    show x.length ≤ (x.length + 0) + 1 * s.length
    omega
  | x :: y :: r => by
    have ih := join_le s (y :: r)
    rw [join2 s x (y :: r) (by simp), Str.length_append, Str.length_append]
    rw [List.map_cons, List.sum_cons, List.length_cons, Nat.add_mul, Nat.one_mul]
    omega
theorem sum_le_mul {n : Nat} : ∀ ts : List Str, (∀ t ∈ ts, t.length ≤ n) → (ts.map (·.length)).sum ≤ n * ts.length
  | [], _ => Nat.zero_le _
  | x :: r, h => by
    have ih := sum_le_mul r (fun t ht => h t (List.mem_cons_of_mem _ ht))
    have hx := h x (List.mem_cons_self ..)
    rw [List.map_cons, List.sum_cons, List.length_cons, Nat.mul_add, Nat.mul_one]
    omega
/-- what each token of a message is -/
def TkOk (t : Str) : Prop := t.length ≤ 95 ∧ (32 : Nat) ∉ t.cps.toList
theorem tk_i {n : Int} (h : iOk n) : TkOk (iS n) := ⟨Nat.le_trans (int_len h) (by decide), iS_free (by decide) (.inl (by decide))⟩
theorem tk_w {d : PyData} (h : WOk d) : TkOk (wS d) := ⟨w_len h, w_free h⟩
theorem tk_R {h : Int} {rs : List Rw} (ok : ∀ r ∈ rs, RwOk h r) : ∀ t ∈ toksR h rs, TkOk t := fun t ht => by
  obtain ⟨r, hr, ht⟩ := List.mem_flatMap.mp ht
  have o := ok r hr
  have s4 := o.ch.s4
  have t1 := o.t1
  have : t = iS r.p ∨ t = wS (chD h r.n r.s) ∨ t = iS r.t ∨ t = wS r.d := by simpa [tokR] using ht
  rcases this with rfl | rfl | rfl | rfl
  · exact tk_i (iok_6 o.p0 o.p6)
  · exact tk_w (.inr ⟨_, _, _, rfl, o.ch⟩)
  · exact tk_i (iok_6 o.t0 (by omega))
  · exact tk_w o.w
theorem tk_P {rs : List Pt} (ok : ∀ r ∈ rs, PtOk r) : ∀ t ∈ toksP rs, TkOk t := fun t ht => by
  obtain ⟨r, hr, ht⟩ := List.mem_flatMap.mp ht
  have o := ok r hr
  have : t = iS r.m ∨ t = iS r.u ∨ t = iS r.p ∨ t = wS r.d := by simpa [tokP] using ht
  rcases this with rfl | rfl | rfl | rfl
  · exact tk_i (iok_6 o.m0 o.m6)
  · exact tk_i (iok_n o.u0 o.u1)
  · exact tk_i (iok_6 o.p0 o.p6)
  · exact tk_w o.w
theorem tk_B {to from_ : Int} {b : Bd} (ok : BdOk to from_ b) : (∀ t ∈ b.toks to from_, TkOk t) ∧ (b.toks to from_).length ≤ 25 := by
  cases b with
  | heard f =>
    obtain ⟨f0, f1⟩ := ok
    exact ⟨fun t ht => by rw [List.mem_singleton.mp ht]; exact tk_i (iok_n f0 f1), by show 1 ≤ 25; decide⟩
  | one k f =>
    obtain ⟨_, f0, f1⟩ := ok
    exact ⟨fun t ht => by rw [List.mem_singleton.mp ht]; exact tk_i (iok_n (by omega) f1), by show 1 ≤ 25; decide⟩
  | ask f g =>
    obtain ⟨⟨f0, f1⟩, g0, g1⟩ := ok
    refine ⟨fun t ht => ?_, by show 2 ≤ 25; decide⟩
    have : t = iS f ∨ t = iS g := by simpa [Bd.toks] using ht
    rcases this with rfl | rfl
    · exact tk_i (iok_n (by omega) f1)
    · exact tk_i (iok_n g0 g1)
  | offers f rs =>
    obtain ⟨⟨f0, f1⟩, rok⟩ := ok
    refine ⟨fun t ht => ?_, ?_⟩
    · rcases List.mem_cons.mp ht with rfl | ht
      · exact tk_i (iok_n f0 f1)
      · exact tk_R rok.ok t ht
    · show (toksR to rs).length + 1 ≤ 25
      have := rok.len
      rw [toksR_len]
      omega
  | done f n s ps =>
    obtain ⟨⟨f0, f1⟩, pok⟩ := ok
    have s4 := pok.ch.s4
    refine ⟨fun t ht => ?_, ?_⟩
    · rcases List.mem_cons.mp ht with rfl | ht
      · exact tk_i (iok_n (by omega) f1)
      · rcases List.mem_cons.mp ht with rfl | ht
        · exact tk_w (.inr ⟨_, _, _, rfl, pok.ch⟩)
        · exact tk_P pok.ok t ht
    · show (toksP ps).length + 1 + 1 ≤ 25
      have := pok.len
      rw [toksP_len]
      omega
theorem tk_k {to from_ : Int} : ∀ {b : Bd}, BdOk to from_ b → TkOk b.kind
  | .heard _, _ => by show TkOk "heard"; exact ⟨by decide +kernel, by decide +kernel⟩
  | .one k _, h => by
    obtain ⟨h, _⟩ := h
    rcases h with rfl | rfl | rfl
    · show TkOk "yes"; exact ⟨by decide +kernel, by decide +kernel⟩
    · show TkOk "no"; exact ⟨by decide +kernel, by decide +kernel⟩
    · show TkOk "free"; exact ⟨by decide +kernel, by decide +kernel⟩
  | .ask _ _, _ => by show TkOk "ask"; exact ⟨by decide +kernel, by decide +kernel⟩
  | .offers _ _, _ => by show TkOk "offers"; exact ⟨by decide +kernel, by decide +kernel⟩
  | .done _ _ _ _, _ => by show TkOk "done"; exact ⟨by decide +kernel, by decide +kernel⟩
theorem tk_M {m : Msg} (ok : MsgOk m) : (∀ t ∈ m.toks, TkOk t) ∧ m.toks.length ≤ 28 := by
  obtain ⟨b1, b2⟩ := tk_B ok.b
  refine ⟨fun t ht => ?_, ?_⟩
  · rcases List.mem_cons.mp ht with rfl | ht
    · exact tk_k ok.b
    rcases List.mem_cons.mp ht with rfl | ht
    · exact tk_i (iok_6 ok.t0 ok.t6)
    rcases List.mem_cons.mp ht with rfl | ht
    · exact tk_i (iok_6 ok.f0 ok.f6)
    · exact b1 t ht
  · show (m.b.toks m.to m.from_).length + 1 + 1 + 1 ≤ 28
    omega
def Msg.text (m : Msg) : Str := Str.join spS m.toks
theorem sp1 : spS.length = 1 := by decide +kernel
theorem tx_sum {m : Msg} (ok : MsgOk m) : (m.toks.map (·.length)).sum + m.toks.length * spS.length ≤ 3000 := by
  obtain ⟨b1, b2⟩ := tk_M ok
  have h := sum_le_mul (n := 95) m.toks (fun t ht => (b1 t ht).1)
  rw [sp1]
  omega
theorem tx_len {m : Msg} (ok : MsgOk m) : m.text.length ≤ 3000 := Nat.le_trans (join_le _ _) (tx_sum ok)
theorem tx_split {m : Msg} (ok : MsgOk m) : Txt.split m.text spS = m.toks := split_tx (fun z => by cases z) (fun t ht => ((tk_M ok).1 t ht).2)
def spMg0 (CM : Addr) : Sp := fun vs H Q _ => ∃ (a dx : Addr) (k : Str) (t s : Int) (v : V) (d : PyData) (H0 : Hp), vs = [.ref a, .str k, .int t, .int s, v] ∧ H a = some (.ins CM dx []) ∧ H0 a = none ∧ Ex H0 H ∧ DaAt H0 v d ∧ ∀ H', Ex H0 H' → MsAt CM H' a k t s d → Q .non H'
def spMRd (CM : Addr) : Sp := fun vs H Q _ => ∃ m : Msg, vs = [.str m.text] ∧ MsgOk m ∧ ∀ a H', H a = none → Ex H H' → MsAt CM H' a m.kind m.to m.from_ m.body → Q (.ref a) H'
def spWr (CM : Addr) : Sp := fun vs H Q _ => ∃ (a : Addr) (m : Msg), vs = [.ref a] ∧ MsAt CM H a m.kind m.to m.from_ m.body ∧ MsgOk m ∧ RetV (.str m.text) H Q
/-- both answers of == -/
def RMs (CM : Addr) (a c : Addr) (b : Bool) (H : Hp) : Prop := ∃ (k : Str) (t s : Int) (d : PyData) (k' : Str) (t' s' : Int) (d' : PyData), MsAt CM H a k t s d ∧ MsAt CM H c k' t' s' d' ∧ SeqAt.shaped d = true ∧ SeqAt.shaped d' = true ∧ b = (decide (k = k') && decide (t = t') && decide (s = s') && PyData.eqv d d')
section
variable {P : Program} {w : World} {K : PySem.W.Frag} {mg : Str → Option Value} {base : Heap} {CR CM : Addr} {k d : Nat}
theorem kOwnM {K : PySem.W.Frag} {C : Addr} : PySem.W.kitOne K (.ref C) (.ref C) = some true := by
  unfold PySem.W.kitOne
  rw [if_pos (beq_self_eq_true _)]
theorem MgT.ty (T : MgT K mg CM) {H : Hp} {c dy : Addr} {fs : List (Str × V)} (hc : H c = some (.ins CM dy fs)) : ∀ H1, Ex H H1 → TyX K H1 (.ref c) (.ref CM) := fun H1 e => .base (.ins (e _ _ hc) T.cl T.ha T.hn T.htk T.hm)
theorem scMg0 : FnScope ["self", "kind", "to", "sender", "body"] ["self", "kind", "to", "sender", "body"] (defScope (inClass (topS 25) 0)) := ⟨rfl, rfl, rfl, by decide +kernel, rfl, by decide +kernel, by decide +kernel⟩
theorem ok_mg0 {f : Addr} {fd : FuncData} (F : Fun K "__init__" "Message.__init__" (inClass (topS 25) 0) f fd) (T : MgT K mg CM) : FnOk P w K mg base CX0 1 f fd ["self", "kind", "to", "sender", "body"] (spMg0 CM) := by
  refine F.ok scMg0 (fun vs H Q E h => ?_) (fun cdv A outer s H vs Q E hr h => ?_)
  · obtain ⟨a, dx, k, t, s9, v, d, H0, rfl, _⟩ := h
    rfl
  · obtain ⟨a, dx, k, t, s9, v, d, H0, rfl, ha, h0, e0, hd, q⟩ := h
    refine ⟨_, pss_cons (ps_fld (pv 0) (pv 1) rfl) (pss_cons (ps_fld (pv 0) (pv 2) rfl) (pss_cons (ps_fld (pv 0) (pv 3) rfl) (pss_one (ps_fld (pv 0) (pv 4) rfl)))), ?_⟩
    refine ⟨_, rfl, _, rfl, a, CM, dx, _, rfl, ha, T.cl, T.nK, by show 0 < 1000; decide, ?_⟩
    refine ⟨_, rfl, _, rfl, a, CM, dx, _, rfl, upd_same, T.cl, T.nT, by show 1 < 1000; decide, ?_⟩
    refine ⟨_, rfl, _, rfl, a, CM, dx, _, rfl, upd_same, T.cl, T.nS, ?_, ?_⟩
    · rw [show putF ("kind" : Str) (V.str k) [] = [(("kind" : Str), V.str k)] from rfl, put_ne (by decide +kernel)]
      show 2 < 1000
      decide
    refine ⟨_, rfl, _, rfl, a, CM, dx, _, rfl, upd_same, T.cl, T.nB, ?_, ?_⟩
    · rw [show putF ("kind" : Str) (V.str k) [] = [(("kind" : Str), V.str k)] from rfl, put_ne (by decide +kernel), show ∀ v, putF ("to" : Str) v [] = [(("to" : Str), v)] from fun _ => rfl, put_ne (by decide +kernel), put_ne (by decide +kernel)]
      show 3 < 1000
      decide
    have p1 : putF ("to" : Str) (.int t) (putF ("kind" : Str) (.str k) []) = [(("kind" : Str), V.str k), (("to" : Str), V.int t)] := put_ne (by decide +kernel)
    have p2 : putF ("sender" : Str) (.int s9) (putF ("to" : Str) (.int t) (putF ("kind" : Str) (.str k) [])) = [(("kind" : Str), V.str k), (("to" : Str), V.int t), (("sender" : Str), V.int s9)] := by
      rw [p1, put_ne (by decide +kernel), put_ne (by decide +kernel)]
      rfl
    have e1 : putF ("body" : Str) v (putF ("sender" : Str) (.int s9) (putF ("to" : Str) (.int t) (putF ("kind" : Str) (.str k) []))) = mF k t s9 v := by
      rw [p2, put_ne (by decide +kernel), put_ne (by decide +kernel), put_ne (by decide +kernel)]
      rfl
    rw [e1]
    have eo : Ex H0 (upd (upd (upd (upd H a (.ins CM dx (putF ("kind" : Str) (.str k) []))) a (.ins CM dx (putF ("to" : Str) (.int t) (putF ("kind" : Str) (.str k) [])))) a (.ins CM dx (putF ("sender" : Str) (.int s9) (putF ("to" : Str) (.int t) (putF ("kind" : Str) (.str k) []))))) a (.ins CM dx (mF k t s9 v))) := fun c o hc => by
      have hca : c ≠ a := fun z => by rw [z, h0] at hc; cases hc
      rw [upd_ne hca, upd_ne hca, upd_ne hca, upd_ne hca]
      exact e0 _ _ hc
    exact q _ eo ⟨dx, v, upd_same, hd.ex eo⟩
theorem scMRd : FnScope ["text", "kind", "to", "sender", "body"] ["text"] (defScope (inClass (topS 25) 1)) := ⟨rfl, rfl, rfl, by decide +kernel, rfl, by decide +kernel, by decide +kernel⟩
theorem ok_mrd {f : Addr} {fd : FuncData} (F : Fun K "read" "Message.read" (inClass (topS 25) 1) f fd) (T : RdT K mg CR) (MR : MakX P w K mg base CX0 2 "MessageReader" CR (spMR0 CR)) (MG : MakX P w K mg base CX0 1 "Message" CM (spMg0 CM)) (MT : MthX P w K mg base CR 9 "take_message" ["self"] (spTms CR)) : FnOk P w K mg base CX0 10 f fd ["text"] (spMRd CM) := by
  obtain ⟨ft, fdt, mt, okt, bt⟩ := MT
  refine F.ok (k := 9) scMRd (fun vs H Q E h => ?_) (fun cdv A outer s H vs Q E hr h => ?_)
  · obtain ⟨m, rfl, _⟩ := h
    rfl
  · obtain ⟨m, rfl, ok, q⟩ := h
    refine ⟨_, pss_cons (ps_asg (pe_meth0 (E := E0) (pe_mx (E := E0) MR hr (by decide) (by rfl) pass0 (pa_cons (pv 0) pa_nil)) T.cl mt okt hr bt .nil pass0) (pg_tup rfl (pgs_cons (pg_name (i := 1) scMRd.nd rfl (.inl rfl)) (pgs_cons (pg_name (i := 2) scMRd.nd rfl (.inl rfl)) (pgs_cons (pg_name (i := 3) scMRd.nd rfl (.inl rfl)) (pgs_cons (pg_name (i := 4) scMRd.nd rfl (.inl rfl)) pgs_nil))))))
      (pss_one (ps_ret (pe_mx (E := E0) MG hr (by decide) (by rfl) pass0 (pa_cons (pv 1) (pa_cons (pv 2) (pa_cons (pv 3) (pa_cons (pv 4) pa_nil))))))), ?_⟩
    have tl0 := tx_len ok
    refine ⟨_, rfl, fun r dx hr0 hdx hne => ?_⟩
    refine ⟨r, dx, m.text, H, rfl, upd_same, hr0, Ex.mut (Ex.new hdx) hr0, by omega, fun tl H1 e1 rd1 => ⟨rfl, ?_⟩⟩
    rw [tx_split ok] at rd1
    obtain ⟨dx1, g1, g2⟩ := id rd1
    refine ⟨r, dx1, _, rfl, g1, rd_no (by decide +kernel) (by decide +kernel) (by decide +kernel), r, tl, _, m, rfl, rd1, ok, fun a H2 e2 hd => ?_⟩
    have eE : Ex H H2 := ((ExA.of e1).trans e2).ex hr0
    obtain ⟨b, x1, x2, x3, x4, he, hb, d1, d2, d3, d4⟩ := DaAt.tup4 hd
    cases he
    have d1 := d1.str
    have d2 := d2.int
    have d3 := d3.int
    subst d1 d2 d3
    refine ⟨_, _, rfl, st_of hb, rfl, _, _, rfl, _, _, rfl, _, _, rfl, _, _, rfl, rfl, ?_⟩
    refine ⟨_, rfl, _, rfl, _, rfl, _, rfl, fun c dc hc hdc hnc => ?_⟩
    refine ⟨c, dc, m.kind, m.to, m.from_, x4, m.body, H2, rfl, upd_same, hc, Ex.mut (Ex.new hdc) hc, d4, fun H3 e3 hm => ⟨rfl, ?_⟩⟩
    exact q c H3 (fresh_back eE hc) (eE.trans e3) hm
theorem scWr : FnScope ["self"] ["self"] (defScope (inClass (topS 25) 2)) := ⟨rfl, rfl, rfl, by decide +kernel, rfl, by decide +kernel, by decide +kernel⟩
theorem ok_wr {f : Addr} {fd : FuncData} (F : Fun K "written" "Message.written" (inClass (topS 25) 2) f fd) (T : MgT K mg CM) (GI : CalX P w K mg base CX0 2 "int_text" (spIt True)) (GB : CalX P w K mg base CX0 6 "body_tokens" spBt) : FnOk P w K mg base CX0 7 f fd ["self"] (spWr CM) := by
  refine F.ok (k := 6) scWr (fun vs H Q E h => ?_) (fun cdv A outer s H vs Q E hr h => ?_)
  · obtain ⟨a, m, rfl, _⟩ := h
    rfl
  · obtain ⟨a, m, rfl, ⟨dx, v, ha, hd⟩, ok, q⟩ := h
    refine ⟨_, pss_one (ps_ret (pe_join pe_str (pe_op op_cat (pe_lst (pa_cons (pe_fld (pv 0) rfl) (pa_cons (pe_cx (E := fun _ => E0) GI hr (by decide) (by rfl) at0 (pa_cons (pe_fld (pv 0) rfl) pa_nil)) (pa_cons (pe_cx (E := fun _ => E0) GI hr (by decide) (by rfl) at0 (pa_cons (pe_fld (pv 0) rfl) pa_nil)) pa_nil)))) (pe_cx (E := fun _ => E0) GB hr (by decide) (by rfl) at0 (pa_cons (pe_fld (pv 0) rfl) (pa_cons (pe_fld (pv 0) rfl) pa_nil)))))), ?_⟩
    have b2 := (tk_B ok.b).2
    have hz := tx_sum ok
    refine s_ret (v := .str m.text) (ev_join (K := K) (a := spS) (ys := m.toks) ev_c (el_is (el_catLL (el_lst (vs := [.str m.kind, .str (iS m.to), .str (iS m.from_)]) (ea_cons (ev_fld (ev_var rfl) ha T.cl T.nK mf_kind) (ea_cons (ev_cx (ea_cons (ev_fld (ev_var rfl) ha T.cl T.nT mf_to) ea_nil) (fun H2 e2 Q2 q2 E2 => ⟨_, rfl, iok_6 ok.t0 ok.t6, fun _ => trivial, q2⟩)) (ea_cons (ev_cx (ea_cons (ev_fld (ev_var rfl) ha T.cl T.nS mf_sender) ea_nil) (fun H2 e2 Q2 q2 E2 => ⟨_, rfl, iok_6 ok.f0 ok.f6, fun _ => trivial, q2⟩)) ea_nil))) (by show 3 ≤ 100000; decide))
      (el_cx (xs := (m.b.toks m.to m.from_).map V.str) (ea_cons (ev_fld (ev_var rfl) ha T.cl T.nK mf_kind) (ea_cons (ev_fld (ev_var rfl) ha T.cl T.nB mf_body) ea_nil)) (fun H3 e3 Q3 q3 E3 => ⟨v, m.to, m.from_, m.b, rfl, hd.ex e3, ok.b, q3⟩)) (by show 3 + _ ≤ _; rw [List.length_map, sizeLine_eq]; omega)) rfl) (by omega)) q
theorem scMEq : FnScope ["self", "other"] ["self", "other"] (defScope (inClass (topS 25) 3)) := ⟨rfl, rfl, rfl, by decide +kernel, rfl, by decide +kernel, by decide +kernel⟩
theorem dec_str {x y : Str} : decide (V.str x = V.str y) = decide (x = y) := by
  rw [Bool.eq_iff_iff]
  simp
theorem dec_int {x y : Int} : decide (V.int x = V.int y) = decide (x = y) := by
  rw [Bool.eq_iff_iff]
  simp
theorem rv_eqDd {H : Hp} {x y : V} {d e : PyData} (hx : DaAt H x d) (hy : DaAt H y e) (sd : SeqAt.shaped d = true) (se : SeqAt.shaped e = true) : RV (rEqD K) x y H (.bl (PyData.eqv d e)) := fun H1 e1 Q q => ⟨d, e, dp_da (hx.ex e1), dp_da (hy.ex e1), sd, se, q H1 (Ex.refl H1)⟩
theorem ok_meq {f : Addr} {fd : FuncData} (F : Fun K "__eq__" "Message.__eq__" (inClass (topS 25) 3) f fd) (T : MgT K mg CM) : FnOk P w K mg base CX0 1 f fd ["self", "other"] (spEqB (RMs CM)) := by
  refine F.ok scMEq (fun vs H Q E h => ?_) (fun cdv A outer s H vs Q E hr h => ?_)
  · obtain ⟨a, c, b, rfl, _⟩ := h
    rfl
  · obtain ⟨a, c, b, rfl, ⟨k1, t1, s1, d1, k2, t2, s2, d2, ⟨dx, v1, ha, hd1⟩, ⟨dy, v2, hc, hd2⟩, sh1, sh2, rfl⟩, q⟩ := h
    refine ⟨_, pss_one (ps_ret (pe_and (pe_callB (id := "isinstance") (r := rIsi K) call_isi (by rfl) T.isi (by decide +kernel) (pa_cons (pv 1) (pa_cons (pe_glob (v := .ref CM) (by rfl) T.mgM rfl) pa_nil)))
      (pe_and (pe_cmpR op_eq (pe_fld (pv 0) rfl) (pe_fld (pv 1) rfl) (nomark _)) (pe_and (pe_cmpR op_eq (pe_fld (pv 0) rfl) (pe_fld (pv 1) rfl) (nomark _)) (pe_and (pe_cmpR op_eq (pe_fld (pv 0) rfl) (pe_fld (pv 1) rfl) (nomark _)) (pe_one (pe_cmpR (op_eqD hr.units) (pe_fld (pv 0) rfl) (pe_fld (pv 1) rfl) (nomark _)))))))), ?_⟩
    refine s_ret (ev_is (ev_andV (a := true) (b := decide (k1 = k2) && (decide (t1 = t2) && (decide (s1 = s2) && PyData.eqv d1 d2))) (ev_cb (ea_cons (ev_var rfl) (ea_cons ev_c ea_nil)) (rc_isiOwn (T.ty hc) kOwnM))
      (fun _ => ev_andV (ev_is (ev_op (x := .str k1) (y := .str k2) (ev_fld (ev_var rfl) ha T.cl T.nK mf_kind) (ev_fld (ev_var rfl) hc T.cl T.nK mf_kind) (rv_eq rfl)) (by rw [dec_str]))
        (fun _ => ev_andV (ev_is (ev_op (x := .int t1) (y := .int t2) (ev_fld (ev_var rfl) ha T.cl T.nT mf_to) (ev_fld (ev_var rfl) hc T.cl T.nT mf_to) (rv_eq rfl)) (by rw [dec_int]))
          (fun _ => ev_andV (ev_is (ev_op (x := .int s1) (y := .int s2) (ev_fld (ev_var rfl) ha T.cl T.nS mf_sender) (ev_fld (ev_var rfl) hc T.cl T.nS mf_sender) (rv_eq rfl)) (by rw [dec_int]))
            (fun _ => ev_op (ev_fld (ev_var rfl) ha T.cl T.nB mf_body) (ev_fld (ev_var rfl) hc T.cl T.nB mf_body) (rv_eqDd hd1 hd2 sh1 sh2)))))) (by simp only [Bool.true_and, Bool.and_assoc])) (fun H1 e1 => q H1 e1)
end
end Fs

set_option Elab.async false
set_option linter.all false
set_option maxRecDepth 100000
set_option maxHeartbeats 4000000
/-! the law's written form -/
namespace Fs
open PySem L2 Evl FsE FsC FsR FsP FsV FsG FsQ
theorem q_extL {σ : L2.St} {H : Hp} {ta te : TE} {l : Addr} {xs ys : List V} {tz : TS} {D : Ends} {K : PySem.W.Frag} (hl : H l = some (.lst xs)) (ha : Ev ta σ H (.ref l)) (h : EvL te σ H ys) (hz : xs.length + ys.length ≤ sizeLine) (k : ∀ H1, Ex H H1 → tz D σ (upd H1 l (.lst (xs ++ ys)))) :
    tSeq (tDrop (tBM K "list" rExtend ta (tCons te tNil))) tz D σ H := ha H (Ex.refl H) _ fun H1 e1 =>
  ⟨Or.inl ⟨rfl, xs, sq_of (e1 l _ hl)⟩, h H1 e1 _ fun p H2 hp e2 h2 => ⟨l, p, xs, ys, rfl, rfl, e2 l _ (e1 l _ hl), h2, hz, k H2 (e1.trans e2)⟩⟩
theorem s_extL {σ : L2.St} {H : Hp} {ta te : TE} {l : Addr} {xs ys : List V} {D : Ends} {K : PySem.W.Frag} (hl : H l = some (.lst xs)) (ha : Ev ta σ H (.ref l)) (h : EvL te σ H ys) (hz : xs.length + ys.length ≤ sizeLine) (k : ∀ H1, Ex H H1 → D.nx σ (upd H1 l (.lst (xs ++ ys)))) :
    tDrop (tBM K "list" rExtend ta (tCons te tNil)) D σ H := ha H (Ex.refl H) _ fun H1 e1 =>
  ⟨Or.inl ⟨rfl, xs, sq_of (e1 l _ hl)⟩, h H1 e1 _ fun p H2 hp e2 h2 => ⟨l, p, xs, ys, rfl, rfl, e2 l _ (e1 l _ hl), h2, hz, k H2 (e1.trans e2)⟩⟩
def spWord : Sp := fun vs H Q _ => ∃ (v : V) (d : PyData), vs = [v] ∧ DaAt H v d ∧ WOk d ∧ RetV (.str (wS d)) H Q
def spLwr : Sp := fun vs H Q _ => ∃ (v : V) (m : Msg), vs = [.str m.kind, .int m.to, .int m.from_, v] ∧ DaAt H v m.body ∧ MsgOk m ∧ RetV (.str m.text) H Q
section
variable {P : Program} {w : World} {K : PySem.W.Frag} {mg : Str → Option Value} {base : Heap} {CR CM : Addr} {k d : Nat}
theorem scWord : FnScope ["_law_value", "_law_one"] ["_law_value"] (defScope (topS 32)) := ⟨rfl, rfl, rfl, by decide +kernel, rfl, by decide +kernel, by decide +kernel⟩
theorem ok_word {f : Addr} {fd : FuncData} (F : Fun K "_law_word" "_law_word" (topS 32) f fd) (T : BasT K mg) : FnOk P w K mg base CX0 1 f fd ["_law_value"] spWord := by
  refine F.ok scWord (fun vs H Q E h => ?_) (fun cdv A outer s H vs Q E hr h => ?_)
  · obtain ⟨v, d, rfl, _⟩ := h
    rfl
  · obtain ⟨v, d, rfl, hv, ok, q⟩ := h
    refine ⟨_, pss_cons (ps_if (pt_val (pe_callB (id := "isinstance") (r := rIsi K) call_isi (by rfl) T.isinst (by decide +kernel) (pa_cons (pv 0) (pa_cons (pe_bltn (v := .ty "tuple") (by rfl) T.tuple (by decide +kernel) rfl) pa_nil))))
        (pss_one (ps_ret (pe_join pe_str (pe_lc (own := [("_law_one", 1)]) (g := gName 1) (tt := tYes) rfl scWord.nd (pi_tup (pv 0)) (blkOk_by (own := [("_law_one", 1)]) (N := ["_law_value", "_law_one"]) (sc := defScope (topS 32)) (by decide +kernel))
      (fun _ _ _ _ _ => pg_name (i := 1) scWord.nd rfl (Or.inl rfl)) (fun _ _ _ _ _ => pts_nil) (fun _ _ _ _ _ => pe_callTy call_strX (by rfl) T.str (by decide +kernel) (pa_cons (pv 1) pa_nil)))))) pss_nil)
      (pss_one (ps_ret (pe_callTy call_strX (by rfl) T.str (by decide +kernel) (pa_cons (pv 0) pa_nil)))), ?_⟩
    rcases ok with ⟨i, rfl, hi⟩ | ⟨h, n, s9, rfl, ok⟩
    · obtain rfl := hv.int
      refine q_when (b := false) (et_B (ev_cb (ea_cons (ev_var rfl) (ea_cons ev_c ea_nil)) (rc_isInt (by decide +kernel)))) (fun z => nomatch z) (fun _ H1 e1 => ?_)
      exact s_ret (v := .str (iS i)) (ev_cb (ea_cons (ev_var rfl) ea_nil) (rc_strI hi)) (fun H2 e2 => q H2 (e1.trans e2))
    · obtain ⟨a, xs, rfl, ha, hx⟩ := hv.tup
      refine q_when (b := true) (et_B (ev_cb (ea_cons (ev_var rfl) (ea_cons ev_c ea_nil)) (rc_isi (t := "tuple") (fun H2 e2 => .base (.tup (e2 _ _ ha))) (by decide +kernel)))) (fun _ H1 e1 => ?_) (fun z => nomatch z)
      refine s_ret (v := .str (wS (chD h n s9))) (ev_join (K := K) (a := ":") (ys := [iS h, iS n, iS s9]) ev_c (el_lcTy (K := K) (xs := xs) (ys := [.str (iS h), .str (iS n), .str (iS s9)]) (ev_var rfl) (st_of (e1 _ _ ha)) (by rw [hx.length]; show 3 ≤ 40000; decide) (fun _ => rfl) (by rw [hx.length]; rfl) (fun i x y H2 e2 hi hy => ?_)) (join_len3 (int_len ok.ih) (int_len ok.inn) (int_len ok.is))) (fun H2 e2 => q H2 (e1.trans e2))
      have one : ∀ {z : Int}, x = .int z → y = .str (iS z) → iOk z → Ev (tCB rStr (tCons (tVar 1) tNil)) [some (.ref a), some x] H2 y := fun {z} hx' hy' hz => by
        subst hx' hy'
        exact ev_cb (ea_cons (ev_var rfl) ea_nil) (rc_strI hz)
      match i, hi, hy with
      | 0, hi, hy =>
        obtain ⟨d, hd, hda⟩ := hx.got hi
        cases hd
        exact one hda.int (Option.some.inj hy).symm ok.ih
      | 1, hi, hy =>
        obtain ⟨d, hd, hda⟩ := hx.got hi
        cases hd
        exact one hda.int (Option.some.inj hy).symm ok.inn
      | 2, hi, hy =>
        obtain ⟨d, hd, hda⟩ := hx.got hi
        cases hd
        exact one hda.int (Option.some.inj hy).symm ok.is
      | i + 3, hi, hy => exact absurd hy (by simp)
theorem unp4 {σ : L2.St} {H : Hp} {t : Addr} {x1 x2 x3 x4 : V} {i1 i2 i3 i4 : Nat} {Q : L2.St → Hp → Prop} (h1 : H t = some (.tup [x1, x2, x3, x4])) (σ' : L2.St) (hσ : (((σ.set i1 (some x1)).set i2 (some x2)).set i3 (some x3)).set i4 (some x4) = σ') (k : Q σ' H) : gTup K 4 (gCons (gName i1) (gCons (gName i2) (gCons (gName i3) (gCons (gName i4) gNil)))) (.ref t) σ H Q := by
  subst hσ
  exact ⟨t, _, rfl, st_of h1, rfl, _, _, rfl, _, _, rfl, _, _, rfl, _, _, rfl, rfl, k⟩
abbrev nsLwr : List Str := ["_law_kind", "_law_to", "_law_sender", "_law_body", "_law_words", "_law_place", "_law_channel", "_law_seat", "_law_value", "_law_machine", "_law_turn"]
theorem scLwr : FnScope nsLwr ["_law_kind", "_law_to", "_law_sender", "_law_body"] (defScope (topS 33)) := ⟨rfl, rfl, rfl, by decide +kernel, rfl, by decide +kernel, by decide +kernel⟩
theorem ev_word {E : L2.St → XK} {σ : L2.St} {H : Hp} {te : TE} {x : V} {d : PyData} (h : Ev te σ H x) (hd : DaAt H x d) (ok : WOk d) : Ev (tCallS spWord E (tCons te tNil)) σ H (.str (wS d)) := ev_cx (ea_cons h ea_nil) (fun H2 e2 Q2 q2 E2 => ⟨x, d, rfl, hd.ex e2, ok, q2⟩)
theorem ok_lwr {f : Addr} {fd : FuncData} (F : Fun K "_law_written" "_law_written" (topS 33) f fd) (T : BasT K mg) (GW : CalX P w K mg base CX0 1 "_law_word" spWord) : FnOk P w K mg base CX0 2 f fd ["_law_kind", "_law_to", "_law_sender", "_law_body"] spLwr := by
  refine F.ok (k := 1) scLwr (fun vs H Q E h => ?_) (fun cdv A outer s H vs Q E hr h => ?_)
  · obtain ⟨v, m, rfl, _⟩ := h
    rfl
  · obtain ⟨v, m, rfl, hv, ok, q⟩ := h
    refine ⟨_, pss_cons (ps_set (i := 4) scLwr.nd rfl (Or.inl rfl) (pe_lst (pa_cons (pv 0) (pa_cons (pe_callTy call_strX (by rfl) T.str (by decide +kernel) (pa_cons (pv 1) pa_nil)) (pa_cons (pe_callTy call_strX (by rfl) T.str (by decide +kernel) (pa_cons (pv 2) pa_nil)) (pa_cons (pe_callTy call_strX (by rfl) T.str (by decide +kernel) (pa_cons (pe_ix ix_tup (pv 3) pe_int (fun _ _ => rfl)) pa_nil)) pa_nil))))))
      (pss_cons (ps_if (pt_cmpR op_eq (pv 0) pe_str (nomark _)) (pss_one (ps_for PassesOwn.never rfl (pi_tup (pe_ix ix_tup (pv 3) pe_int (fun _ _ => rfl))) (pg_tup rfl (pgs_cons (pg_name (i := 5) scLwr.nd rfl (.inl rfl)) (pgs_cons (pg_name (i := 6) scLwr.nd rfl (.inl rfl)) (pgs_cons (pg_name (i := 7) scLwr.nd rfl (.inl rfl)) (pgs_cons (pg_name (i := 8) scLwr.nd rfl (.inl rfl)) pgs_nil)))))
          (pss_one (ps_expr (pe_bm PySem.F.plainAttrs_list PySem.F.slot_list_extend PySem.F.type_list_extend mt_extend (pv 4) (pa_cons (pe_lst (pa_cons (pe_callTy call_strX (by rfl) T.str (by decide +kernel) (pa_cons (pv 5) pa_nil)) (pa_cons (pe_cx (E := fun _ => E0) GW hr (by decide) (by rfl) at0 (pa_cons (pv 6) pa_nil)) (pa_cons (pe_callTy call_strX (by rfl) T.str (by decide +kernel) (pa_cons (pv 7) pa_nil)) (pa_cons (pe_cx (E := fun _ => E0) GW hr (by decide) (by rfl) at0 (pa_cons (pv 8) pa_nil)) pa_nil))))) pa_nil)))))) pss_nil)
      (pss_cons (ps_if (pt_cmpR op_eq (pv 0) pe_str (nomark _)) (pss_cons (ps_expr (pe_bm PySem.F.plainAttrs_list PySem.F.slot_list_append PySem.F.type_list_append mt_append (pv 4) (pa_cons (pe_cx (E := fun _ => E0) GW hr (by decide) (by rfl) at0 (pa_cons (pe_ix ix_tup (pe_ix ix_tup (pv 3) pe_int (fun _ _ => rfl)) pe_int (fun _ _ => rfl)) pa_nil)) pa_nil)))
        (pss_one (ps_for PassesOwn.never rfl (pi_tup (pe_ix ix_tup (pe_ix ix_tup (pv 3) pe_int (fun _ _ => rfl)) pe_int (fun _ _ => rfl))) (pg_tup rfl (pgs_cons (pg_name (i := 9) scLwr.nd rfl (.inl rfl)) (pgs_cons (pg_name (i := 10) scLwr.nd rfl (.inl rfl)) (pgs_cons (pg_name (i := 5) scLwr.nd rfl (.inl rfl)) (pgs_cons (pg_name (i := 8) scLwr.nd rfl (.inl rfl)) pgs_nil)))))
          (pss_one (ps_expr (pe_bm PySem.F.plainAttrs_list PySem.F.slot_list_extend PySem.F.type_list_extend mt_extend (pv 4) (pa_cons (pe_lst (pa_cons (pe_callTy call_strX (by rfl) T.str (by decide +kernel) (pa_cons (pv 9) pa_nil)) (pa_cons (pe_callTy call_strX (by rfl) T.str (by decide +kernel) (pa_cons (pv 10) pa_nil)) (pa_cons (pe_callTy call_strX (by rfl) T.str (by decide +kernel) (pa_cons (pv 5) pa_nil)) (pa_cons (pe_cx (E := fun _ => E0) GW hr (by decide) (by rfl) at0 (pa_cons (pv 8) pa_nil)) pa_nil))))) pa_nil))))))) pss_nil)
      (pss_cons (ps_if (pt_cmpR op_eq (pv 0) pe_str (nomark _)) (pss_one (ps_expr (pe_bm PySem.F.plainAttrs_list PySem.F.slot_list_append PySem.F.type_list_append mt_append (pv 4) (pa_cons (pe_callTy call_strX (by rfl) T.str (by decide +kernel) (pa_cons (pe_ix ix_tup (pv 3) pe_int (fun _ _ => rfl)) pa_nil)) pa_nil)))) pss_nil)
      (pss_one (ps_ret (pe_join pe_str (pv 4))))))), ?_⟩
    have hz := tx_sum ok
    have fin : ∀ {H1 : Hp} {l : Addr} {o5 o6 o7 o8 o9 o10 : Option V} {D : Ends}, H1 l = some (.lst (m.toks.map V.str)) → (∀ H2, Ex H1 H2 → D.rt (.str m.text) H2) → tRet (tM1 (rJ K) (tC (.str " ")) (tVar 4)) D [some (.str m.kind), some (.int m.to), some (.int m.from_), some v, some (.ref l), o5, o6, o7, o8, o9, o10] H1 := fun {H1 l o5 o6 o7 o8 o9 o10 D} h1 hq => s_ret (v := .str m.text) (ev_joinV (K := K) (a := spS) (ys := m.toks) ev_c (ev_var rfl) h1 (by omega)) hq
    have words : ∀ {a : Addr} {f : Int} {r : List V}, v = .ref a → H a = some (.tup (.int f :: r)) → iOk f → EvL (tLst (tCons (tVar 0) (tCons (tCB rStr (tCons (tVar 1) tNil)) (tCons (tCB rStr (tCons (tVar 2) tNil)) (tCons (tCB rStr (tCons (tOp (rIxT K) (tVar 3) (tC (.int 0))) tNil)) tNil))))) [some (.str m.kind), some (.int m.to), some (.int m.from_), some v, none, none, none, none, none, none, none] H [.str m.kind, .str (iS m.to), .str (iS m.from_), .str (iS f)] := fun {a f r} hva ha hf => by
      subst hva
      exact el_lst (ea_cons (ev_var rfl) (ea_cons (ev_cb (ea_cons (ev_var rfl) ea_nil) (rc_strI (iok_6 ok.t0 ok.t6))) (ea_cons (ev_cb (ea_cons (ev_var rfl) ea_nil) (rc_strI (iok_6 ok.f0 ok.f6))) (ea_cons (ev_cb (ea_cons (ev_op (ev_var rfl) ev_c (rv_ixT (K := K) (i := 0) (st_of ha) (atI_nat (j := 0) rfl))) ea_nil) (rc_strI hf)) ea_nil)))) (by show 4 ≤ 100000; decide)
    obtain ⟨to, from_, b⟩ := m
    have okb := ok.b
    cases b with
    | heard fst =>
      obtain ⟨f0, f1⟩ := okb
      obtain ⟨a, xs, hva, ha, hx⟩ := hv.tup
      unfold DaL at hx
      obtain ⟨x1, r1, rfl, g1, hx⟩ := hx
      have g1 := g1.int
      subst g1
      refine q_asgL (words hva ha (iok_n f0 f1)) (fun l H1 hl e1 h1 => ?_)
      refine q_when (b := false) (et_kind (z := "heard") (i := 0) rfl (by decide +kernel)) (fun z => nomatch z) (fun _ H2 e2 => ?_)
      refine q_when (b := false) (et_kind (z := "heard") (i := 0) rfl (by decide +kernel)) (fun z => nomatch z) (fun _ H3 e3 => ?_)
      refine q_when (b := false) (et_kind (z := "heard") (i := 0) rfl (by decide +kernel)) (fun z => nomatch z) (fun _ H4 e4 => ?_)
      exact fin (((e2.trans e3).trans e4) _ _ h1) (fun H5 e5 => q H5 ((((e1.trans e2).trans e3).trans e4).trans e5))
    | one kd fst =>
      obtain ⟨hk, f0, f1⟩ := okb
      obtain ⟨a, xs, hva, ha, hx⟩ := hv.tup
      unfold DaL at hx
      obtain ⟨x1, r1, rfl, g1, hx⟩ := hx
      have g1 := g1.int
      subst g1
      have ne : decide (V.str kd = V.str "offers") = false ∧ decide (V.str kd = V.str "done") = false ∧ decide (V.str kd = V.str "ask") = false := by
        rcases hk with rfl | rfl | rfl <;> decide +kernel
      refine q_asgL (words hva ha (iok_n (by omega) f1)) (fun l H1 hl e1 h1 => ?_)
      refine q_when (b := false) (et_kind (z := kd) (i := 0) rfl ne.1) (fun z => nomatch z) (fun _ H2 e2 => ?_)
      refine q_when (b := false) (et_kind (z := kd) (i := 0) rfl ne.2.1) (fun z => nomatch z) (fun _ H3 e3 => ?_)
      refine q_when (b := false) (et_kind (z := kd) (i := 0) rfl ne.2.2) (fun z => nomatch z) (fun _ H4 e4 => ?_)
      exact fin (((e2.trans e3).trans e4) _ _ h1) (fun H5 e5 => q H5 ((((e1.trans e2).trans e3).trans e4).trans e5))
    | ask fst snd =>
      obtain ⟨⟨f0, f1⟩, g0, g1⟩ := okb
      obtain ⟨a, x1, x2, hva, ha, h1', h2'⟩ := DaAt.tup2 hv
      have h1' := h1'.int
      have h2' := h2'.int
      subst h1' h2'
      refine q_asgL (words hva ha (iok_n (by omega) f1)) (fun l H1 hl e1 h1 => ?_)
      subst hva
      refine q_when (b := false) (et_kind (z := "ask") (i := 0) rfl (by decide +kernel)) (fun z => nomatch z) (fun _ H2 e2 => ?_)
      refine q_when (b := false) (et_kind (z := "ask") (i := 0) rfl (by decide +kernel)) (fun z => nomatch z) (fun _ H3 e3 => ?_)
      refine q_when (b := true) (et_kind (z := "ask") (i := 0) rfl (by decide +kernel)) (fun _ H4 e4 => ?_) (fun z => nomatch z)
      have e24 := (e2.trans e3).trans e4
      refine s_app (v := .str (iS snd)) (e24 _ _ h1) (ev_var rfl) (ev_cb (ea_cons (ev_op (ev_var rfl) ev_c (rv_ixT (K := K) (i := 1) (st_of ((e1.trans e24) _ _ ha)) (atI_nat (j := 1) rfl))) ea_nil) (rc_strI (iok_n g0 g1))) (by show 4 < 100000; decide) (fun H5 e5 => ?_)
      exact fin upd_same (fun H6 e6 => q H6 ((Ex.mut ((e1.trans e24).trans e5) hl).trans e6))
    | offers fst rs =>
      obtain ⟨⟨f0, f1⟩, rok⟩ := okb
      obtain ⟨a, x1, x2, hva, ha, h1', h2'⟩ := DaAt.tup2 hv
      have h1' := h1'.int
      subst h1'
      obtain ⟨b, xs, rfl, hb, hx⟩ := h2'.tup
      have xl : xs.length = rs.length := by rw [hx.length, List.length_map]
      have l6 := rok.len
      refine q_asgL (words hva ha (iok_n f0 f1)) (fun l H1 hl e1 h1 => ?_)
      subst hva
      refine q_when (b := true) (et_kind (z := "offers") (i := 0) rfl (by decide +kernel)) (fun _ H2 e2 => ?_) (fun z => nomatch z)
      have e12 := e1.trans e2
      refine s_forT (a := b) (xs := xs) (ev_op (ev_var rfl) ev_c (rv_ixT (K := K) (i := 1) (st_of (e12 _ _ ha)) (atI_nat (j := 1) rfl))) (st_of (e12 _ _ hb)) (fun i σ' H' => ∃ o5 o6 o7 o8 : Option V, σ' = [some (.str "offers"), some (.int to), some (.int from_), some (.ref a), some (.ref l), o5, o6, o7, o8, none, none] ∧ H' l = some (.lst ((("offers" : Str) :: iS to :: iS from_ :: iS fst :: toksR to (rs.take i)).map V.str)) ∧ Ex H H') (fun H3 e3 => ⟨_, _, _, _, rfl, by rw [List.take_zero]; exact (e2.trans e3) _ _ h1, e12.trans e3⟩)
        (fun i σ' H' _ ⟨_, _, _, _, _, _, he⟩ => st_of (he _ _ hb)) (fun i x σ' H' hi ⟨o5, o6, o7, o8, hσ, hl', he⟩ => ?_) (fun σ' H' ⟨o5, o6, o7, o8, hσ, hl', he⟩ => ?_)
      · subst hσ
        obtain ⟨dd, hdd, hda⟩ := hx.got hi
        rw [List.getElem?_map] at hdd
        obtain ⟨r, hrs⟩ : ∃ r, rs[i]? = some r := by
          cases hq : rs[i]? with
          | none => rw [hq] at hdd; cases hdd
          | some r => exact ⟨r, rfl⟩
        rw [hrs] at hdd
        cases hdd
        have rk := rok.ok r (List.mem_of_getElem? hrs)
        have s4 := rk.ch.s4
        have t1 := rk.t1
        obtain ⟨c, y1, y2, y3, y4, rfl, hc, d1, d2, d3, d4⟩ := DaAt.tup4 (hda.ex he)
        have d1 := d1.int
        have d3 := d3.int
        subst d1 d3
        refine unp4 hc [some (.str "offers"), some (.int to), some (.int from_), some (.ref a), some (.ref l), some (.int r.p), some y2, some (.int r.t), some y4, none, none] rfl ?_
        refine s_extL (K := K) (ys := (tokR to r).map V.str) hl' (ev_var rfl) (el_lst (ea_cons (ev_cb (ea_cons (ev_var rfl) ea_nil) (rc_strI (iok_6 rk.p0 rk.p6))) (ea_cons (ev_word (ev_var rfl) d2 (.inr ⟨_, _, _, rfl, rk.ch⟩)) (ea_cons (ev_cb (ea_cons (ev_var rfl) ea_nil) (rc_strI (iok_6 rk.t0 (by omega)))) (ea_cons (ev_word (ev_var rfl) d4 rk.w) ea_nil)))) (by show 4 ≤ 100000; decide)) (by
          rw [List.length_map]
          show (toksR to (rs.take i)).length + 1 + 1 + 1 + 1 + 4 ≤ sizeLine
          rw [toksR_len, List.length_take, sizeLine_eq]
          omega) (fun H3 e3 => ⟨_, _, _, _, rfl, ?_, Ex.mut (he.trans e3) hl⟩)
        rw [List.take_add_one, hrs, show toksR to (rs.take i ++ (some r).toList) = toksR to (rs.take i) ++ tokR to r from by simp [toksR], ← List.map_append]
        exact upd_same
      · subst hσ
        rw [xl, List.take_length] at hl'
        refine q_when (b := false) (et_kind (z := "offers") (i := 0) rfl (by decide +kernel)) (fun z => nomatch z) (fun _ H3 e3 => ?_)
        refine q_when (b := false) (et_kind (z := "offers") (i := 0) rfl (by decide +kernel)) (fun z => nomatch z) (fun _ H4 e4 => ?_)
        exact fin ((e3.trans e4) _ _ hl') (fun H5 e5 => q H5 (((he.trans e3).trans e4).trans e5))
    | done fst n s9 ps =>
      obtain ⟨⟨f0, f1⟩, pok⟩ := okb
      obtain ⟨a, x1, x2, hva, ha, h1', h2'⟩ := DaAt.tup2 hv
      have h1' := h1'.int
      subst h1'
      obtain ⟨c, y1, y2, rfl, hc, hch, h3'⟩ := DaAt.tup2 h2'
      obtain ⟨b, xs, rfl, hb, hx⟩ := h3'.tup
      have xl : xs.length = ps.length := by rw [hx.length, List.length_map]
      have l4 : ps.length ≤ 4 := by rw [pok.len]; have := pok.ch.s4; omega
      refine q_asgL (words hva ha (iok_n (by omega) f1)) (fun l H1 hl e1 h1 => ?_)
      subst hva
      refine q_when (b := false) (et_kind (z := "done") (i := 0) rfl (by decide +kernel)) (fun z => nomatch z) (fun _ H2 e2 => ?_)
      refine q_when (b := true) (et_kind (z := "done") (i := 0) rfl (by decide +kernel)) (fun _ H3 e3 => ?_) (fun z => nomatch z)
      have e13 := (e1.trans e2).trans e3
      refine q_app (v := .str (wS (chD from_ n s9))) ((e2.trans e3) _ _ h1) (ev_var rfl) (ev_word (ev_op (ev_op (ev_var rfl) ev_c (rv_ixT (K := K) (i := 1) (st_of (e13 _ _ ha)) (atI_nat (j := 1) rfl))) ev_c (rv_ixT (K := K) (i := 0) (st_of (e13 _ _ hc)) (atI_nat (j := 0) rfl))) (hch.ex e13) (.inr ⟨_, _, _, rfl, pok.ch⟩)) (by show 4 < 100000; decide) (fun H4 e4 => ?_)
      have e14 := Ex.mut (o := .lst ([V.str "done", V.str (iS to), V.str (iS from_), V.str (iS fst)] ++ [V.str (wS (chD from_ n s9))])) (e13.trans e4) hl
      refine s_forT (a := b) (xs := xs) (ev_op (ev_op (ev_var rfl) ev_c (rv_ixT (K := K) (i := 1) (st_of (e14 _ _ ha)) (atI_nat (j := 1) rfl))) ev_c (rv_ixT (K := K) (i := 1) (st_of (e14 _ _ hc)) (atI_nat (j := 1) rfl))) (st_of (e14 _ _ hb)) (fun i σ' H' => ∃ o5 o8 o9 o10 : Option V, σ' = [some (.str "done"), some (.int to), some (.int from_), some (.ref a), some (.ref l), o5, none, none, o8, o9, o10] ∧ H' l = some (.lst ((("done" : Str) :: iS to :: iS from_ :: iS fst :: wS (chD from_ n s9) :: toksP (ps.take i)).map V.str)) ∧ Ex H H') (fun H5 e5 => ⟨_, _, _, _, rfl, by rw [List.take_zero]; exact e5 _ _ upd_same, e14.trans e5⟩)
        (fun i σ' H' _ ⟨_, _, _, _, _, _, he⟩ => st_of (he _ _ hb)) (fun i x σ' H' hi ⟨o5, o8, o9, o10, hσ, hl', he⟩ => ?_) (fun σ' H' ⟨o5, o8, o9, o10, hσ, hl', he⟩ => ?_)
      · subst hσ
        obtain ⟨dd, hdd, hda⟩ := hx.got hi
        rw [List.getElem?_map] at hdd
        obtain ⟨r, hrs⟩ : ∃ r, ps[i]? = some r := by
          cases hq : ps[i]? with
          | none => rw [hq] at hdd; cases hdd
          | some r => exact ⟨r, rfl⟩
        rw [hrs] at hdd
        cases hdd
        have rk := pok.ok r (List.mem_of_getElem? hrs)
        obtain ⟨c', y1', y2', y3', y4', rfl, hc', d1, d2, d3, d4⟩ := DaAt.tup4 (hda.ex he)
        have d1 := d1.int
        have d2 := d2.int
        have d3 := d3.int
        subst d1 d2 d3
        refine unp4 hc' [some (.str "done"), some (.int to), some (.int from_), some (.ref a), some (.ref l), some (.int r.p), none, none, some y4', some (.int r.m), some (.int r.u)] rfl ?_
        refine s_extL (K := K) (ys := (tokP r).map V.str) hl' (ev_var rfl) (el_lst (ea_cons (ev_cb (ea_cons (ev_var rfl) ea_nil) (rc_strI (iok_6 rk.m0 rk.m6))) (ea_cons (ev_cb (ea_cons (ev_var rfl) ea_nil) (rc_strI (iok_n rk.u0 rk.u1))) (ea_cons (ev_cb (ea_cons (ev_var rfl) ea_nil) (rc_strI (iok_6 rk.p0 rk.p6))) (ea_cons (ev_word (ev_var rfl) d4 rk.w) ea_nil)))) (by show 4 ≤ 100000; decide)) (by
          rw [List.length_map]
          show (toksP (ps.take i)).length + 1 + 1 + 1 + 1 + 1 + 4 ≤ sizeLine
          rw [toksP_len, List.length_take, sizeLine_eq]
          omega) (fun H5 e5 => ⟨_, _, _, _, rfl, ?_, Ex.mut (he.trans e5) hl⟩)
        rw [List.take_add_one, hrs, show toksP (ps.take i ++ (some r).toList) = toksP (ps.take i) ++ tokP r from by simp [toksP], ← List.map_append]
        exact upd_same
      · subst hσ
        rw [xl, List.take_length] at hl'
        refine q_when (b := false) (et_kind (z := "done") (i := 0) rfl (by decide +kernel)) (fun z => nomatch z) (fun _ H5 e5 => ?_)
        exact fin (e5 _ _ hl') (fun H6 e6 => q H6 ((he.trans e5).trans e6))
end
end Fs

set_option Elab.async false
set_option linter.all false
set_option maxRecDepth 100000
set_option maxHeartbeats 4000000
/-! the law's numbers, channels, values -/
namespace Fs
open PySem L2 Evl FsE FsC FsR FsP FsV FsG FsQ FsK
structure RowIn (K : PySem.W.Frag) (H : Hp) (rl cl : Addr) (row ns : List Int) : Prop where
  r : SqL K H rl (row.map V.int)
  c : SqL K H cl (ns.map V.int)
  ok : RowOk row
theorem RowIn.ex {K : PySem.W.Frag} {H H' : Hp} {rl cl : Addr} {row ns : List Int} (h : RowIn K H rl cl row ns) (e : Ex H H') : RowIn K H' rl cl row ns := ⟨ex_l e h.r, ex_l e h.c, h.ok⟩
def spNum (K : PySem.W.Frag) : Sp := fun vs H Q _ => ∃ (rl cl : Addr) (k : Nat) (row ns : List Int), vs = [.ref rl, .int (k : Int), .ref cl] ∧ RowIn K H rl cl row ns ∧ k < row.length ∧ ∀ i : Int, 0 ≤ i → i < 10 ^ 30 → RetV (.int i) H Q
def spAch (K : PySem.W.Frag) : Sp := fun vs H Q _ => ∃ (rl cl : Addr) (k : Nat) (row ns : List Int), vs = [.ref rl, .int (k : Int), .ref cl] ∧ RowIn K H rl cl row ns ∧ k + 1 < row.length ∧ ∀ (a : Addr) (h n s : Int) (H' : Hp), H a = none → Ex H H' → H' a = some (.tup [.int h, .int n, .int s]) → ChOk h n s → Q (.ref a) H'
def spAv (K : PySem.W.Frag) : Sp := fun vs H Q _ => ∃ (rl cl : Addr) (k : Nat) (row ns : List Int), vs = [.ref rl, .int (k : Int), .ref cl] ∧ RowIn K H rl cl row ns ∧ k + 2 < row.length ∧ ∀ (v : V) (d : PyData) (H' : Hp), Ex H H' → DaAt H' v d → WOk d → Q v H'
section
variable {σ : L2.St} {H : Hp} {K : PySem.W.Frag} {rl cl : Addr} {row ns : List Int}
/-- int(row[at]) -/
theorem ev_at {ta : TE} {k : Nat} {v : Int} (h : RowIn K H rl cl row ns) (s0 : σ[0]? = some (some (.ref rl))) (ha : Ev ta σ H (.int (k : Int))) (hv : row[k]? = some v) : Ev (tCB (fun xs H Q => (∃ i, xs = [V.int i] ∧ Q (.int i) H) ∨ ∃ k, xs = [V.bl k] ∧ Q (.int (if k then 1 else 0)) H) (tCons (tOp (rIxL K) (tVar 0) ta) tNil)) σ H (.int v) :=
  ev_cb (ea_cons (ev_op (ev_var s0) ha (rv_ixL h.r (atI_nat (by rw [List.getElem?_map, hv]; rfl)))) ea_nil) (rc_int (K := K))
theorem row_at (h : RowOk row) {k : Nat} (hk : k < row.length) : ∃ v, row[k]? = some v ∧ 0 ≤ v ∧ v < 1000 := ⟨row[k], List.getElem?_eq_getElem hk, h _ (List.getElem_mem hk)⟩
theorem es_num {ta : TE} {E : L2.St → XK} {k i j : Nat} (h : RowIn K H rl cl row ns) (s0 : σ[i]? = some (some (.ref rl))) (ha : Ev ta σ H (.int (k : Int))) (s2 : σ[j]? = some (some (.ref cl))) (hk : k < row.length) : EvS (tCallS (spNum K) E (tCons (tVar i) (tCons ta (tCons (tVar j) tNil)))) σ H (fun v _ => ∃ n, v = .int n ∧ 0 ≤ n ∧ n < 10 ^ 30) := fun H1 e1 Q q =>
  ⟨_, s0, ha H1 e1 _ fun H2 e2 => ⟨_, s2, rl, cl, k, row, ns, rfl, h.ex (e1.trans e2), hk, fun n n0 n1 H3 e3 => q _ H3 (e2.trans e3) ⟨n, rfl, n0, n1⟩⟩⟩
theorem es_ach {ta : TE} {E : L2.St → XK} {k i j : Nat} (h : RowIn K H rl cl row ns) (s0 : σ[i]? = some (some (.ref rl))) (ha : Ev ta σ H (.int (k : Int))) (s2 : σ[j]? = some (some (.ref cl))) (hk : k + 1 < row.length) : EvS (tCallS (spAch K) E (tCons (tVar i) (tCons ta (tCons (tVar j) tNil)))) σ H (fun v H' => ∃ a h n s, v = .ref a ∧ H' a = some (.tup [.int h, .int n, .int s]) ∧ ChOk h n s) := fun H1 e1 Q q =>
  ⟨_, s0, ha H1 e1 _ fun H2 e2 => ⟨_, s2, rl, cl, k, row, ns, rfl, h.ex (e1.trans e2), hk, fun a c n s H3 _ e3 h3 ok => q _ H3 (e2.trans e3) ⟨a, c, n, s, rfl, h3, ok⟩⟩⟩
theorem es_av {ta : TE} {E : L2.St → XK} {k i j : Nat} (h : RowIn K H rl cl row ns) (s0 : σ[i]? = some (some (.ref rl))) (ha : Ev ta σ H (.int (k : Int))) (s2 : σ[j]? = some (some (.ref cl))) (hk : k + 2 < row.length) : EvS (tCallS (spAv K) E (tCons (tVar i) (tCons ta (tCons (tVar j) tNil)))) σ H (fun v H' => ∃ d, DaAt H' v d ∧ WOk d) := fun H1 e1 Q q =>
  ⟨_, s0, ha H1 e1 _ fun H2 e2 => ⟨_, s2, rl, cl, k, row, ns, rfl, h.ex (e1.trans e2), hk, fun v d H3 e3 h3 ok => q _ H3 (e2.trans e3) ⟨d, h3, ok⟩⟩⟩
end
section
variable {P : Program} {w : World} {K : PySem.W.Frag} {mg : Str → Option Value} {base : Heap} {CR CM : Addr} {k d : Nat}
abbrev ns3 : List Str := ["_law_row_here", "_law_at", "_law_cells"]
theorem scNum : FnScope ns3 ns3 (defScope (topS 34)) := ⟨rfl, rfl, rfl, by decide +kernel, rfl, by decide +kernel, by decide +kernel⟩
theorem ok_num {f : Addr} {fd : FuncData} (F : Fun K "_law_number" "_law_number" (topS 34) f fd) (L : LawT K mg) (GC : CalX P w K mg base CX0 1 "_law_cell_at" (spCellAt K)) : FnOk P w K mg base CX0 2 f fd ns3 (spNum K) := by
  refine F.ok (k := 1) scNum (fun vs H Q E h => ?_) (fun cdv A outer s H vs Q E hr h => ?_)
  · obtain ⟨rl, cl, k, row, ns, rfl, _⟩ := h
    rfl
  · obtain ⟨rl, cl, k, row, ns, rfl, hi, hk, q⟩ := h
    refine ⟨_, pss_cons (ps_if (pt_cmpR op_gt (pe_op op_mod (pe_callTy call_int1 (by rfl) L.int (by decide +kernel) (pa_cons (pe_ix ix_list (pv 0) (pv 1) (fun _ _ => rfl)) pa_nil)) pe_int) pe_int (nomark _))
        (pss_one (ps_ret (pe_op op_mod (pe_op op_fdiv (pe_callTy call_int1 (by rfl) L.int (by decide +kernel) (pa_cons (pe_ix ix_list (pv 0) (pv 1) (fun _ _ => rfl)) pa_nil)) pe_int) pe_int))) pss_nil)
      (pss_one (ps_ret (pe_op op_mod (pe_callB call_abs (by rfl) L.abs (by decide +kernel) (pa_cons (pe_callTy call_int1 (by rfl) L.int (by decide +kernel) (pa_cons (pe_cx (E := fun _ => E0) GC hr (Nat.le_refl _) (by rfl) at0 (pa_cons (pv 2) (pa_cons (pe_op op_mod (pe_op op_fdiv (pe_callTy call_int1 (by rfl) L.int (by decide +kernel) (pa_cons (pe_ix ix_list (pv 0) (pv 1) (fun _ _ => rfl)) pa_nil)) pe_int) pe_int) pa_nil))) pa_nil)) pa_nil)) (pe_op op_pow pe_int pe_int)))), ?_⟩
    obtain ⟨v, hv, v0, v1⟩ := row_at hi.ok hk
    refine q_when (b := decide (v % 3 > 0)) (et_test (ev_op (x := .int (v % 3)) (y := .int 0) (ev_op (ev_at hi rfl (ev_var rfl) hv) ev_c (rv_I (by show (0 : Int) < 3; decide))) ev_c rv_I0)) (fun _ H1 e1 => ?_) (fun _ H1 e1 => ?_)
    · refine s_ret (v := .int (v / 3 % 12)) (ev_op (x := .int (v / 3)) (y := .int 12) (ev_op (ev_at (hi.ex e1) rfl (ev_var rfl) hv) ev_c (rv_I ⟨by decide, by decide⟩)) ev_c (rv_I (by show (0 : Int) < 12; decide))) (fun H2 e2 => q _ (by omega) (by omega) H2 (e1.trans e2))
    · have hi1 := hi.ex e1
      have e6 : v / 3 % 6 = (((v / 3 % 6).toNat : Nat) : Int) := by omega
      refine ⟨_, rfl, ?_⟩
      refine (ev_is (ev_op (x := .int (v / 3)) (y := .int 6) (ev_op (ev_at hi1 rfl (ev_var rfl) hv) ev_c (rv_I ⟨by decide, by decide⟩)) ev_c (rv_I (by show (0 : Int) < 6; decide))) (congrArg V.int e6)) H1 (Ex.refl H1) _ (fun H2 e2 => ?_)
      refine ⟨cl, ns, _, rfl, (hi1.ex e2).c, fun i H3 e3 => ?_⟩
      refine .inl ⟨i, rfl, i, rfl, 10, 30, rfl, rfl, ⟨by decide, by decide, by decide⟩, _, _, rfl, rfl, by show (0 : Int) < 10 ^ (30 : Int).toNat; decide, ?_⟩
      have p : (10 : Int) ^ (30 : Int).toNat = 10 ^ 30 := by decide
      rw [p]
      exact q _ (Int.emod_nonneg _ (by decide)) (Int.emod_lt_of_pos _ (by decide)) H3 ((e1.trans e2).trans e3)
theorem scAch : FnScope ns3 ns3 (defScope (topS 35)) := ⟨rfl, rfl, rfl, by decide +kernel, rfl, by decide +kernel, by decide +kernel⟩
theorem ok_ach {f : Addr} {fd : FuncData} (F : Fun K "_law_any_channel" "_law_any_channel" (topS 35) f fd) (L : LawT K mg) (GN : CalX P w K mg base CX0 2 "_law_number" (spNum K)) : FnOk P w K mg base CX0 3 f fd ns3 (spAch K) := by
  refine F.ok (k := 2) scAch (fun vs H Q E h => ?_) (fun cdv A outer s H vs Q E hr h => ?_)
  · obtain ⟨rl, cl, k, row, ns, rfl, _⟩ := h
    rfl
  · obtain ⟨rl, cl, k, row, ns, rfl, hi, hk, q⟩ := h
    refine ⟨_, pss_one (ps_ret (pe_tup (pa_cons (pe_op op_mod (pe_callTy call_int1 (by rfl) L.int (by decide +kernel) (pa_cons (pe_ix ix_list (pv 0) (pv 1) (fun _ _ => rfl)) pa_nil)) pe_int) (pa_cons (pe_cx (E := fun _ => E0) GN hr (Nat.le_refl _) (by rfl) at0 (pa_cons (pv 0) (pa_cons (pe_op op_add (pv 1) pe_int) (pa_cons (pv 2) pa_nil))))
      (pa_cons (pe_op op_add pe_int (pe_op op_mod (pe_op op_fdiv (pe_callTy call_int1 (by rfl) L.int (by decide +kernel) (pa_cons (pe_ix ix_list (pv 0) (pv 1) (fun _ _ => rfl)) pa_nil)) pe_int) pe_int)) pa_nil))))), ?_⟩
    obtain ⟨v, hv, v0, v1⟩ := row_at hi.ok (show k < row.length by omega)
    refine (ev_op (x := .int v) (y := .int 6) (ev_at (σ := [some (.ref rl), some (.int (k : Int)), some (.ref cl)]) hi rfl (ev_var rfl) hv) ev_c (rv_I (by show (0 : Int) < 6; decide))) H (Ex.refl H) _ (fun H1 e1 => ?_)
    refine es_num (E := fun _ => E0) (σ := [some (.ref rl), some (.int (k : Int)), some (.ref cl)]) (k := k + 1) (hi.ex e1) rfl (ev_is (ev_op (x := .int (k : Int)) (y := .int 1) (ev_var rfl) ev_c rv_I0) (by show V.int ((k : Int) + 1) = _; rw [show ((k + 1 : Nat) : Int) = (k : Int) + 1 by omega])) rfl hk H1 (Ex.refl H1) _ (fun v2 H2 e2 ⟨n, hn, n0, n1⟩ => ?_)
    subst hn
    refine (ev_op (x := .int 1) (y := .int (v / 6 % 4)) ev_c (ev_op (x := .int (v / 6)) (y := .int 4) (ev_op (ev_at (σ := [some (.ref rl), some (.int (k : Int)), some (.ref cl)]) (hi.ex (e1.trans e2)) rfl (ev_var rfl) hv) ev_c (rv_I ⟨by decide, by decide⟩)) ev_c (rv_I (by show (0 : Int) < 4; decide))) rv_I0) H2 (Ex.refl H2) _ (fun H3 e3 => ?_)
    refine ⟨by show 3 ≤ sizeLine; decide, fun p hp => ?_⟩
    have e13 := (e1.trans e2).trans e3
    exact q p (v % 6) n (1 + v / 6 % 4) _ (fresh_back e13 hp) (e13.trans (Ex.new hp)) upd_same ⟨by omega, by omega, n0, n1, by omega, by omega⟩
theorem scAv : FnScope ns3 ns3 (defScope (topS 36)) := ⟨rfl, rfl, rfl, by decide +kernel, rfl, by decide +kernel, by decide +kernel⟩
theorem ok_av {f : Addr} {fd : FuncData} (F : Fun K "_law_any_value" "_law_any_value" (topS 36) f fd) (L : LawT K mg) (GN : CalX P w K mg base CX0 2 "_law_number" (spNum K)) (GC : CalX P w K mg base CX0 3 "_law_any_channel" (spAch K)) : FnOk P w K mg base CX0 4 f fd ns3 (spAv K) := by
  refine F.ok (k := 3) scAv (fun vs H Q E h => ?_) (fun cdv A outer s H vs Q E hr h => ?_)
  · obtain ⟨rl, cl, k, row, ns, rfl, _⟩ := h
    rfl
  · obtain ⟨rl, cl, k, row, ns, rfl, hi, hk, q⟩ := h
    refine ⟨_, pss_cons (ps_if (pt_cmpR op_eq (pe_op op_mod (pe_callTy call_int1 (by rfl) L.int (by decide +kernel) (pa_cons (pe_ix ix_list (pv 0) (pv 1) (fun _ _ => rfl)) pa_nil)) pe_int) pe_int (nomark _))
        (pss_one (ps_ret (pe_cx (E := fun _ => E0) GC hr (Nat.le_refl _) (by rfl) at0 (pa_cons (pv 0) (pa_cons (pe_op op_add (pv 1) pe_int) (pa_cons (pv 2) pa_nil)))))) pss_nil)
      (pss_one (ps_ret (pe_op op_mul (pe_cx (E := fun _ => E0) GN hr (by decide) (by rfl) at0 (pa_cons (pv 0) (pa_cons (pe_op op_add (pv 1) pe_int) (pa_cons (pv 2) pa_nil)))) (pe_op op_sub pe_int (pe_op op_mul pe_int (pe_op op_mod (pe_op op_fdiv (pe_callTy call_int1 (by rfl) L.int (by decide +kernel) (pa_cons (pe_ix ix_list (pv 0) (pv 1) (fun _ _ => rfl)) pa_nil)) pe_int) pe_int)))))), ?_⟩
    obtain ⟨v, hv, v0, v1⟩ := row_at hi.ok (show k < row.length by omega)
    have k1 : ∀ {H1 : Hp}, Ev (tOp (rI0 fun i j => V.int (i + j)) (tVar 1) (tC (.int 1))) [some (.ref rl), some (.int (k : Int)), some (.ref cl)] H1 (.int ((k + 1 : Nat) : Int)) := fun {H1} => ev_is (ev_op (x := .int (k : Int)) (y := .int 1) (ev_var rfl) ev_c rv_I0) (by show V.int ((k : Int) + 1) = _; rw [show ((k + 1 : Nat) : Int) = (k : Int) + 1 by omega])
    refine q_when (b := decide (V.int (v % 3) = V.int 0)) (et_test (ev_op (x := .int (v % 3)) (y := .int 0) (ev_op (ev_at hi rfl (ev_var rfl) hv) ev_c (rv_I (by show (0 : Int) < 3; decide))) ev_c (rv_eq rfl))) (fun _ H1 e1 => ?_) (fun _ H1 e1 => ?_)
    · exact es_ach (E := fun _ => E0) (σ := [some (.ref rl), some (.int (k : Int)), some (.ref cl)]) (k := k + 1) (hi.ex e1) rfl k1 rfl hk H1 (Ex.refl H1) _ (fun v2 H2 e2 ⟨a, h, n, s, hv2, ha, ok⟩ => q _ (chD h n s) H2 (e1.trans e2) (by rw [hv2]; exact ch_da ha) (.inr ⟨_, _, _, rfl, ok⟩))
    · refine es_num (E := fun _ => E0) (σ := [some (.ref rl), some (.int (k : Int)), some (.ref cl)]) (k := k + 1) (hi.ex e1) rfl k1 rfl (by omega) H1 (Ex.refl H1) _ (fun v2 H2 e2 ⟨n, hn, n0, n1⟩ => ?_)
      subst hn
      have e12 := e1.trans e2
      refine (ev_op (x := .int 1) (y := .int (2 * (v / 3 % 2))) ev_c (ev_op (x := .int 2) (y := .int (v / 3 % 2)) ev_c (ev_op (x := .int (v / 3)) (y := .int 2) (ev_op (ev_at (σ := [some (.ref rl), some (.int (k : Int)), some (.ref cl)]) (hi.ex e12) rfl (ev_var rfl) hv) ev_c (rv_I ⟨by decide, by decide⟩)) ev_c (rv_I (by show (0 : Int) < 2; decide))) (rv_I (.inl ⟨by decide, by decide⟩))) rv_I0) H2 (Ex.refl H2) _ (fun H3 e3 => ?_)
      refine ⟨n, 1 - 2 * (v / 3 % 2), rfl, rfl, .inr ⟨by omega, by omega⟩, ?_⟩
      refine q _ (.int (n * (1 - 2 * (v / 3 % 2)))) H3 (e12.trans e3) da_int (.inl ⟨_, rfl, ?_⟩)
      have hc : v / 3 % 2 = 0 ∨ v / 3 % 2 = 1 := by omega
      have n1' : n < 10 ^ 30 := n1
      rcases hc with h | h <;> rw [h]
      · exact ⟨by omega, by omega⟩
      · exact ⟨by omega, by omega⟩
end
end Fs

set_option Elab.async false
set_option linter.all false
set_option maxRecDepth 100000
set_option maxHeartbeats 8000000
/-! the law's bodies -/
namespace Fs
open PySem L2 Evl FsE FsC FsR FsP FsV FsG FsQ FsK
def kinds7 : List Str := ["offers", "done", "ask", "heard", "yes", "no", "free"]
def spAb (K : PySem.W.Frag) : Sp := fun vs H Q _ => ∃ (rl cl : Addr) (k : Str) (to from_ : Int) (row ns : List Int), vs = [.str k, .int to, .int from_, .ref rl, .ref cl] ∧ RowIn K H rl cl row ns ∧ row.length = 56 ∧ (0 ≤ to ∧ to < 6) ∧ (0 ≤ from_ ∧ from_ < 6) ∧ k ∈ kinds7 ∧ ∀ (v : V) (b : Bd) (H' : Hp), Ex H H' → b.kind = k → BdOk to from_ b → DaAt H' v (b.dat to from_) → Q v H'
/-- the machines that take part -/
def machV (to s t : Int) : List V :=
  let xs := cutV ([V.int to] ++ given 6 (fun i => !decide (V.int (i : Int) = V.int to)) fun i => V.int (i : Int)) none (some s)
  cutV xs (some t) none ++ cutV xs none (some t)
def machI (to s t : Int) : List Int := (machV to s t).map fun v => match v with | .int i => i | _ => 0
def machB (to s t : Nat) : Bool := decide (machV (to : Int) (s : Int) (t : Int) = (machI (to : Int) (s : Int) (t : Int)).map V.int) && (decide ((machI (to : Int) (s : Int) (t : Int)).length = s) && (decide ((machI (to : Int) (s : Int) (t : Int)).Nodup) && (decide ((to : Int) ∈ machI (to : Int) (s : Int) (t : Int)) && (machI (to : Int) (s : Int) (t : Int)).all fun m => decide (0 ≤ m) && decide (m < 6))))
theorem mach_all : ∀ to < 6, ∀ s < 5, ∀ t < 4, 1 ≤ s → t < s → machB to s t = true := by decide +kernel
structure MaOk (to s t : Int) : Prop where
  v : machV to s t = (machI to s t).map V.int
  len : (machI to s t).length = s.toNat
  nd : (machI to s t).Nodup
  mem : to ∈ machI to s t
  six : ∀ m ∈ machI to s t, 0 ≤ m ∧ m < 6
theorem mach_ok {to s t : Int} (h0 : 0 ≤ to) (h6 : to < 6) (s1 : 1 ≤ s) (s4 : s ≤ 4) (t0 : 0 ≤ t) (t1 : t < s) : MaOk to s t := by
  obtain ⟨a, rfl⟩ : ∃ a : Nat, to = a := ⟨to.toNat, by omega⟩
  obtain ⟨b, rfl⟩ : ∃ a : Nat, s = a := ⟨s.toNat, by omega⟩
  obtain ⟨c, rfl⟩ : ∃ a : Nat, t = a := ⟨t.toNat, by omega⟩
  have h := mach_all a (by omega) b (by omega) c (by omega) (by omega) (by omega)
  unfold machB at h
  simp only [Bool.and_eq_true, decide_eq_true_eq, List.all_eq_true] at h
  obtain ⟨h1, h2, h3, h4, h5⟩ := h
  exact ⟨h1, by rw [h2]; rfl, h3, h4, h5⟩
theorem fst_ok {f : Int} (f0 : 0 ≤ f) (f1 : f < 10 ^ 30) : 1 ≤ f + 1 - f / ((10 : Int) ^ (30 : Int).toNat - 1) ∧ f + 1 - f / ((10 : Int) ^ (30 : Int).toNat - 1) < 10 ^ 30 := by
  have p : (10 : Int) ^ (30 : Int).toNat = 1000000000000000000000000000000 := by decide
  rw [p]
  have f1' : f < 1000000000000000000000000000000 := f1
  show _ ∧ _ < (1000000000000000000000000000000 : Int)
  omega
section
variable {σ : L2.St} {H : Hp} {K : PySem.W.Frag}
theorem ev_off {c : Int} {n i j : Nat} (hc : c = (n : Int)) (s : σ[j]? = some (some (.int (i : Int)))) : Ev (tOp (rI0 fun i j => V.int (i + j)) (tC (.int c)) (tOp (rI CMul fun i j => V.int (i * j)) (tC (.int 8)) (tVar j))) σ H (.int ((n + 8 * i : Nat) : Int)) := by
  subst hc
  exact ev_is (ev_op (x := .int (n : Int)) (y := .int (8 * (i : Int))) ev_c (ev_op (x := .int 8) (y := .int (i : Int)) ev_c (ev_var s) (rv_I (.inl ⟨by decide, by decide⟩))) rv_I0) (by show V.int ((n : Int) + 8 * (i : Int)) = _; rw [show ((n + 8 * i : Nat) : Int) = (n : Int) + 8 * (i : Int) by omega])
theorem ev_at3 {ta : TE} {rl cl : Addr} {row ns : List Int} {k : Nat} {v : Int} (h : RowIn K H rl cl row ns) (s0 : σ[3]? = some (some (.ref rl))) (ha : Ev ta σ H (.int (k : Int))) (hv : row[k]? = some v) : Ev (tCB (fun xs H Q => (∃ i, xs = [V.int i] ∧ Q (.int i) H) ∨ ∃ k, xs = [V.bl k] ∧ Q (.int (if k then 1 else 0)) H) (tCons (tOp (rIxL K) (tVar 3) ta) tNil)) σ H (.int v) :=
  ev_cb (ea_cons (ev_op (ev_var s0) ha (rv_ixL h.r (atI_nat (by rw [List.getElem?_map, hv]; rfl)))) ea_nil) (rc_int (K := K))
theorem ev_fst {f : Int} (s : σ[5]? = some (some (.int f))) : Ev (tOp (rI0 fun i j => V.int (i - j)) (tOp (rI0 fun i j => V.int (i + j)) (tVar 5) (tC (.int 1))) (tOp (rI CDivW fun i j => V.int (i / j)) (tVar 5) (tOp (rI0 fun i j => V.int (i - j)) (tOp (rI CPow fun i j => V.int (i ^ j.toNat)) (tC (.int 10)) (tC (.int 30))) (tC (.int 1))))) σ H (.int (f + 1 - f / ((10 : Int) ^ (30 : Int).toNat - 1))) :=
  ev_op (x := .int (f + 1)) (y := .int (f / ((10 : Int) ^ (30 : Int).toNat - 1))) (ev_op (x := .int f) (y := .int 1) (ev_var s) ev_c rv_I0) (ev_op (x := .int f) (y := .int ((10 : Int) ^ (30 : Int).toNat - 1)) (ev_var s) (ev_op (x := .int ((10 : Int) ^ (30 : Int).toNat)) (y := .int 1) (ev_op (x := .int 10) (y := .int 30) ev_c ev_c (rv_I ⟨by decide, by decide, by decide⟩)) ev_c rv_I0) (rv_I ⟨by decide, by decide +kernel⟩)) rv_I0
end
section
variable {P : Program} {w : World} {K : PySem.W.Frag} {mg : Str → Option Value} {base : Heap} {CR CM : Addr} {k d : Nat}
theorem unp3 {σ : L2.St} {H : Hp} {t : Addr} {x1 x2 x3 : V} {i1 i2 i3 : Nat} {Q : L2.St → Hp → Prop} (h1 : H t = some (.tup [x1, x2, x3])) (σ' : L2.St) (hσ : ((σ.set i1 (some x1)).set i2 (some x2)).set i3 (some x3) = σ') (k : Q σ' H) : gTup K 3 (gCons (gName i1) (gCons (gName i2) (gCons (gName i3) gNil))) (.ref t) σ H Q := by
  subst hσ
  exact ⟨t, _, rfl, st_of h1, rfl, _, _, rfl, _, _, rfl, _, _, rfl, rfl, k⟩
abbrev nsAb : List Str := ["_law_kind", "_law_to", "_law_sender", "_law_row_here", "_law_cells", "_law_first", "_law_rows", "_law_place", "_law_home", "_law_number_here", "_law_seats", "_law_value", "_law_machines", "_law_one", "_law_turn", "_law_parts", "_law_seat"]
theorem scAb : FnScope nsAb ["_law_kind", "_law_to", "_law_sender", "_law_row_here", "_law_cells"] (defScope (topS 37)) := ⟨rfl, rfl, rfl, by decide +kernel, rfl, by decide +kernel, by decide +kernel⟩
theorem ok_ab {f : Addr} {fd : FuncData} (F : Fun K "_law_any_body" "_law_any_body" (topS 37) f fd) (L : LawT K mg) (ht : mg "tuple" = none) (GN : CalX P w K mg base CX0 2 "_law_number" (spNum K)) (GC : CalX P w K mg base CX0 3 "_law_any_channel" (spAch K)) (GV : CalX P w K mg base CX0 4 "_law_any_value" (spAv K)) : FnOk P w K mg base CX0 5 f fd ["_law_kind", "_law_to", "_law_sender", "_law_row_here", "_law_cells"] (spAb K) := by
  refine F.ok (k := 4) scAb (fun vs H Q E h => ?_) (fun cdv A outer s H vs Q E hr h => ?_)
  · obtain ⟨rl, cl, k, to, from_, row, ns, rfl, _⟩ := h
    rfl
  · obtain ⟨rl, cl, k, to, from_, row, ns, rfl, hi, hn, ⟨to0, to6⟩, ⟨fr0, fr6⟩, hk, q⟩ := h
    refine ⟨_, pss_cons (ps_set (i := 5) scAb.nd rfl (Or.inl rfl) (pe_cx (E := fun _ => E0) GN hr (by decide) (by rfl) at0 (pa_cons (pv 3) (pa_cons pe_int (pa_cons (pv 4) pa_nil)))))
      (pss_cons (ps_if (pt_cmpR op_eq (pv 0) pe_str (nomark _)) (pss_one (ps_ret (pe_tup (pa_cons (pv 5) pa_nil)))) pss_nil)
      (pss_cons (ps_if (pt_cmpR op_eq (pv 0) pe_str (nomark _)) (pss_one (ps_ret (pe_tup (pa_cons (pe_op op_sub (pe_op op_add (pv 5) pe_int) (pe_op op_fdivW (pv 5) (pe_op op_sub (pe_op op_pow pe_int pe_int) pe_int))) (pa_cons (pe_cx (E := fun _ => E0) GN hr (by decide) (by rfl) at0 (pa_cons (pv 3) (pa_cons pe_int (pa_cons (pv 4) pa_nil)))) pa_nil))))) pss_nil)
      (pss_cons (ps_if (pt_cmpR op_in_seq (pv 0) (pe_lst (pa_cons pe_str (pa_cons pe_str (pa_cons pe_str pa_nil)))) (by rfl)) (pss_one (ps_ret (pe_tup (pa_cons (pe_op op_sub (pe_op op_add (pv 5) pe_int) (pe_op op_fdivW (pv 5) (pe_op op_sub (pe_op op_pow pe_int pe_int) pe_int))) pa_nil)))) pss_nil)
      (pss_cons (ps_if (pt_cmpR op_eq (pv 0) pe_str (nomark _)) (pss_cons (ps_set (i := 6) scAb.nd rfl (Or.inl rfl) (pe_lst pa_nil))
          (pss_cons (ps_for PassesOwn.never rfl (pi_range1 rfl L.range (pa_cons pe_int pa_nil)) (pg_name (i := 7) scAb.nd rfl (Or.inl rfl))
            (pss_one (ps_if (pt_cmpR op_eq (pe_op op_mod (pe_callTy call_int1 (by rfl) L.int (by decide +kernel) (pa_cons (pe_ix ix_list (pv 3) (pe_op op_add pe_int (pe_op op_mul pe_int (pv 7))) (fun _ _ => rfl)) pa_nil)) pe_int) pe_int (nomark _))
              (pss_cons (ps_asg (pe_cx (E := fun _ => E0) GC hr (by decide) (by rfl) at0 (pa_cons (pv 3) (pa_cons (pe_op op_add pe_int (pe_op op_mul pe_int (pv 7))) (pa_cons (pv 4) pa_nil)))) (pg_tup rfl (pgs_cons (pg_name (i := 8) scAb.nd rfl (.inl rfl)) (pgs_cons (pg_name (i := 9) scAb.nd rfl (.inl rfl)) (pgs_cons (pg_name (i := 10) scAb.nd rfl (.inl rfl)) pgs_nil)))))
              (pss_cons (ps_set (i := 11) scAb.nd rfl (Or.inl rfl) (pe_cx (E := fun _ => E0) GV hr (by decide) (by rfl) at0 (pa_cons (pv 3) (pa_cons (pe_op op_add pe_int (pe_op op_mul pe_int (pv 7))) (pa_cons (pv 4) pa_nil)))))
              (pss_one (ps_expr (pe_bm PySem.F.plainAttrs_list PySem.F.slot_list_append PySem.F.type_list_append mt_append (pv 6) (pa_cons (pe_tup (pa_cons (pv 7) (pa_cons (pe_tup (pa_cons (pv 1) (pa_cons (pv 9) (pa_cons (pv 10) pa_nil)))) (pa_cons (pe_op op_mod (pe_callTy call_int1 (by rfl) L.int (by decide +kernel) (pa_cons (pe_ix ix_list (pv 3) (pe_op op_add pe_int (pe_op op_mul pe_int (pv 7))) (fun _ _ => rfl)) pa_nil)) (pv 10)) (pa_cons (pv 11) pa_nil))))) pa_nil)))))) pss_nil)))
          (pss_one (ps_ret (pe_tup (pa_cons (pv 5) (pa_cons (pe_callTy call_tuple_of (by rfl) ht (by decide +kernel) (pa_cons (pv 6) pa_nil)) pa_nil))))))) pss_nil)
      (pss_cons (ps_asg (pe_cx (E := fun _ => E0) GC hr (by decide) (by rfl) at0 (pa_cons (pv 3) (pa_cons pe_int (pa_cons (pv 4) pa_nil)))) (pg_tup rfl (pgs_cons (pg_name (i := 8) scAb.nd rfl (.inl rfl)) (pgs_cons (pg_name (i := 9) scAb.nd rfl (.inl rfl)) (pgs_cons (pg_name (i := 10) scAb.nd rfl (.inl rfl)) pgs_nil)))))
      (pss_cons (ps_set (i := 12) scAb.nd rfl (Or.inl rfl) (pe_op op_cat (pe_lst (pa_cons (pv 1) pa_nil)) (pe_lc (own := [("_law_one", 13)]) (g := gName 13) (te := tVar 13) rfl scAb.nd (pi_range1 (by rfl) L.range (pa_cons pe_int pa_nil)) (blkOk_by (own := [("_law_one", 13)]) (N := nsAb) (sc := defScope (topS 37)) (by decide +kernel))
          (fun _ _ _ _ _ => pg_name (i := 13) scAb.nd rfl (Or.inl rfl)) (fun _ _ _ _ _ => pts_one (pt_cmpR op_ne (pv 13) (pv 1) (nomark _))) (fun _ _ _ _ _ => pv 13))))
      (pss_cons (ps_set (i := 14) scAb.nd rfl (Or.inl rfl) (pe_op op_mod (pe_callTy call_int1 (by rfl) L.int (by decide +kernel) (pa_cons (pe_ix ix_list (pv 3) pe_int (fun _ _ => rfl)) pa_nil)) (pv 10)))
      (pss_cons (ps_set (i := 12) scAb.nd rfl (Or.inl rfl) (pe_op op_cat (pe_slice sl_list (pe_slice sl_list (pv 12) po_none (po_some (pv 10))) (po_some (pv 14)) po_none) (pe_slice sl_list (pe_slice sl_list (pv 12) po_none (po_some (pv 10))) po_none (po_some (pv 14)))))
      (pss_cons (ps_set (i := 15) scAb.nd rfl (Or.inl rfl) (pe_lst pa_nil))
      (pss_cons (ps_for PassesOwn.never rfl (pi_range1 rfl L.range (pa_cons (pv 10) pa_nil)) (pg_name (i := 16) scAb.nd rfl (Or.inl rfl))
            (pss_cons (ps_set (i := 11) scAb.nd rfl (Or.inl rfl) (pe_cx (E := fun _ => E0) GV hr (by decide) (by rfl) at0 (pa_cons (pv 3) (pa_cons (pe_op op_add pe_int (pe_op op_mul pe_int (pv 16))) (pa_cons (pv 4) pa_nil)))))
              (pss_one (ps_expr (pe_bm PySem.F.plainAttrs_list PySem.F.slot_list_append PySem.F.type_list_append mt_append (pv 15) (pa_cons (pe_tup (pa_cons (pe_ix ix_list (pv 12) (pv 16) (fun _ _ => rfl)) (pa_cons (pe_cx (E := fun _ => E0) GN hr (by decide) (by rfl) at0 (pa_cons (pv 3) (pa_cons (pe_op op_add pe_int (pe_op op_mul pe_int (pv 16))) (pa_cons (pv 4) pa_nil)))) (pa_cons (pe_op op_mod (pe_callTy call_int1 (by rfl) L.int (by decide +kernel) (pa_cons (pe_ix ix_list (pv 3) (pe_op op_add pe_int (pe_op op_mul pe_int (pv 16))) (fun _ _ => rfl)) pa_nil)) pe_int) (pa_cons (pv 11) pa_nil))))) pa_nil))))))
      (pss_one (ps_ret (pe_tup (pa_cons (pe_op op_sub (pe_op op_add (pv 5) pe_int) (pe_op op_fdivW (pv 5) (pe_op op_sub (pe_op op_pow pe_int pe_int) pe_int))) (pa_cons (pe_tup (pa_cons (pe_tup (pa_cons (pv 2) (pa_cons (pv 9) (pa_cons (pv 10) pa_nil)))) (pa_cons (pe_callTy call_tuple_of (by rfl) ht (by decide +kernel) (pa_cons (pv 15) pa_nil)) pa_nil))) pa_nil))))))))))))))), ?_⟩
    obtain ⟨w0, rowL⟩ : ∃ z : Nat, row.length = 56 := ⟨0, hn⟩
    refine es_num (E := fun _ => E0) (σ := [some (.str k), some (.int to), some (.int from_), some (.ref rl), some (.ref cl), none, none, none, none, none, none, none, none, none, none, none, none]) (k := 3) hi rfl ev_c rfl (by omega) H (Ex.refl H) _ (fun v H1 e1 ⟨fst, hv, f0, f1⟩ => ?_)
    subst hv
    have hi1 := hi.ex e1
    obtain ⟨g0, g1⟩ := fst_ok f0 f1
    have inShort : ∀ {H2 : Hp} {z : Str} {b : Bool} {o5 : Option V}, inV (.str z) [.str "yes", .str "no", .str "free"] = b → EvT (tTest (tOp (rIn K false) (tVar 0) (tLst (tCons (tC (.str "yes")) (tCons (tC (.str "no")) (tCons (tC (.str "free")) tNil)))))) [some (.str z), some (.int to), some (.int from_), some (.ref rl), some (.ref cl), o5, none, none, none, none, none, none, none, none, none, none, none] H2 b := fun {H2 z b o5} e => et_is (et_test (b := inV (.str z) [.str "yes", .str "no", .str "free"]) (fun H3 e3 Q3 q3 => ⟨_, rfl, by show 3 ≤ sizeLine; decide, fun p hp => ⟨p, _, rfl, .inl (sq_of upd_same), rfl, by decide +kernel, q3 _ (Ex.new hp)⟩⟩)) e
    have hk2 : k = "offers" ∨ k = "done" ∨ k = "ask" ∨ k = "heard" ∨ (k = "yes" ∨ k = "no" ∨ k = "free") := by simpa [kinds7] using hk
    rcases hk2 with rfl | rfl | rfl | rfl | hk3
    · refine q_when (b := false) (et_kind (z := "offers") (i := 0) rfl (by decide +kernel)) (fun z => nomatch z) (fun _ H2 e2 => ?_)
      refine q_when (b := false) (et_kind (z := "offers") (i := 0) rfl (by decide +kernel)) (fun z => nomatch z) (fun _ H3 e3 => ?_)
      refine q_when (b := false) (inShort (by decide +kernel)) (fun z => nomatch z) (fun _ H4 e4 => ?_)
      refine q_when (b := true) (et_kind (z := "offers") (i := 0) rfl (by decide +kernel)) (fun _ H5 e5 => ?_) (fun z => nomatch z)
      have e15 := (((e1.trans e2).trans e3).trans e4).trans e5
      refine q_asgL (xs := []) (el_lst ea_nil (by decide)) (fun l H6 hl e6 h6 => ?_)
      have hlH : H l = none := fresh_back e15 hl
      refine q_forR1 (n := 6) (ea_cons ev_c ea_nil) ⟨by decide, by decide⟩ (fun i σ' H' => ∃ (rs : List Rw) (vs : List V) (o7 o8 o9 o10 o11 : Option V), σ' = [some (.str "offers"), some (.int to), some (.int from_), some (.ref rl), some (.ref cl), some (.int fst), some (.ref l), o7, o8, o9, o10, o11, none, none, none, none, none] ∧ H' l = some (.lst vs) ∧ DaL H' vs (rs.map (Rw.dat to)) ∧ (∀ r ∈ rs, RwOk to r ∧ r.p < (i : Int)) ∧ (rs.map Rw.p).Pairwise (· < ·) ∧ rs.length ≤ i ∧ Ex H H')
        (fun H7 e7 => ⟨[], [], _, _, _, _, _, rfl, e7 _ _ h6, DaL.nil, fun r hr => by simp at hr, List.Pairwise.nil, Nat.le_refl _, (e15.trans e6).trans e7⟩) (fun i σ' H' hi6 ⟨rs, vs, o7, o8, o9, o10, o11, hσ, hl', hd, ok, rise, rlen, he⟩ => ?_) (fun σ' H' ⟨rs, vs, o7, o8, o9, o10, o11, hσ, hl', hd, ok, rise, rlen, he⟩ => ?_)
      · subst hσ
        have hiH := hi.ex he
        have vlen : vs.length = rs.length := by rw [hd.length, List.length_map]
        obtain ⟨v5, hv5, v50, v51⟩ := row_at hi.ok (show 5 + 8 * i < row.length by omega)
        refine s_when (b := decide (V.int (v5 % 2) = V.int 0)) (et_test (ev_op (x := .int (v5 % 2)) (y := .int 0) (ev_op (x := .int v5) (y := .int 2) (ev_cb (ea_cons (ev_op (x := .ref rl) (y := .int ((5 + 8 * i : Nat) : Int)) (ev_var rfl) (ev_off (n := 5) rfl rfl) (rv_ixL (K := K) hiH.r (atI_nat (by rw [List.getElem?_map, hv5]; rfl)))) ea_nil) (rc_int (K := K))) ev_c (rv_I (by show (0 : Int) < 2; decide))) ev_c (rv_eq rfl))) (fun _ H7 e7 => ?_) (fun _ H7 e7 => ?_)
        · have he7 := he.trans e7
          refine es_ach (E := fun _ => E0) (σ := [some (.str "offers"), some (.int to), some (.int from_), some (.ref rl), some (.ref cl), some (.int fst), some (.ref l), some (.int (i : Int)), o8, o9, o10, o11, none, none, none, none, none]) (k := 6 + 8 * i) (hi.ex he7) rfl (ev_off (n := 6) rfl rfl) rfl (by omega) H7 (Ex.refl H7) _ (fun v H8 e8 ⟨a, hh, nn, ss, hv, ha, cok⟩ => ?_)
          subst hv
          refine unp3 ha [some (.str "offers"), some (.int to), some (.int from_), some (.ref rl), some (.ref cl), some (.int fst), some (.ref l), some (.int (i : Int)), some (.int hh), some (.int nn), some (.int ss), o11, none, none, none, none, none] rfl ?_
          have he8 := he7.trans e8
          refine es_av (E := fun _ => E0) (σ := [some (.str "offers"), some (.int to), some (.int from_), some (.ref rl), some (.ref cl), some (.int fst), some (.ref l), some (.int (i : Int)), some (.int hh), some (.int nn), some (.int ss), o11, none, none, none, none, none]) (k := 9 + 8 * i) (hi.ex he8) rfl (ev_off (n := 9) rfl rfl) rfl (by omega) H8 (Ex.refl H8) _ (fun v H9 e9 ⟨d, hdv, wok⟩ => ?_)
          have he9 := he8.trans e9
          have e79 := (e7.trans e8).trans e9
          obtain ⟨v8, hv8, v80, v81⟩ := row_at hi.ok (show 8 + 8 * i < row.length by omega)
          have s1 := cok.s1
          have s4 := cok.s4
          refine ⟨_, rfl, .inl ⟨rfl, _, sq_of (e79 _ _ hl')⟩, _, rfl, _, rfl, _, rfl, _, rfl, by show 3 ≤ sizeLine; decide, fun c hc => ?_⟩
          have eC := Ex.new (o := .tup [V.int to, V.int nn, V.int ss]) hc
          refine (ev_op (x := .int v8) (y := .int ss) (z := .int (v8 % ss)) (σ := [some (.str "offers"), some (.int to), some (.int from_), some (.ref rl), some (.ref cl), some (.int fst), some (.ref l), some (.int (i : Int)), some (.int hh), some (.int nn), some (.int ss), some v, none, none, none, none, none]) (ev_cb (ea_cons (ev_op (x := .ref rl) (y := .int ((8 + 8 * i : Nat) : Int)) (ev_var rfl) (ev_off (n := 8) rfl rfl) (rv_ixL (K := K) (hi.ex (he9.trans eC)).r (atI_nat (by rw [List.getElem?_map, hv8]; rfl)))) ea_nil) (rc_int (K := K))) (ev_var rfl) (rv_I (C := fun _ j => 0 < j) (g := fun i j => V.int (i % j)) (show (0 : Int) < ss by omega))) _ (Ex.refl _) _ (fun HA eA => ?_)
          refine ⟨_, rfl, by show 4 ≤ sizeLine; decide, fun p hp => ?_⟩
          have eP := Ex.new (o := .tup [V.int (i : Int), V.ref c, V.int (v8 % ss), v]) hp
          have e9P := (eC.trans eA).trans eP
          have hl9 := e9P _ _ (e79 _ _ hl')
          have tk : TK (upd HA p (.tup [V.int (i : Int), V.ref c, V.int (v8 % ss), v])) (upd (upd HA p (.tup [V.int (i : Int), V.ref c, V.int (v8 % ss), v])) l (.lst (vs ++ [.ref p]))) := fun b xs hb => by
            have : b ≠ l := fun z => by rw [z, hl9] at hb; cases hb
            rw [upd_ne this]
            exact hb
          have dnew : DaAt (upd HA p (.tup [V.int (i : Int), V.ref c, V.int (v8 % ss), v])) (.ref p) (Rw.dat to ⟨(i : Int), nn, ss, v8 % ss, d⟩) := da_tup upd_same (DaL.cons da_int (DaL.cons ((ch_da (upd_same (H := H9) (a := c))).ex (eA.trans eP)) (DaL.cons da_int (DaL.cons (hdv.ex e9P) DaL.nil))))
          refine ⟨l, vs, .ref p, rfl, rfl, hl9, sz_lt (by omega), rs ++ [⟨(i : Int), nn, ss, v8 % ss, d⟩], vs ++ [.ref p], _, _, _, _, _, rfl, upd_same, ?_, ?_, ?_, ?_, Ex.mut (he9.trans e9P) hlH⟩
          · rw [List.map_append]
            exact DaL.snoc ((hd.ex (e79.trans e9P)).keep tk) (dnew.keep tk)
          · intro r hr
            rcases List.mem_append.mp hr with hr | hr
            · have := ok r hr
              exact ⟨this.1, by omega⟩
            · rw [List.mem_singleton.mp hr]
              refine ⟨⟨by show (0 : Int) ≤ (i : Int); omega, by show (i : Int) < 6; exact hi6, ⟨to0, to6, cok.n0, cok.n1, s1, s4⟩, Int.emod_nonneg _ (by show ss ≠ 0; omega), Int.emod_lt_of_pos _ (by show 0 < ss; omega), wok⟩, by show (i : Int) < ((i + 1 : Nat) : Int); omega⟩
          · rw [List.map_append, List.pairwise_append]
            refine ⟨rise, by simp, fun x hx y hy => ?_⟩
            obtain ⟨r, hr, rfl⟩ := List.mem_map.mp hx
            have := (ok r hr).2
            have hy' : y = (i : Int) := by simpa using hy
            rw [hy']
            exact this
          · rw [List.length_append]
            show rs.length + 1 ≤ i + 1
            omega
        · refine ⟨rs, vs, _, _, _, _, _, rfl, e7 _ _ hl', hd.ex e7, fun r hr => ?_, rise, by omega, he.trans e7⟩
          have := ok r hr
          exact ⟨this.1, by omega⟩
      · subst hσ
        refine ⟨_, rfl, _, rfl, l, vs, rfl, .inl ⟨sq_of hl', fun c hc => ?_⟩⟩
        have eC := Ex.new (o := .tup vs) hc
        refine ⟨by show 2 ≤ sizeLine; decide, fun p hp => ?_⟩
        have eP := Ex.new (o := .tup [V.int fst, V.ref c]) hp
        exact q _ (.offers fst rs) _ ((he.trans eC).trans eP) rfl ⟨⟨f0, f1⟩, fun r hr => (ok r hr).1, rise, rlen⟩ (da_tup upd_same (DaL.cons da_int (DaL.cons (da_tup (eP _ _ upd_same) (hd.ex (eC.trans eP))) DaL.nil)))
    · refine q_when (b := false) (et_kind (z := "done") (i := 0) rfl (by decide +kernel)) (fun z => nomatch z) (fun _ H2 e2 => ?_)
      refine q_when (b := false) (et_kind (z := "done") (i := 0) rfl (by decide +kernel)) (fun z => nomatch z) (fun _ H3 e3 => ?_)
      refine q_when (b := false) (inShort (by decide +kernel)) (fun z => nomatch z) (fun _ H4 e4 => ?_)
      refine q_when (b := false) (et_kind (z := "done") (i := 0) rfl (by decide +kernel)) (fun z => nomatch z) (fun _ H5 e5 => ?_)
      have e15 := (((e1.trans e2).trans e3).trans e4).trans e5
      refine es_ach (E := fun _ => E0) (σ := [some (.str "done"), some (.int to), some (.int from_), some (.ref rl), some (.ref cl), some (.int fst), none, none, none, none, none, none, none, none, none, none, none]) (k := 4) (hi.ex e15) rfl ev_c rfl (by omega) H5 (Ex.refl H5) _ (fun v H6 e6 ⟨a, hh, nn, ss, hv, ha, cok⟩ => ?_)
      subst hv
      refine unp3 ha [some (.str "done"), some (.int to), some (.int from_), some (.ref rl), some (.ref cl), some (.int fst), none, none, some (.int hh), some (.int nn), some (.int ss), none, none, none, none, none, none] rfl ?_
      have e16 := e15.trans e6
      have s1 := cok.s1
      have s4 := cok.s4
      obtain ⟨v6, hv6, v60, v61⟩ := row_at hi.ok (show 6 < row.length by omega)
      have t0 : 0 ≤ v6 % ss := Int.emod_nonneg _ (by omega)
      have t1 : v6 % ss < ss := Int.emod_lt_of_pos _ (by omega)
      have M := mach_ok to0 to6 s1 s4 t0 t1
      refine q_asgL (xs := [V.int to] ++ given 6 (fun i => !decide (V.int (i : Int) = V.int to)) fun i => V.int (i : Int)) (el_catLL (el_lst (vs := [.int to]) (ea_cons (ev_var rfl) ea_nil) (by show 1 ≤ 100000; decide)) (el_lcR1 (n := 6) (fun i => !decide (V.int (i : Int) = V.int to)) (fun i => V.int (i : Int)) (ea_cons ev_c ea_nil) ⟨by decide, by decide⟩ (fun _ => rfl) (fun i H7 e7 _ => (et_test (ev_op (x := .int (i : Int)) (y := .int to) (ev_var rfl) (ev_var rfl) (rv_ne rfl)))) (fun i H7 e7 _ _ => ev_var rfl)) (by have := given_len 6 (fun i => !decide (V.int (i : Int) = V.int to)) fun i => V.int (i : Int); show 1 + _ ≤ _; rw [sizeLine_eq]; show 1 + (given 6 _ _).length ≤ _; omega)) (fun l1 H7 hl1 e7 h7 => ?_)
      have e17 := e16.trans e7
      refine q_asg (v := .int (v6 % ss)) (ev_op (x := .int v6) (y := .int ss) (ev_at3 (k := 6) (hi.ex e17) rfl ev_c hv6) (ev_var rfl) (rv_I (show (0 : Int) < ss by omega))) (fun H8 e8 => ?_)
      refine q_asgL (xs := machV to ss (v6 % ss)) (el_catLL (el_slN (K := K) (el_sl (ev_var rfl) eo_none (eo_some (ev_var rfl)) (sq_of (e8 _ _ h7))) (eo_some (ev_var rfl)) eo_none) (el_slN (K := K) (el_sl (ev_var rfl) eo_none (eo_some (ev_var rfl)) (sq_of (e8 _ _ h7))) eo_none (eo_some (ev_var rfl))) (by
          have h1 : (machV to ss (v6 % ss)).length ≤ 4 := by rw [M.v, List.length_map, M.len]; omega
          have h2 := h1
          unfold machV at h2
          rw [List.length_append] at h2
          rw [sizeLine_eq]
          exact Nat.le_trans h2 (by decide))) (fun ml H9 hml e9 h9 => ?_)
      rw [M.v] at h9
      refine q_asgL (xs := []) (el_lst ea_nil (by decide)) (fun l HA hl eA hA => ?_)
      have e19 := (e17.trans e8).trans e9
      have hlH : H l = none := fresh_back e19 hl
      have lml : ml ≠ l := fun z => by rw [z, hl] at h9; cases h9
      refine q_forR1 (n := ss) (ea_cons (ev_var rfl) ea_nil) ⟨by omega, by omega⟩ (fun i σ' H' => ∃ (ps : List Pt) (vs : List V) (o11 o16 : Option V), σ' = [some (.str "done"), some (.int to), some (.int from_), some (.ref rl), some (.ref cl), some (.int fst), none, none, some (.int hh), some (.int nn), some (.int ss), o11, some (.ref ml), none, some (.int (v6 % ss)), some (.ref l), o16] ∧ H' l = some (.lst vs) ∧ DaL H' vs (ps.map Pt.dat) ∧ (∀ r ∈ ps, PtOk r) ∧ ps.map Pt.m = (machI to ss (v6 % ss)).take i ∧ ps.length = i ∧ H' ml = some (.lst ((machI to ss (v6 % ss)).map V.int)) ∧ Ex H H')
        (fun HB eB => ⟨[], [], _, _, rfl, eB _ _ hA, DaL.nil, fun r hr => by simp at hr, rfl, rfl, (eA.trans eB) _ _ h9, (e19.trans eA).trans eB⟩) (fun i σ' H' hi4 ⟨ps, vs, o11, o16, hσ, hl', hd, ok, pm, plen, hml', he⟩ => ?_) (fun σ' H' ⟨ps, vs, o11, o16, hσ, hl', hd, ok, pm, plen, hml', he⟩ => ?_)
      · subst hσ
        have vlen : vs.length = i := by rw [hd.length, List.length_map, plen]
        have i4 : i < (machI to ss (v6 % ss)).length := by rw [M.len]; omega
        obtain ⟨mm, hmm⟩ : ∃ z, (machI to ss (v6 % ss))[i]? = some z := ⟨_, List.getElem?_eq_getElem i4⟩
        have m6 := M.six mm (List.mem_of_getElem? hmm)
        refine es_av (E := fun _ => E0) (σ := [some (.str "done"), some (.int to), some (.int from_), some (.ref rl), some (.ref cl), some (.int fst), none, none, some (.int hh), some (.int nn), some (.int ss), o11, some (.ref ml), none, some (.int (v6 % ss)), some (.ref l), some (.int (i : Int))]) (k := 9 + 8 * i) (hi.ex he) rfl (ev_off (n := 9) rfl rfl) rfl (by omega) H' (Ex.refl H') _ (fun v HB eB ⟨d, hdv, wok⟩ => ?_)
        have heB := he.trans eB
        refine ⟨_, rfl, .inl ⟨rfl, _, sq_of (eB _ _ hl')⟩, ?_⟩
        refine (ev_op (x := .ref ml) (y := .int (i : Int)) (z := .int mm) (σ := [some (.str "done"), some (.int to), some (.int from_), some (.ref rl), some (.ref cl), some (.int fst), none, none, some (.int hh), some (.int nn), some (.int ss), some v, some (.ref ml), none, some (.int (v6 % ss)), some (.ref l), some (.int (i : Int))]) (ev_var rfl) (ev_var rfl) (rv_ixL (K := K) (sq_of (eB _ _ hml')) (atI_nat (by rw [List.getElem?_map, hmm]; rfl)))) HB (Ex.refl HB) _ (fun HC eC => ?_)
        refine es_num (E := fun _ => E0) (σ := [some (.str "done"), some (.int to), some (.int from_), some (.ref rl), some (.ref cl), some (.int fst), none, none, some (.int hh), some (.int nn), some (.int ss), some v, some (.ref ml), none, some (.int (v6 % ss)), some (.ref l), some (.int (i : Int))]) (k := 7 + 8 * i) (hi.ex (heB.trans eC)) rfl (ev_off (n := 7) rfl rfl) rfl (by omega) HC (Ex.refl HC) _ (fun v' HD eD ⟨tu, hv', u0, u1⟩ => ?_)
        subst hv'
        obtain ⟨v8, hv8, v80, v81⟩ := row_at hi.ok (show 8 + 8 * i < row.length by omega)
        refine (ev_op (x := .int v8) (y := .int 6) (z := .int (v8 % 6)) (σ := [some (.str "done"), some (.int to), some (.int from_), some (.ref rl), some (.ref cl), some (.int fst), none, none, some (.int hh), some (.int nn), some (.int ss), some v, some (.ref ml), none, some (.int (v6 % ss)), some (.ref l), some (.int (i : Int))]) (ev_at3 (σ := [some (.str "done"), some (.int to), some (.int from_), some (.ref rl), some (.ref cl), some (.int fst), none, none, some (.int hh), some (.int nn), some (.int ss), some v, some (.ref ml), none, some (.int (v6 % ss)), some (.ref l), some (.int (i : Int))]) (k := 8 + 8 * i) (hi.ex ((heB.trans eC).trans eD)) rfl (ev_off (σ := [some (.str "done"), some (.int to), some (.int from_), some (.ref rl), some (.ref cl), some (.int fst), none, none, some (.int hh), some (.int nn), some (.int ss), some v, some (.ref ml), none, some (.int (v6 % ss)), some (.ref l), some (.int (i : Int))]) (n := 8) (i := i) (j := 16) rfl rfl) hv8) ev_c (rv_I (C := fun _ j => 0 < j) (g := fun i j => V.int (i % j)) (by show (0 : Int) < 6; decide))) HD (Ex.refl HD) _ (fun HE eE => ?_)
        refine ⟨_, rfl, by show 4 ≤ sizeLine; decide, fun p hp => ?_⟩
        have eP := Ex.new (o := .tup [V.int mm, V.int tu, V.int (v8 % 6), v]) hp
        have eBP := ((eC.trans eD).trans eE).trans eP
        have hl9 := eBP _ _ (eB _ _ hl')
        have tk : TK (upd HE p (.tup [V.int mm, V.int tu, V.int (v8 % 6), v])) (upd (upd HE p (.tup [V.int mm, V.int tu, V.int (v8 % 6), v])) l (.lst (vs ++ [.ref p]))) := fun b xs hb => by
          have : b ≠ l := fun z => by rw [z, hl9] at hb; cases hb
          rw [upd_ne this]
          exact hb
        have dnew : DaAt (upd HE p (.tup [V.int mm, V.int tu, V.int (v8 % 6), v])) (.ref p) (Pt.dat ⟨mm, tu, v8 % 6, d⟩) := da_tup upd_same (DaL.cons da_int (DaL.cons da_int (DaL.cons da_int (DaL.cons (hdv.ex eBP) DaL.nil))))
        refine ⟨l, vs, .ref p, rfl, rfl, hl9, sz_lt (by omega), ps ++ [⟨mm, tu, v8 % 6, d⟩], vs ++ [.ref p], _, _, rfl, upd_same, ?_, ?_, ?_, ?_, ?_, Ex.mut (heB.trans eBP) hlH⟩
        · rw [List.map_append]
          exact DaL.snoc ((hd.ex (eB.trans eBP)).keep tk) (dnew.keep tk)
        · intro r hr
          rcases List.mem_append.mp hr with hr | hr
          · exact ok r hr
          · rw [List.mem_singleton.mp hr]
            exact ⟨m6.1, m6.2, u0, u1, by show 0 ≤ v8 % 6; omega, by show v8 % 6 < 6; omega, wok⟩
        · rw [List.map_append, pm, List.take_add_one, hmm]
          rfl
        · rw [List.length_append, plen]
          rfl
        · rw [upd_ne lml]
          exact eBP _ _ (eB _ _ hml')
      · subst hσ
        have pl : ps.length = ss.toNat := plen
        have pm2 : ps.map Pt.m = machI to ss (v6 % ss) := by rw [pm, ← M.len, List.take_length]
        refine (ev_fst (f := fst) rfl) H' (Ex.refl H') _ (fun HB eB => ?_)
        refine ⟨_, rfl, _, rfl, _, rfl, by show 3 ≤ sizeLine; decide, fun c hc => ?_⟩
        have eC := Ex.new (o := .tup [V.int from_, V.int nn, V.int ss]) hc
        refine ⟨_, rfl, l, vs, rfl, .inl ⟨sq_of ((eB.trans eC) _ _ hl'), fun t ht' => ?_⟩⟩
        have eT := Ex.new (o := .tup vs) ht'
        refine ⟨by show 2 ≤ sizeLine; decide, fun u hu => ?_⟩
        have eU := Ex.new (o := .tup [V.ref c, V.ref t]) hu
        refine ⟨by show 2 ≤ sizeLine; decide, fun p hp => ?_⟩
        have eP := Ex.new (o := .tup [V.int (fst + 1 - fst / ((10 : Int) ^ (30 : Int).toNat - 1)), V.ref u]) hp
        refine q _ (.done _ nn ss ps) _ (((((he.trans eB).trans eC).trans eT).trans eU).trans eP) rfl ⟨⟨g0, g1⟩, ok, ⟨fr0, fr6, cok.n0, cok.n1, s1, s4⟩, by rw [pm2]; exact M.mem, by rw [pm2]; exact M.nd, pl⟩ (da_tup upd_same (DaL.cons da_int (DaL.cons (da_tup (eP _ _ upd_same) (DaL.cons ((ch_da (upd_same (H := HB) (a := c))).ex ((eT.trans eU).trans eP)) (DaL.cons (da_tup ((eU.trans eP) _ _ upd_same) (hd.ex ((((eB.trans eC).trans eT).trans eU).trans eP))) DaL.nil))) DaL.nil)))
    · refine q_when (b := false) (et_kind (z := "ask") (i := 0) rfl (by decide +kernel)) (fun z => nomatch z) (fun _ H2 e2 => ?_)
      refine q_when (b := true) (et_kind (z := "ask") (i := 0) rfl (by decide +kernel)) (fun _ H3 e3 => ?_) (fun z => nomatch z)
      refine (ev_fst (f := fst) rfl) H3 (Ex.refl H3) _ (fun H4 e4 => ?_)
      have e24 := (e2.trans e3).trans e4
      refine es_num (E := fun _ => E0) (σ := [some (.str "ask"), some (.int to), some (.int from_), some (.ref rl), some (.ref cl), some (.int fst), none, none, none, none, none, none, none, none, none, none, none]) (k := 4) (hi1.ex e24) rfl ev_c rfl (by omega) H4 (Ex.refl H4) _ (fun v H5 e5 ⟨snd, hv, m0, m1⟩ => ?_)
      subst hv
      refine ⟨by show 2 ≤ sizeLine; decide, fun p hp => ?_⟩
      exact q _ (.ask _ snd) _ (((e1.trans e24).trans e5).trans (Ex.new hp)) rfl ⟨⟨g0, g1⟩, m0, m1⟩ (da_tup upd_same (DaL.cons da_int (DaL.cons da_int DaL.nil)))
    · refine q_when (b := true) (et_kind (z := "heard") (i := 0) rfl (by decide +kernel)) (fun _ H2 e2 => ?_) (fun z => nomatch z)
      refine ⟨_, rfl, by show 1 ≤ sizeLine; decide, fun p hp => ?_⟩
      exact q _ (.heard fst) _ ((e1.trans e2).trans (Ex.new hp)) rfl ⟨f0, f1⟩ (da_tup upd_same (DaL.cons da_int DaL.nil))
    · have ne : decide (V.str k = V.str "heard") = false ∧ decide (V.str k = V.str "ask") = false ∧ inV (.str k) [.str "yes", .str "no", .str "free"] = true := by
        rcases hk3 with rfl | rfl | rfl <;> decide +kernel
      refine q_when (b := false) (et_kind (z := k) (i := 0) rfl ne.1) (fun z => nomatch z) (fun _ H2 e2 => ?_)
      refine q_when (b := false) (et_kind (z := k) (i := 0) rfl ne.2.1) (fun z => nomatch z) (fun _ H3 e3 => ?_)
      refine q_when (b := true) (inShort ne.2.2) (fun _ H4 e4 => ?_) (fun z => nomatch z)
      refine (ev_fst (f := fst) rfl) H4 (Ex.refl H4) _ (fun H5 e5 => ?_)
      refine ⟨by show 1 ≤ sizeLine; decide, fun p hp => ?_⟩
      exact q _ (.one k _) _ (((((e1.trans e2).trans e3).trans e4).trans e5).trans (Ex.new hp)) rfl ⟨hk3, g0, g1⟩ (da_tup upd_same (DaL.cons da_int DaL.nil))
end
end Fs

set_option Elab.async false
set_option linter.all false
set_option maxRecDepth 100000
set_option maxHeartbeats 4000000
/-! the law's messages; other bodies -/
namespace Fs
open PySem L2 Evl FsE FsC FsR FsP FsV FsG FsQ FsK
/-- a tuple of data -/
def EvTu (te : TE) (σ : L2.St) (H : Hp) (ds : List PyData) : Prop := ∀ H1, Ex H H1 → ∀ Q : VK, (∀ a xs H2, Ex H1 H2 → H2 a = some (.tup xs) → DaL H2 xs ds → Q (.ref a) H2) → te σ H1 Q
def cutD (ds : List PyData) (lo hi : Option Int) : List PyData := (ds.drop (HT.sIx ds.length 0 lo)).take (HT.sIx ds.length ds.length hi - HT.sIx ds.length 0 lo)
section
variable {σ : L2.St} {H : Hp} {te ta tb : TE} {K : PySem.W.Frag} {ds es : List PyData}
theorem etu_of {a : Addr} {xs : List V} (h : Ev te σ H (.ref a)) (ha : H a = some (.tup xs)) (hd : DaL H xs ds) : EvTu te σ H ds := fun H1 e Q q => h H1 e _ fun H2 e2 => q a xs H2 e2 ((e.trans e2) _ _ ha) (hd.ex (e.trans e2))
theorem etu_da {v : V} (h : Ev te σ H v) (hd : DaAt H v (.tuple ds)) : EvTu te σ H ds := by
  obtain ⟨a, xs, rfl, ha, hx⟩ := hd.tup
  exact etu_of h ha hx
theorem etu_is (h : EvTu te σ H ds) (e : ds = es) : EvTu te σ H es := e ▸ h
theorem etu_sl {tl th : TO} {lo hi : Option Int} (h : EvTu te σ H ds) (h1 : EvO tl σ H lo) (h2 : EvO th σ H hi) : EvTu (tSl (rSlA K) te tl th) σ H (cutD ds lo hi) := fun H1 e Q q =>
  h H1 e _ fun a xs H2 e2 ha hd => h1 H2 (e.trans e2) _ fun H3 e3 => h2 H3 ((e.trans e2).trans e3) _ fun H4 e4 => by
    have e24 := e3.trans e4
    have n : xs.length = ds.length := hd.length
    refine ⟨a, xs, rfl, st_of (e24 _ _ ha), fun hw => ?_, fun _ p hp => ?_⟩
    · have : cutD ds lo hi = ds := by
        unfold cutD
        rw [n] at hw
        rw [hw.1, hw.2, List.drop_zero, Nat.sub_zero, List.take_length]
      rw [this] at q
      exact q a xs H4 (e2.trans e24) (e24 _ _ ha) (hd.ex e24)
    · refine q p _ _ ((e2.trans e24).trans (Ex.new hp)) upd_same ?_
      unfold cutV cutD
      rw [n]
      exact DaL.take _ (DaL.drop _ (hd.ex (e24.trans (Ex.new hp))))
theorem etu_cat (ha : EvTu ta σ H ds) (hb : EvTu tb σ H es) (hz : ds.length + es.length ≤ 1000) : EvTu (tOp (rCatA K) ta tb) σ H (ds ++ es) := fun H1 e Q q =>
  ha H1 e _ fun a xs H2 e2 h2 hd => hb H2 (e.trans e2) _ fun b ys H3 e3 h3 he => by
    have n1 : xs.length = ds.length := hd.length
    have n2 : ys.length = es.length := he.length
    refine ⟨a, b, xs, ys, rfl, rfl, st_of (e3 _ _ h2), st_of h3, by rw [n1, n2, sizeLine_eq]; omega, fun hx => ?_, fun _ hy => ?_, fun _ _ p hp => ?_⟩
    · have : ds = [] := List.eq_nil_of_length_eq_zero (by rw [← n1, hx]; rfl)
      subst this
      exact q b ys H3 (e2.trans e3) h3 he
    · have : es = [] := List.eq_nil_of_length_eq_zero (by rw [← n2, hy]; rfl)
      subst this
      rw [List.append_nil] at q
      exact q a xs H3 (e2.trans e3) (e3 _ _ h2) (hd.ex e3)
    · exact q p _ _ ((e2.trans e3).trans (Ex.new hp)) upd_same (DaL.app (hd.ex (e3.trans (Ex.new hp))) (he.ex (Ex.new hp)))
theorem etu_1 {d : PyData} (h : EvS te σ H (fun v H' => DaAt H' v d)) : EvTu (tTup (tCons te tNil)) σ H [d] := fun H1 e Q q =>
  h H1 e _ fun v H2 e2 hd => ⟨by show 1 ≤ sizeLine; decide, fun p hp => q p _ _ (e2.trans (Ex.new hp)) upd_same (DaL.cons (hd.ex (Ex.new hp)) DaL.nil)⟩
theorem etu_2 {d e' : PyData} (h : EvS ta σ H (fun v H' => DaAt H' v d)) (g : EvS tb σ H (fun v H' => DaAt H' v e')) : EvTu (tTup (tCons ta (tCons tb tNil))) σ H [d, e'] := fun H1 e Q q =>
  h H1 e _ fun v H2 e2 hd => g H2 (e.trans e2) _ fun u H3 e3 he => ⟨by show 2 ≤ sizeLine; decide, fun p hp => q p _ _ ((e2.trans e3).trans (Ex.new hp)) upd_same (DaL.cons (hd.ex (e3.trans (Ex.new hp))) (DaL.cons (he.ex (Ex.new hp)) DaL.nil))⟩
theorem es_tu (h : EvTu te σ H ds) : EvS te σ H (fun v H' => DaAt H' v (.tuple ds)) := fun H1 e Q q => h H1 e _ fun a xs H2 e2 h2 hd => q _ H2 e2 (da_tup h2 hd)
theorem es_da {v : V} {d : PyData} (h : Ev te σ H v) (hd : DaAt H v d) : EvS te σ H (fun v H' => DaAt H' v d) := fun H1 e Q q => h H1 e _ fun H2 e2 => q v H2 e2 (hd.ex (e.trans e2))
theorem cut_tk {j : Nat} : cutD ds none (some (j : Int)) = ds.take j := by
  unfold cutD
  rw [HT.sIx_none, HT.sIx_nat, List.drop_zero, Nat.sub_zero]
  by_cases h : j ≤ ds.length
  · rw [Nat.min_eq_left h]
  · rw [Nat.min_eq_right (by omega), List.take_length, List.take_of_length_le (by omega)]
theorem cut_dr {j : Nat} : cutD ds (some (j : Int)) none = ds.drop j := by
  unfold cutD
  rw [HT.sIx_none, HT.sIx_nat]
  by_cases h : j ≤ ds.length
  · rw [Nat.min_eq_left h, List.take_of_length_le (by rw [List.length_drop]; omega)]
  · rw [Nat.min_eq_right (by omega), List.drop_of_length_le (Nat.le_refl _), List.drop_of_length_le (by omega), List.take_nil]
theorem cut_m1 (h : ds ≠ []) : cutD ds none (some (-1)) = ds.take (ds.length - 1) := by
  have hp : 0 < ds.length := List.length_pos_iff.mpr h
  unfold cutD
  rw [HT.sIx_none, List.drop_zero, Nat.sub_zero]
  have e : HT.sIx ds.length ds.length (some (-1)) = ((-1 : Int) + (ds.length : Int)).toNat := rfl
  rw [e, show ((-1 : Int) + (ds.length : Int)).toNat = ds.length - 1 by omega]
/-- l.append(a tuple of data) -/
theorem s_appD {l : Addr} {xs : List V} {D : Ends} {d : PyData} (hl : H l = some (.lst xs)) (ha : Ev ta σ H (.ref l)) (h : EvS te σ H (fun v H' => DaAt H' v d)) (hz : xs.length < 100000) (k : ∀ v H1, Ex H H1 → DaAt H1 v d → D.nx σ (upd H1 l (.lst (xs ++ [v])))) :
    tDrop (tBM K "list" rAppend ta (tCons te tNil)) D σ H := ha H (Ex.refl H) _ fun H1 e1 =>
  ⟨Or.inl ⟨rfl, xs, sq_of (e1 l _ hl)⟩, h H1 e1 _ fun v H2 e2 hd => ⟨l, xs, v, rfl, rfl, e2 l _ (e1 l _ hl), sz_lt hz, k v H2 (e1.trans e2) hd⟩⟩
end
theorem tk_l {H : Hp} {l : Addr} {xs ys : List V} (h : H l = some (.lst xs)) : TK H (upd H l (.lst ys)) := fun b zs hb => by
  have : b ≠ l := fun z => by rw [z, h] at hb; cases hb
  rw [upd_ne this]
  exact hb
def spAm (K : PySem.W.Frag) : Sp := fun vs H Q _ => ∃ (sc : Addr) (k : Nat) (ns : List Int), vs = [.ref sc, .int (k : Int)] ∧ SqL K H sc (ns.map V.int) ∧ ∀ (v : V) (m : Msg) (H' : Hp), Ex H H' → MsgOk m → DaAt H' v m.dat → Q v H'
def movD : PyData → PyData
  | .int i => .int (i + 1)
  | .tuple [.int h, .int n, .int s] => .tuple [.int h, .int (n + 1), .int s]
  | d => d
theorem movD_ne {d : PyData} (h : WOk d) : movD d ≠ d := by
  rcases h with ⟨i, rfl, _⟩ | ⟨a, n, s, rfl, _⟩
  · intro e
    have : i + 1 = i := by injection e
    omega
  · intro e
    injection e with e
    injection e with _ e
    injection e with e _
    have : n + 1 = n := by injection e
    omega
theorem wok_pk {d : PyData} (h : WOk d) : Pk 1 d := by
  rcases h with ⟨i, rfl, _⟩ | ⟨a, n, s, rfl, _⟩
  · exact Pk.int
  · exact Pk.tup fun d hd => by
      have : d = .int a ∨ d = .int n ∨ d = .int s := by simpa using hd
      rcases this with rfl | rfl | rfl <;> exact Pk.int
theorem mov_pk {d : PyData} (h : WOk d) : Pk 1 (movD d) := by
  rcases h with ⟨i, rfl, _⟩ | ⟨a, n, s, rfl, _⟩
  · exact Pk.int
  · exact Pk.tup fun d hd => by
      have : d = .int a ∨ d = .int (n + 1) ∨ d = .int s := by simpa using hd
      rcases this with rfl | rfl | rfl <;> exact Pk.int
def spMov : Sp := fun vs H Q _ => ∃ (v : V) (d : PyData), vs = [v] ∧ DaAt H v d ∧ WOk d ∧ ∀ v' H', Ex H H' → DaAt H' v' (movD d) → Q v' H'
theorem es_mov {σ : L2.St} {H : Hp} {te : TE} {E : L2.St → XK} {v : V} {d : PyData} (h : Ev te σ H v) (hd : DaAt H v d) (ok : WOk d) : EvS (tCallS spMov E (tCons te tNil)) σ H (fun v H' => DaAt H' v (movD d)) := fun H1 e Q q =>
  h H1 e _ fun H2 e2 => ⟨v, d, rfl, hd.ex (e.trans e2), ok, fun v' H3 e3 h3 => q v' H3 (e2.trans e3) h3⟩
def kinds9 : List Str := ["offers", "done", "ask", "heard", "yes", "no", "free", "offers", "done"]
theorem kinds_in : ∀ z ∈ kinds9, z ∈ kinds7 := by decide +kernel
section
variable {P : Program} {w : World} {K : PySem.W.Frag} {mg : Str → Option Value} {base : Heap} {CR CM : Addr} {k d : Nat}
theorem scAm : FnScope ["_law_script", "_law_at", "_law_row_here", "_law_kind", "_law_to", "_law_sender"] ["_law_script", "_law_at"] (defScope (topS 38)) := ⟨rfl, rfl, rfl, by decide +kernel, rfl, by decide +kernel, by decide +kernel⟩
theorem ok_am {f : Addr} {fd : FuncData} (F : Fun K "_law_any_message" "_law_any_message" (topS 38) f fd) (L : LawT K mg) (GC : CalX P w K mg base CX0 1 "_law_cell_at" (spCellAt K)) (GR : CalX P w K mg base CX0 2 "_law_row" spRow) (GB : CalX P w K mg base CX0 5 "_law_any_body" (spAb K)) : FnOk P w K mg base CX0 6 f fd ["_law_script", "_law_at"] (spAm K) := by
  refine F.ok (k := 5) scAm (fun vs H Q E h => ?_) (fun cdv A outer s H vs Q E hr h => ?_)
  · obtain ⟨sc, k, ns, rfl, _⟩ := h
    rfl
  · obtain ⟨sc, k, ns, rfl, hS, q⟩ := h
    refine ⟨_, pss_cons (ps_set (i := 2) scAm.nd rfl (Or.inl rfl) (pe_cx (E := fun _ => E0) GR hr (by decide) (by rfl) at0 (pa_cons (pe_cx (E := fun _ => E0) GC hr (by decide) (by rfl) at0 (pa_cons (pv 0) (pa_cons (pv 1) pa_nil))) (pa_cons pe_int pa_nil))))
      (pss_cons (ps_set (i := 3) scAm.nd rfl (Or.inl rfl) (pe_ix ix_list (pe_lst (pa_cons pe_str (pa_cons pe_str (pa_cons pe_str (pa_cons pe_str (pa_cons pe_str (pa_cons pe_str (pa_cons pe_str (pa_cons pe_str (pa_cons pe_str pa_nil)))))))))) (pe_op op_mod (pe_callTy call_int1 (by rfl) L.int (by decide +kernel) (pa_cons (pe_ix ix_list (pv 2) pe_int (fun _ _ => rfl)) pa_nil)) pe_int) (fun _ _ => rfl)))
      (pss_cons (ps_set (i := 4) scAm.nd rfl (Or.inl rfl) (pe_op op_mod (pe_callTy call_int1 (by rfl) L.int (by decide +kernel) (pa_cons (pe_ix ix_list (pv 2) pe_int (fun _ _ => rfl)) pa_nil)) pe_int))
      (pss_cons (ps_set (i := 5) scAm.nd rfl (Or.inl rfl) (pe_op op_mod (pe_callTy call_int1 (by rfl) L.int (by decide +kernel) (pa_cons (pe_ix ix_list (pv 2) pe_int (fun _ _ => rfl)) pa_nil)) pe_int))
      (pss_one (ps_ret (pe_tup (pa_cons (pv 3) (pa_cons (pv 4) (pa_cons (pv 5) (pa_cons (pe_cx (E := fun _ => E0) GB hr (Nat.le_refl _) (by rfl) at0 (pa_cons (pv 3) (pa_cons (pv 4) (pa_cons (pv 5) (pa_cons (pv 2) (pa_cons (pe_slice sl_list (pv 0) (po_some (pe_op op_add (pv 1) pe_int)) (po_some (pe_op op_add (pv 1) pe_int))) pa_nil)))))) pa_nil)))))))))), ?_⟩
    refine q_asgS (Pv := fun v H' => ∃ (rl : Addr) (row : List Int), v = .ref rl ∧ H' rl = some (.lst (row.map V.int)) ∧ row.length = 56 ∧ RowOk row) (fun H0 e0 Q0 q0 => ⟨_, rfl, _, rfl, sc, ns, k, rfl, ex_l e0 hS, fun c H1 e1 => ⟨c, 56, rfl, by decide, fun row rlen rok rl H2 hrl e2 h2 => q0 _ H2 (e1.trans e2) ⟨rl, row, rfl, h2, rlen, rok⟩⟩⟩) (fun v H2 e12 ⟨rl, row, hv, h2, rlen, rok⟩ => ?_)
    subst hv
    obtain ⟨v0, hv0, v00, v01⟩ := row_at rok (show 0 < row.length by omega)
    obtain ⟨v1, hv1, v10, v11⟩ := row_at rok (show 1 < row.length by omega)
    obtain ⟨v2, hv2, v20, v21⟩ := row_at rok (show 2 < row.length by omega)
    have at_ : ∀ {HX : Hp} {c : Int} {i : Nat} {v : Int} {o3 o4 o5 : Option V}, Ex H2 HX → c = (i : Int) → row[i]? = some v → Ev (tCB (fun xs H Q => (∃ i, xs = [V.int i] ∧ Q (.int i) H) ∨ ∃ k, xs = [V.bl k] ∧ Q (.int (if k then 1 else 0)) H) (tCons (tOp (rIxL K) (tVar 2) (tC (.int c))) tNil)) [some (.ref sc), some (.int (k : Int)), some (.ref rl), o3, o4, o5] HX (.int v) := fun {HX c i v o3 o4 o5} e hc hv => by
      subst hc
      exact ev_cb (ea_cons (ev_op (ev_var rfl) ev_c (rv_ixL (sq_of (e _ _ h2)) (atI_nat (by rw [List.getElem?_map, hv]; rfl)))) ea_nil) (rc_int (K := K))
    obtain ⟨z, hz⟩ : ∃ z, kinds9[(v0 % 9).toNat]? = some z := ⟨_, List.getElem?_eq_getElem (by show (v0 % 9).toNat < 9; omega)⟩
    have hz7 := kinds_in z (List.mem_of_getElem? hz)
    refine q_asg (v := .str z) (fun H3 e3 Q3 q3 => ⟨by show 9 ≤ sizeLine; decide, fun p hp => ?_⟩) (fun H3 e3 => ?_)
    · refine (ev_op (x := .int v0) (y := .int 9) (z := .int (v0 % 9)) (at_ (i := 0) (e3.trans (Ex.new hp)) rfl hv0) ev_c (rv_I (C := fun _ j => 0 < j) (g := fun i j => V.int (i % j)) (by show (0 : Int) < 9; decide))) _ (Ex.refl _) _ (fun H4 e4 => ?_)
      refine ⟨p, kinds9.map V.str, _, .str z, rfl, rfl, sq_of (e4 _ _ upd_same), ?_, q3 H4 ((Ex.new hp).trans e4)⟩
      rw [show v0 % 9 = (((v0 % 9).toNat : Nat) : Int) by omega]
      exact atI_nat (by rw [List.getElem?_map, hz]; rfl)
    refine q_asg (v := .int (v1 % 6)) (ev_op (x := .int v1) (y := .int 6) (at_ (i := 1) e3 rfl hv1) ev_c (rv_I (C := fun _ j => 0 < j) (g := fun i j => V.int (i % j)) (by show (0 : Int) < 6; decide))) (fun H4 e4 => ?_)
    refine q_asg (v := .int (v2 % 6)) (ev_op (x := .int v2) (y := .int 6) (at_ (i := 2) (e3.trans e4) rfl hv2) ev_c (rv_I (C := fun _ j => 0 < j) (g := fun i j => V.int (i % j)) (by show (0 : Int) < 6; decide))) (fun H5 e5 => ?_)
    have e25 := (e3.trans e4).trans e5
    have hS5 := ex_l (e12.trans e25) hS
    refine ⟨_, rfl, _, rfl, _, rfl, _, rfl, _, rfl, _, rfl, _, rfl, ?_⟩
    refine (el_sl (K := K) (σ := [some (.ref sc), some (.int (k : Int)), some (.ref rl), some (.str z), some (.int (v1 % 6)), some (.int (v2 % 6))]) (xs := ns.map V.int) (lo := some ((k : Int) + 1)) (hi := some ((k : Int) + 7)) (ev_var rfl) (eo_some (ev_op (x := .int (k : Int)) (y := .int 1) (ev_var rfl) ev_c rv_I0)) (eo_some (ev_op (x := .int (k : Int)) (y := .int 7) (ev_var rfl) ev_c rv_I0)) hS5) H5 (Ex.refl H5) _ (fun cl H6 hcl e6 h6 => ?_)
    obtain ⟨ns', hns⟩ : ∃ ns' : List Int, cutV (ns.map V.int) (some ((k : Int) + 1)) (some ((k : Int) + 7)) = ns'.map V.int := ⟨_, by unfold cutV; rw [← List.map_drop, ← List.map_take]⟩
    rw [hns] at h6
    refine ⟨rl, cl, z, v1 % 6, v2 % 6, row, ns', rfl, ⟨sq_of ((e25.trans e6) _ _ h2), sq_of h6, rok⟩, rlen, ⟨by omega, by omega⟩, ⟨by omega, by omega⟩, hz7, fun v b H7 e7 hb bok hd => ?_⟩
    refine ⟨by show 4 ≤ sizeLine; decide, fun p hp => ?_⟩
    have eP := Ex.new (o := .tup [V.str z, V.int (v1 % 6), V.int (v2 % 6), v]) hp
    exact q _ ⟨v1 % 6, v2 % 6, b⟩ _ ((((e12.trans e25).trans e6).trans e7).trans eP) ⟨by show 0 ≤ v1 % 6; omega, by show v1 % 6 < 6; omega, by show 0 ≤ v2 % 6; omega, by show v2 % 6 < 6; omega, bok⟩ (da_tup upd_same (DaL.cons (by rw [show Msg.kind ⟨v1 % 6, v2 % 6, b⟩ = z from hb]; exact da_str) (DaL.cons da_int (DaL.cons da_int (DaL.cons (hd.ex eP) DaL.nil)))))
theorem scMov : FnScope ["_law_thing"] ["_law_thing"] (defScope (topS 39)) := ⟨rfl, rfl, rfl, by decide +kernel, rfl, by decide +kernel, by decide +kernel⟩
theorem ok_mov {f : Addr} {fd : FuncData} (F : Fun K "_law_moved" "_law_moved" (topS 39) f fd) (T : BasT K mg) : FnOk P w K mg base CX0 1 f fd ["_law_thing"] spMov := by
  refine F.ok scMov (fun vs H Q E h => ?_) (fun cdv A outer s H vs Q E hr h => ?_)
  · obtain ⟨v, d, rfl, _⟩ := h
    rfl
  · obtain ⟨v, d, rfl, hv, ok, q⟩ := h
    refine ⟨_, pss_cons (ps_if (pt_val (pe_callB (id := "isinstance") (r := rIsi K) call_isi (by rfl) T.isinst (by decide +kernel) (pa_cons (pv 0) (pa_cons (pe_bltn (v := .ty "tuple") (by rfl) T.tuple (by decide +kernel) rfl) pa_nil))))
        (pss_one (ps_ret (pe_tup (pa_cons (pe_ix ix_tup (pv 0) pe_int (fun _ _ => rfl)) (pa_cons (pe_op op_add (pe_ix ix_tup (pv 0) pe_int (fun _ _ => rfl)) pe_int) (pa_cons (pe_ix ix_tup (pv 0) pe_int (fun _ _ => rfl)) pa_nil)))))) pss_nil)
      (pss_one (ps_ret (pe_op op_add (pv 0) pe_int))), ?_⟩
    rcases ok with ⟨i, rfl, hi⟩ | ⟨h, n, s9, rfl, ok⟩
    · obtain rfl := hv.int
      refine q_when (b := false) (et_B (ev_cb (ea_cons (ev_var rfl) (ea_cons ev_c ea_nil)) (rc_isInt (by decide +kernel)))) (fun z => nomatch z) (fun _ H1 e1 => ?_)
      exact s_ret (v := .int (i + 1)) (ev_op (x := .int i) (y := .int 1) (ev_var rfl) ev_c rv_I0) (fun H2 e2 => q _ H2 (e1.trans e2) da_int)
    · obtain ⟨a, xs, rfl, ha, hx⟩ := hv.tup
      unfold DaL at hx
      obtain ⟨x1, r1, rfl, d1, hx⟩ := hx
      unfold DaL at hx
      obtain ⟨x2, r2, rfl, d2, hx⟩ := hx
      unfold DaL at hx
      obtain ⟨x3, r3, rfl, d3, hx⟩ := hx
      unfold DaL at hx
      subst hx
      have d1 := d1.int
      have d2 := d2.int
      have d3 := d3.int
      subst d1 d2 d3
      refine q_when (b := true) (et_B (ev_cb (ea_cons (ev_var rfl) (ea_cons ev_c ea_nil)) (rc_isi (t := "tuple") (fun H2 e2 => .base (.tup (e2 _ _ ha))) (by decide +kernel)))) (fun _ H1 e1 => ?_) (fun z => nomatch z)
      have ix : ∀ {i : Nat} {v : V} {c : Int} {HX : Hp}, c = (i : Int) → [V.int h, V.int n, V.int s9][i]? = some v → Ex H HX → Ev (tOp (rIxT K) (tVar 0) (tC (.int c))) [some (.ref a)] HX v := fun {i v c HX} hc hi e => by
        subst hc
        exact ev_op (ev_var rfl) ev_c (rv_ixT (st_of (e _ _ ha)) (atI_nat hi))
      exact s_retU (xs := [.int h, .int (n + 1), .int s9]) (eu_tup (ea_cons (ix (i := 0) rfl rfl e1) (ea_cons (ev_op (x := .int n) (y := .int 1) (ix (i := 1) rfl rfl e1) ev_c rv_I0) (ea_cons (ix (i := 2) rfl rfl e1) ea_nil))) (by show 3 ≤ 100000; decide)) (fun p H2 hp e2 h2 => q _ H2 (e1.trans e2) (da_tup h2 (DaL.cons da_int (DaL.cons da_int (DaL.cons da_int DaL.nil)))))
end
end Fs

set_option Elab.async false
set_option linter.all false
set_option maxRecDepth 100000
set_option maxHeartbeats 4000000
/-! other rows, other bodies -/
namespace Fs
open PySem L2 Evl FsE FsC FsR FsP FsV FsG FsQ FsK
/-- rows of values -/
structure RwsOk (rows : List (List PyData)) : Prop where
  ne : rows ≠ []
  len : rows.length ≤ 10
  four : ∀ ds ∈ rows, ds.length = 4
  ok : ∀ ds ∈ rows, ∀ d ∈ ds, WOk d
def rowsD (rows : List (List PyData)) : PyData := .tuple (rows.map .tuple)
def Oth (k : Nat) (d0 d : PyData) : Prop := Pk k d ∧ d ≠ d0
theorem row_pk {ds : List PyData} (h : ∀ d ∈ ds, WOk d) : Pk 2 (.tuple ds) := Pk.tup fun d hd => wok_pk (h d hd)
theorem RwsOk.pk {rows : List (List PyData)} (h : RwsOk rows) : Pk 3 (rowsD rows) := Pk.tup fun d hd => by
  obtain ⟨ds, hds, rfl⟩ := List.mem_map.mp hd
  exact row_pk (h.ok ds hds)
theorem oth_short {rows : List (List PyData)} (h : RwsOk rows) : Oth 3 (rowsD rows) (.tuple ((rows.map PyData.tuple).take ((rows.map PyData.tuple).length - 1))) := by
  refine ⟨Pk.tup fun d hd => ?_, fun e => ?_⟩
  · obtain ⟨ds, hds, rfl⟩ := List.mem_map.mp (List.mem_of_mem_take hd)
    exact row_pk (h.ok ds hds)
  · injection e with e
    have hp : 0 < rows.length := List.length_pos_iff.mpr h.ne
    have := congrArg List.length e
    rw [List.length_take, List.length_map] at this
    omega
def chgRow (ds : List PyData) (j : Nat) (d : PyData) : List PyData := ds.take j ++ [movD d] ++ ds.drop (j + 1)
theorem chg_ne {ds : List PyData} {j : Nat} {d : PyData} (hd : ds[j]? = some d) (ok : WOk d) : chgRow ds j d ≠ ds := fun e => by
  have hj : j < ds.length := (List.getElem?_eq_some_iff.mp hd).1
  have h := congrArg (fun l : List PyData => l[j]?) e
  simp only [chgRow] at h
  rw [List.append_assoc, List.getElem?_append_right (by rw [List.length_take]; omega), List.length_take, Nat.min_eq_left (by omega), Nat.sub_self, hd] at h
  exact movD_ne ok (Option.some.inj h)
theorem oth_chg {rows : List (List PyData)} (h : RwsOk rows) {k j : Nat} {ds : List PyData} {d : PyData} (hk : rows[k]? = some ds) (hj : ds[j]? = some d) :
    Oth 3 (rowsD rows) (.tuple ((rows.map PyData.tuple).take k ++ [.tuple (chgRow ds j d)] ++ (rows.map PyData.tuple).drop (k + 1))) := by
  have hm := List.mem_of_getElem? hk
  have hd := h.ok ds hm d (List.mem_of_getElem? hj)
  have old : ∀ x ∈ rows.map PyData.tuple, Pk 2 x := fun x hx => by
    obtain ⟨es, hes, rfl⟩ := List.mem_map.mp hx
    exact row_pk (h.ok es hes)
  refine ⟨Pk.tup fun x hx => ?_, fun e => ?_⟩
  · rcases List.mem_append.mp hx with hx | hx
    · rcases List.mem_append.mp hx with hx | hx
      · exact old x (List.mem_of_mem_take hx)
      · rw [List.mem_singleton.mp hx]
        refine Pk.tup fun y hy => ?_
        rcases List.mem_append.mp hy with hy | hy
        · rcases List.mem_append.mp hy with hy | hy
          · exact wok_pk (h.ok ds hm y (List.mem_of_mem_take hy))
          · rw [List.mem_singleton.mp hy]
            exact mov_pk hd
        · exact wok_pk (h.ok ds hm y (List.mem_of_mem_drop hy))
    · exact old x (List.mem_of_mem_drop hx)
  · injection e with e
    have hkl : k < rows.length := (List.getElem?_eq_some_iff.mp hk).1
    have h2 : ((rows.map PyData.tuple).take k ++ [.tuple (chgRow ds j d)] ++ (rows.map PyData.tuple).drop (k + 1))[k]? = (rows.map PyData.tuple)[k]? := congrArg (fun l : List PyData => l[k]?) e
    rw [List.append_assoc, List.getElem?_append_right (by rw [List.length_take, List.length_map]; omega), List.length_take, List.length_map, Nat.min_eq_left (by omega), Nat.sub_self, List.getElem?_map, hk] at h2
    have h3 := Option.some.inj h2
    injection h3 with h3
    exact chg_ne hj hd h3
/-- a list of data, each of them other than d0 -/
def OthL (k : Nat) (d0 : PyData) (H : Hp) (vs : List V) : Prop := ∃ ds, DaL H vs ds ∧ ∀ d ∈ ds, Oth k d0 d
theorem OthL.keep {k : Nat} {d0 : PyData} {H H' : Hp} {vs : List V} (h : OthL k d0 H vs) (e : TK H H') : OthL k d0 H' vs := by
  obtain ⟨ds, h1, h2⟩ := h
  exact ⟨ds, h1.keep e, h2⟩
theorem OthL.ex {k : Nat} {d0 : PyData} {H H' : Hp} {vs : List V} (h : OthL k d0 H vs) (e : Ex H H') : OthL k d0 H' vs := h.keep (TK.of e)
theorem OthL.snoc {k : Nat} {d0 d : PyData} {H : Hp} {vs : List V} {v : V} (h : OthL k d0 H vs) (hv : DaAt H v d) (o : Oth k d0 d) : OthL k d0 H (vs ++ [v]) := by
  obtain ⟨ds, h1, h2⟩ := h
  refine ⟨ds ++ [d], DaL.snoc h1 hv, fun x hx => ?_⟩
  rcases List.mem_append.mp hx with hx | hx
  · exact h2 x hx
  · rw [List.mem_singleton.mp hx]
    exact o
theorem OthL.nil {k : Nat} {d0 : PyData} {H : Hp} : OthL k d0 H [] := ⟨[], DaL.nil, fun d hd => by simp at hd⟩
def spOr : Sp := fun vs H Q _ => ∃ (v : V) (rows : List (List PyData)), vs = [v] ∧ DaAt H v (rowsD rows) ∧ RwsOk rows ∧ ∀ l vs' H', H l = none → Ex H H' → H' l = some (.lst vs') → OthL 3 (rowsD rows) H' vs' → vs'.length ≤ 9 → Q (.ref l) H'
section
variable {P : Program} {w : World} {K : PySem.W.Frag} {mg : Str → Option Value} {base : Heap} {CR CM : Addr} {k d : Nat}
abbrev nsOr : List Str := ["_law_rows", "_law_found", "_law_k", "_law_j", "_law_row_here"]
theorem scOr : FnScope nsOr ["_law_rows"] (defScope (topS 40)) := ⟨rfl, rfl, rfl, by decide +kernel, rfl, by decide +kernel, by decide +kernel⟩
theorem ok_or {f : Addr} {fd : FuncData} (F : Fun K "_law_other_rows" "_law_other_rows" (topS 40) f fd) (L : LawT K mg) (GM : CalX P w K mg base CX0 1 "_law_moved" spMov) : FnOk P w K mg base CX0 2 f fd ["_law_rows"] spOr := by
  refine F.ok (k := 1) scOr (fun vs H Q E h => ?_) (fun cdv A outer s H vs Q E hr h => ?_)
  · obtain ⟨v, rows, rfl, _⟩ := h
    rfl
  · obtain ⟨v, rows, rfl, hv, ok, q⟩ := h
    refine ⟨_, pss_cons (ps_set (i := 1) scOr.nd rfl (Or.inl rfl) (pe_lst (pa_cons (pe_slice sl_tupA (pv 0) po_none (po_some (pe_un un_neg pe_int))) pa_nil)))
      (pss_cons (ps_for PassesOwn.never rfl (pi_list (pe_lst (pa_cons pe_int (pa_cons (pe_op op_sub (pe_callB call_len_seq (by rfl) L.len PySem.boot_len (pa_cons (pv 0) pa_nil)) pe_int) pa_nil)))) (pg_name (i := 2) scOr.nd rfl (Or.inl rfl))
        (pss_one (ps_for PassesOwn.never rfl (pi_range1 rfl L.range (pa_cons pe_int pa_nil)) (pg_name (i := 3) scOr.nd rfl (Or.inl rfl))
          (pss_cons (ps_set (i := 4) scOr.nd rfl (Or.inl rfl) (pe_op op_catA (pe_op op_catA (pe_slice sl_tupA (pe_ix ix_tup (pv 0) (pv 2) (fun _ _ => rfl)) po_none (po_some (pv 3))) (pe_tup (pa_cons (pe_cx (E := fun _ => E0) GM hr (by decide) (by rfl) at0 (pa_cons (pe_ix ix_tup (pe_ix ix_tup (pv 0) (pv 2) (fun _ _ => rfl)) (pv 3) (fun _ _ => rfl)) pa_nil)) pa_nil))) (pe_slice sl_tupA (pe_ix ix_tup (pv 0) (pv 2) (fun _ _ => rfl)) (po_some (pe_op op_add (pv 3) pe_int)) po_none)))
          (pss_one (ps_expr (pe_bm PySem.F.plainAttrs_list PySem.F.slot_list_append PySem.F.type_list_append mt_append (pv 1) (pa_cons (pe_op op_catA (pe_op op_catA (pe_slice sl_tupA (pv 0) po_none (po_some (pv 2))) (pe_tup (pa_cons (pv 4) pa_nil))) (pe_slice sl_tupA (pv 0) (po_some (pe_op op_add (pv 2) pe_int)) po_none)) pa_nil))))))))
      (pss_one (ps_ret (pv 1)))), ?_⟩
    obtain ⟨a, xs, rfl, ha, hx⟩ := DaAt.tup (show DaAt H v (.tuple (rows.map PyData.tuple)) from hv)
    have xl : xs.length = rows.length := by rw [hx.length, List.length_map]
    have hp : 0 < rows.length := List.length_pos_iff.mpr ok.ne
    have rl := ok.len
    have all : ∀ {H1 : Hp} {o1 o2 o3 o4 : Option V}, Ex H H1 → EvTu (tVar 0) [some (.ref a), o1, o2, o3, o4] H1 (rows.map PyData.tuple) := fun e => etu_of (ev_var rfl) (e _ _ ha) (hx.ex e)
    refine q_asgS (Pv := fun v H' => ∃ l vs, v = .ref l ∧ H l = none ∧ H' l = some (.lst vs) ∧ OthL 3 (rowsD rows) H' vs ∧ vs.length = 1) (fun H0 e0 Q0 q0 => ?_) (fun v H1 e1 ⟨l, vs, hv1, hl, h1, o1, len1⟩ => ?_)
    · refine etu_sl (K := K) (lo := none) (hi := some (-1)) (all e0) eo_none (eo_some (ev_un ev_c (ru_neg (i := 1)))) H0 (Ex.refl H0) _ (fun b ys H2 e2 hb hd => ?_)
      rw [cut_m1 (by simp [ok.ne])] at hd
      refine ⟨by show 1 ≤ sizeLine; decide, fun p hp2 => q0 _ _ (e2.trans (Ex.new hp2)) ⟨p, _, rfl, fresh_back (e0.trans e2) hp2, upd_same, ?_, rfl⟩⟩
      have eN := Ex.new (o := .lst [.ref b]) hp2
      exact OthL.snoc (vs := []) OthL.nil (da_tup (eN _ _ hb) (hd.ex eN)) (oth_short ok)
    subst hv1
    refine q_forNL (xs := [.int 0, .int ((rows.length : Int) - 1)]) (el_lst (ea_cons ev_c (ea_cons (ev_op (x := .int ((rows.length : Nat) : Int)) (y := .int 1) (by rw [← xl]; exact ev_cb (ea_cons (ev_var rfl) ea_nil) (fun H5 e5 Q5 q5 => ⟨a, xs, rfl, .inr (st_of ((e1.trans e5) _ _ ha)), q5 H5 (Ex.refl H5)⟩)) ev_c rv_I0) ea_nil)) (by show 2 ≤ 100000; decide))
      (fun p i σ' H' => ∃ (vs : List V) (o2 o3 o4 : Option V), σ' = [some (.ref a), some (.ref l), o2, o3, o4] ∧ H' l = some (.lst vs) ∧ OthL 3 (rowsD rows) H' vs ∧ vs.length = 1 + 4 * i ∧ Ex H H' ∧ H' p = some (.lst [.int 0, .int ((rows.length : Int) - 1)]) ∧ p ≠ l)
      (fun p H2 hp2 e2 h2 => ⟨vs, _, _, _, rfl, e2 _ _ h1, o1.ex e2, by rw [len1], e1.trans e2, h2, fun z => by rw [z, h1] at hp2; cases hp2⟩) (fun p i σ' H' _ ⟨_, _, _, _, _, _, _, _, _, hp', _⟩ => sq_of hp') (fun p i x σ' H' hi ⟨vs, o2, o3, o4, hσ, hl', ho, hlen, he, hp', npl⟩ => ?_) (fun p σ' H' ⟨vs, o2, o3, o4, hσ, hl', ho, hlen, he, hp', npl⟩ => ?_)
    · subst hσ
      obtain ⟨k, rfl, hk, hi2⟩ : ∃ k : Nat, x = .int (k : Int) ∧ k < rows.length ∧ i < 2 := by
        match i, hi with
        | 0, hi => exact ⟨0, (Option.some.inj hi).symm, hp, by decide⟩
        | 1, hi => exact ⟨rows.length - 1, by rw [← Option.some.inj hi, show ((rows.length - 1 : Nat) : Int) = (rows.length : Int) - 1 by omega], by omega, by decide⟩
        | i + 2, hi => exact absurd hi (by simp)
      obtain ⟨ds, hds⟩ : ∃ z, rows[k]? = some z := ⟨_, List.getElem?_eq_getElem hk⟩
      have hm := List.mem_of_getElem? hds
      have d4 := ok.four ds hm
      obtain ⟨v, hv2, hdv⟩ := hx.get (i := k) (d := .tuple ds) (by rw [List.getElem?_map, hds]; rfl)
      obtain ⟨b, ys, rfl, hb, hy⟩ := hdv.tup
      have yl : ys.length = ds.length := hy.length
      refine s_forR1 (n := 4) (ea_cons ev_c ea_nil) ⟨by decide, by decide⟩ (fun j σ' H' => ∃ (vs : List V) (o3 o4 : Option V), σ' = [some (.ref a), some (.ref l), some (.int (k : Int)), o3, o4] ∧ H' l = some (.lst vs) ∧ OthL 3 (rowsD rows) H' vs ∧ vs.length = 1 + 4 * i + j ∧ Ex H H' ∧ H' p = some (.lst [.int 0, .int ((rows.length : Int) - 1)]))
        (fun H3 e3 => ⟨vs, _, _, rfl, e3 _ _ hl', ho.ex e3, by rw [hlen]; rfl, he.trans e3, e3 _ _ hp'⟩) (fun j σ' H3 hj ⟨vs, o3, o4, hσ, hl3, ho3, hlen3, he3, hp3⟩ => ?_) (fun σ' H3 ⟨vs, o3, o4, hσ, hl3, ho3, hlen3, he3, hp3⟩ => ⟨vs, _, _, _, hσ, hl3, ho3, by rw [hlen3]; show 1 + 4 * i + 4 = 1 + 4 * (i + 1); omega, he3, hp3, npl⟩)
      subst hσ
      have j4 : j < ds.length := by rw [d4]; omega
      obtain ⟨d, hd⟩ : ∃ z, ds[j]? = some z := ⟨_, List.getElem?_eq_getElem j4⟩
      obtain ⟨u, hu, hdu⟩ := hy.get hd
      have dok := ok.ok ds hm d (List.mem_of_getElem? hd)
      have item : ∀ {H4 : Hp} {o4 : Option V}, Ex H H4 → Ev (tOp (rIxT K) (tVar 0) (tVar 2)) [some (.ref a), some (.ref l), some (.int (k : Int)), some (.int (j : Int)), o4] H4 (.ref b) := fun e => ev_op (ev_var rfl) (ev_var rfl) (rv_ixT (st_of (e _ _ ha)) (atI_nat hv2))
      have row : EvTu (tOp (rCatA K) (tOp (rCatA K) (tSl (rSlA K) (tOp (rIxT K) (tVar 0) (tVar 2)) tNoPart (tPart (tVar 3))) (tTup (tCons (tCallS spMov (fun _ => E0) (tCons (tOp (rIxT K) (tOp (rIxT K) (tVar 0) (tVar 2)) (tVar 3)) tNil)) tNil))) (tSl (rSlA K) (tOp (rIxT K) (tVar 0) (tVar 2)) (tPart (tOp (rI0 fun i j => V.int (i + j)) (tVar 3) (tC (.int 1)))) tNoPart)) [some (.ref a), some (.ref l), some (.int (k : Int)), some (.int (j : Int)), o4] H3 (chgRow ds j d) := by
        refine etu_cat (etu_cat (etu_is (etu_sl (etu_of (item he3) (he3 _ _ hb) (hy.ex he3)) eo_none (eo_some (ev_var rfl))) cut_tk) (etu_1 (es_mov (ev_op (x := .ref b) (y := .int (j : Int)) (item he3) (ev_var rfl) (rv_ixT (st_of (he3 _ _ hb)) (atI_nat hu))) (hdu.ex he3) dok)) ?_) (etu_is (etu_sl (lo := some ((j + 1 : Nat) : Int)) (etu_of (item he3) (he3 _ _ hb) (hy.ex he3)) (eo_some (ev_is (ev_op (x := .int (j : Int)) (y := .int 1) (ev_var rfl) ev_c rv_I0) (by show V.int ((j : Int) + 1) = _; rw [show ((j + 1 : Nat) : Int) = (j : Int) + 1 by omega]))) eo_none) cut_dr) ?_
        · rw [List.length_take, d4]
          show min j 4 + 1 ≤ 1000
          omega
        · rw [List.length_append, List.length_take, List.length_drop, d4]
          show min j 4 + 1 + (4 - (j + 1)) ≤ 1000
          omega
      refine q_asgS (es_tu row) (fun v H4 e4 hv4 => ?_)
      have he4 := he3.trans e4
      refine s_appD (d := .tuple ((rows.map PyData.tuple).take k ++ [.tuple (chgRow ds j d)] ++ (rows.map PyData.tuple).drop (k + 1))) (e4 _ _ hl3) (ev_var rfl) (es_tu (etu_cat (etu_cat (etu_is (etu_sl (all he4) eo_none (eo_some (ev_var rfl))) cut_tk) (etu_1 (es_da (ev_var rfl) hv4)) ?_) (etu_is (etu_sl (lo := some ((k + 1 : Nat) : Int)) (all he4) (eo_some (ev_is (ev_op (x := .int (k : Int)) (y := .int 1) (ev_var rfl) ev_c rv_I0) (by show V.int ((k : Int) + 1) = _; rw [show ((k + 1 : Nat) : Int) = (k : Int) + 1 by omega]))) eo_none) cut_dr) ?_)) (by rw [hlen3]; omega) (fun v5 H5 e5 hv5 => ?_)
      · rw [List.length_take, List.length_map]
        show min k rows.length + 1 ≤ 1000
        omega
      · rw [List.length_append, List.length_take, List.length_drop, List.length_map]
        show min k rows.length + 1 + (rows.length - (k + 1)) ≤ 1000
        omega
      · have hl5 := (e4.trans e5) _ _ hl3
        refine ⟨vs ++ [v5], _, _, rfl, upd_same, ?_, by rw [List.length_append, hlen3]; rfl, Ex.mut (he4.trans e5) hl, ?_⟩
        · exact (OthL.snoc (ho3.ex (e4.trans e5)) hv5 (oth_chg ok hds hd)).keep (tk_l hl5)
        · rw [upd_ne npl]
          exact (e4.trans e5) _ _ hp3
    · subst hσ
      exact s_ret (ev_var rfl) (fun H3 e3 => q l vs H3 hl (he.trans e3) (e3 _ _ hl') (ho.ex e3) (by rw [hlen]; show 1 + 4 * 2 ≤ 9; decide))
end
end Fs

set_option Elab.async false
set_option linter.all false
set_option maxRecDepth 100000
set_option maxHeartbeats 4000000
/-! other bodies -/
namespace Fs
open PySem L2 Evl FsE FsC FsR FsP FsV FsG FsQ FsK
def EvOt (k : Nat) (d0 : PyData) (te : TE) (σ : L2.St) (H : Hp) : Prop := ∀ H1, Ex H H1 → ∀ Q : VK, (∀ l xs H2, H1 l = none → Ex H1 H2 → H2 l = some (.lst xs) → OthL k d0 H2 xs → xs.length ≤ 9 → Q (.ref l) H2) → te σ H1 Q
theorem OthL.app {k : Nat} {d0 : PyData} {H : Hp} {vs us : List V} (h : OthL k d0 H vs) (g : OthL k d0 H us) : OthL k d0 H (vs ++ us) := by
  obtain ⟨ds, h1, h2⟩ := h
  obtain ⟨es, g1, g2⟩ := g
  refine ⟨ds ++ es, DaL.app h1 g1, fun x hx => ?_⟩
  rcases List.mem_append.mp hx with hx | hx
  · exact h2 x hx
  · exact g2 x hx
theorem lc_oth {K : PySem.W.Frag} {te tc : TE} {σ : L2.St} {H : Hp} {j k k' : Nat} {vs : List Nat} {d0 d1 : PyData} (hc : EvOt k d0 tc σ H) (hw : ∀ x, wipe ((wipe σ vs).set j (some x)) vs = wipe σ vs)
    (he : ∀ x d H1, Ex H H1 → DaAt H1 x d → Oth k d0 d → EvS te ((wipe σ vs).set j (some x)) H1 (fun v H' => ∃ e, DaAt H' v e ∧ Oth k' d1 e)) : EvOt k' d1 (tLc (iList K tc) (gName j) tYes te vs) σ H := fun H1 e Q q =>
  hc H1 e _ fun l xs H2 hl e2 h2 ho hn => ⟨l, rfl, ⟨xs, sq_of h2⟩, fun Dl hD => lc_list (xs := xs) (fun i H' => ∃ ys, H' Dl = some (.lst ys) ∧ OthL k' d1 H' ys ∧ ys.length = i ∧ Ex H2 H') ⟨[], upd_same, OthL.nil, rfl, Ex.new hD⟩ (fun i H' _ ⟨_, _, _, _, he'⟩ => sq_of (he' _ _ h2))
    (fun i x H' hi ⟨ys, h', o', n', e'⟩ => by
      obtain ⟨ds, hds, hall⟩ := ho.ex e'
      obtain ⟨d, hd, hdx⟩ := hds.got hi
      have ilt := (List.getElem?_eq_some_iff.mp hi).1
      refine ⟨hw x, he x d H' ((e.trans e2).trans e') hdx (hall d (List.mem_of_getElem? hd)) H' (Ex.refl H') _ fun v H4 e4 ⟨e9, hv, oe⟩ => ?_⟩
      refine ⟨ys, e4 _ _ h', sz_lt (by omega), ys ++ [v], upd_same, ((OthL.snoc (o'.ex e4) hv oe)).keep (tk_l (e4 _ _ h')), by rw [List.length_append, n']; rfl, Ex.mut (e'.trans e4) hD⟩)
    (fun H' ⟨ys, h', o', n', e'⟩ => q Dl ys H' (fresh_back e2 hD) (e2.trans e') h' o' (by rw [n']; exact hn))⟩
theorem s_extO {K : PySem.W.Frag} {σ : L2.St} {H : Hp} {ta te : TE} {k : Nat} {d0 : PyData} {l : Addr} {xs : List V} {D : Ends} (hl : H l = some (.lst xs)) (ha : Ev ta σ H (.ref l)) (h : EvOt k d0 te σ H) (hz : xs.length ≤ 100) (q : ∀ ys H1, Ex H H1 → OthL k d0 H1 ys → ys.length ≤ 9 → D.nx σ (upd H1 l (.lst (xs ++ ys)))) :
    tDrop (tBM K "list" rExtend ta (tCons te tNil)) D σ H := ha H (Ex.refl H) _ fun H1 e1 =>
  ⟨Or.inl ⟨rfl, xs, sq_of (e1 l _ hl)⟩, h H1 e1 _ fun p ys H2 hp e2 h2 o2 n2 => ⟨l, p, xs, ys, rfl, rfl, e2 l _ (e1 l _ hl), h2, by rw [sizeLine_eq]; omega, q ys H2 (e1.trans e2) o2 n2⟩⟩
theorem rws_R {h : Int} {rs : List Rw} (ok : RsOk h rs) (ne : rs ≠ []) : RwsOk (rs.map (Rw.four h)) := ⟨by simp [ne], by have := ok.len; rw [List.length_map]; omega, fun ds hds => by
    obtain ⟨r, _, rfl⟩ := List.mem_map.mp hds
    rfl, fun ds hds => by
    obtain ⟨r, hr, rfl⟩ := List.mem_map.mp hds
    exact (ok.ok r hr).four⟩
theorem rws_P {to h n s : Int} {ps : List Pt} (ok : PsOk to h n s ps) : RwsOk (ps.map Pt.four) := ⟨by
    have := ok.len
    have := ok.ch.s1
    intro e
    have h0 : ps = [] := List.map_eq_nil_iff.mp e
    subst h0
    have : (0 : Nat) = s.toNat := ok.len
    omega, by have := ok.len; have := ok.ch.s4; rw [List.length_map]; omega, fun ds hds => by
    obtain ⟨r, _, rfl⟩ := List.mem_map.mp hds
    rfl, fun ds hds => by
    obtain ⟨r, hr, rfl⟩ := List.mem_map.mp hds
    exact (ok.ok r hr).four⟩
theorem dat_R (h : Int) (rs : List Rw) : PyData.tuple (rs.map (Rw.dat h)) = rowsD (rs.map (Rw.four h)) := congrArg PyData.tuple (map_dat (fun _ => rfl) rs)
theorem dat_P (ps : List Pt) : PyData.tuple (ps.map Pt.dat) = rowsD (ps.map Pt.four) := congrArg PyData.tuple (map_dat (fun _ => rfl) ps)
theorem body_first {to from_ : Int} : ∀ b : Bd, BdOk to from_ b → ∃ (f : Int) (ds : List PyData), b.dat to from_ = .tuple (.int f :: ds) ∧ (∀ d ∈ ds, Pk 4 d) ∧ ds.length ≤ 1
  | .heard f, _ => ⟨f, [], rfl, fun d hd => by simp at hd, by decide⟩
  | .one _ f, _ => ⟨f, [], rfl, fun d hd => by simp at hd, by decide⟩
  | .ask f g, _ => ⟨f, [.int g], rfl, fun d hd => by rw [List.mem_singleton.mp hd]; exact Pk.int, by show 1 ≤ 1; decide⟩
  | .offers f rs, ok => ⟨f, [.tuple (rs.map (Rw.dat to))], rfl, fun d hd => by
      rw [List.mem_singleton.mp hd]
      exact Pk.mono (Pk.tup (k := 2) fun x hx => by
        obtain ⟨r, hr, rfl⟩ := List.mem_map.mp hx
        exact row_pk ((ok.2.ok r hr).four)) (by decide), by show 1 ≤ 1; decide⟩
  | .done f n s ps, ok => ⟨f, [mtD from_ n s ps], rfl, fun d hd => by
      rw [List.mem_singleton.mp hd]
      refine Pk.tup (k := 3) fun x hx => ?_
      have : x = chD from_ n s ∨ x = .tuple (ps.map Pt.dat) := by simpa using hx
      rcases this with rfl | rfl
      · exact Pk.mono (wok_pk (.inr ⟨_, _, _, rfl, ok.2.ch⟩)) (by decide)
      · rw [dat_P]
        exact (rws_P ok.2).pk, by show 1 ≤ 1; decide⟩
theorem body_pk {to from_ : Int} {b : Bd} (ok : BdOk to from_ b) : Pk 5 (b.dat to from_) := by
  obtain ⟨f, ds, e, h, _⟩ := body_first b ok
  rw [e]
  exact Pk.tup fun d hd => by
    rcases List.mem_cons.mp hd with rfl | hd
    · exact Pk.int
    · exact h d hd
def spOb : Sp := fun vs H Q _ => ∃ (v : V) (m : Msg), vs = [.str m.kind, v] ∧ DaAt H v m.body ∧ MsgOk m ∧ ∀ l vs' H', H l = none → Ex H H' → H' l = some (.lst vs') → OthL 6 m.body H' vs' → vs'.length ≤ 20 → Q (.ref l) H'
theorem pair_ne {a b c d : PyData} (h : a ≠ c ∨ b ≠ d) : PyData.tuple [a, b] ≠ .tuple [c, d] := fun e => by
  injection e with e
  injection e with e1 e2
  injection e2 with e2 _
  rcases h with h | h
  · exact h e1
  · exact h e2
theorem pk_pair {k : Nat} {a b : PyData} (h : Pk k a) (g : Pk k b) : Pk (k + 1) (.tuple [a, b]) := Pk.tup fun x hx => by
  have : x = a ∨ x = b := by simpa using hx
  rcases this with rfl | rfl
  · exact h
  · exact g
section
variable {P : Program} {w : World} {K : PySem.W.Frag} {mg : Str → Option Value} {base : Heap} {CR CM : Addr} {k d : Nat}
abbrev nsOb : List Str := ["_law_kind", "_law_body", "_law_found", "_law_rows", "_law_channel", "_law_parts"]
theorem scOb : FnScope nsOb ["_law_kind", "_law_body"] (defScope (topS 41)) := ⟨rfl, rfl, rfl, by decide +kernel, rfl, by decide +kernel, by decide +kernel⟩
theorem ok_ob {f : Addr} {fd : FuncData} (F : Fun K "_law_other_bodies" "_law_other_bodies" (topS 41) f fd) (GM : CalX P w K mg base CX0 1 "_law_moved" spMov) (GO : CalX P w K mg base CX0 2 "_law_other_rows" spOr) : FnOk P w K mg base CX0 3 f fd ["_law_kind", "_law_body"] spOb := by
  refine F.ok (k := 2) scOb (fun vs H Q E h => ?_) (fun cdv A outer s H vs Q E hr h => ?_)
  · obtain ⟨v, m, rfl, _⟩ := h
    rfl
  · obtain ⟨v, m, rfl, hv, ok, q⟩ := h
    refine ⟨_, pss_cons (ps_set (i := 2) scOb.nd rfl (Or.inl rfl) (pe_lst (pa_cons (pe_op op_catA (pe_tup (pa_cons (pe_op op_add (pe_ix ix_tup (pv 1) pe_int (fun _ _ => rfl)) pe_int) pa_nil)) (pe_slice sl_tupA (pv 1) (po_some pe_int) po_none)) pa_nil)))
      (pss_cons (ps_if (pt_cmpR op_eq (pv 0) pe_str (nomark _)) (pss_one (ps_expr (pe_bm PySem.F.plainAttrs_list PySem.F.slot_list_append PySem.F.type_list_append mt_append (pv 2) (pa_cons (pe_tup (pa_cons (pe_ix ix_tup (pv 1) pe_int (fun _ _ => rfl)) (pa_cons (pe_op op_add (pe_ix ix_tup (pv 1) pe_int (fun _ _ => rfl)) pe_int) pa_nil))) pa_nil)))) pss_nil)
      (pss_cons (ps_if (PW.pt (pw_and (pt_cmpR op_eq (pv 0) pe_str (nomark _)) (pw_and1 (pt_cmpR (op_neD hr.units) (pe_ix ix_tup (pv 1) pe_int (fun _ _ => rfl)) (pe_tup pa_nil) (nomark _)))))
        (pss_one (ps_expr (pe_bm PySem.F.plainAttrs_list PySem.F.slot_list_extend PySem.F.type_list_extend mt_extend (pv 2) (pa_cons (pe_lc (own := [("_law_rows", 3)]) (g := gName 3) (tt := tYes) rfl scOb.nd (pi_list (pe_cx (E := fun _ => E0) GO hr (by decide) (by rfl) at0 (pa_cons (pe_ix ix_tup (pv 1) pe_int (fun _ _ => rfl)) pa_nil))) (blkOk_by (own := [("_law_rows", 3)]) (N := nsOb) (sc := defScope (topS 41)) (by decide +kernel))
          (fun _ _ _ _ _ => pg_name (i := 3) scOb.nd rfl (Or.inl rfl)) (fun _ _ _ _ _ => pts_nil) (fun _ _ _ _ _ => pe_tup (pa_cons (pe_ix (r := rIxT K) ix_tup (pv 1) pe_int (fun _ _ => rfl)) (pa_cons (pv 3) pa_nil)))) pa_nil)))) pss_nil)
      (pss_cons (ps_if (pt_cmpR op_eq (pv 0) pe_str (nomark _)) (pss_cons (ps_asg (pe_ix ix_tup (pv 1) pe_int (fun _ _ => rfl)) (pg_tup rfl (pgs_cons (pg_name (i := 4) scOb.nd rfl (.inr rfl)) (pgs_cons (pg_name (i := 5) scOb.nd rfl (.inl rfl)) pgs_nil))))
        (pss_cons (ps_expr (pe_bm PySem.F.plainAttrs_list PySem.F.slot_list_append PySem.F.type_list_append mt_append (pv 2) (pa_cons (pe_tup (pa_cons (pe_ix ix_tup (pv 1) pe_int (fun _ _ => rfl)) (pa_cons (pe_tup (pa_cons (pe_cx (E := fun _ => E0) GM hr (by decide) (by rfl) at0 (pa_cons (pv 4) pa_nil)) (pa_cons (pv 5) pa_nil))) pa_nil))) pa_nil)))
        (pss_one (ps_expr (pe_bm PySem.F.plainAttrs_list PySem.F.slot_list_extend PySem.F.type_list_extend mt_extend (pv 2) (pa_cons (pe_lc (own := [("_law_rows", 3)]) (g := gName 3) (tt := tYes) rfl scOb.nd (pi_list (pe_cx (E := fun _ => E0) GO hr (by decide) (by rfl) at0 (pa_cons (pv 5) pa_nil))) (blkOk_by (own := [("_law_rows", 3)]) (N := nsOb) (sc := defScope (topS 41)) (by decide +kernel))
          (fun _ _ _ _ _ => pg_name (i := 3) scOb.nd rfl (Or.inl rfl)) (fun _ _ _ _ _ => pts_nil) (fun _ _ _ _ _ => pe_tup (pa_cons (pe_ix (r := rIxT K) ix_tup (pv 1) pe_int (fun _ _ => rfl)) (pa_cons (pe_tup (pa_cons (pv 4) (pa_cons (pv 3) pa_nil))) pa_nil)))) pa_nil)))))) pss_nil)
      (pss_one (ps_ret (pv 2)))))), ?_⟩
    obtain ⟨fst, ds, he, hds, dsl⟩ := body_first m.b ok.b
    have hv0 : DaAt H v (.tuple (.int fst :: ds)) := by rw [← he]; exact hv
    obtain ⟨a, xs, rfl, ha, hx⟩ := hv0.tup
    obtain ⟨x0, hx0, hd0⟩ := hx.get (i := 0) rfl
    have hd0 := hd0.int
    subst hd0
    have ix0 : ∀ {H1 : Hp} {o0 o2 o3 o4 o5 : Option V}, Ex H H1 → Ev (tOp (rIxT K) (tVar 1) (tC (.int 0))) [o0, some (.ref a), o2, o3, o4, o5] H1 (.int fst) := fun e => ev_op (ev_var rfl) ev_c (rv_ixT (i := 0) (st_of (e _ _ ha)) (atI_nat (j := 0) hx0))
    refine q_asgS (Pv := fun v H' => ∃ l vs, v = .ref l ∧ H l = none ∧ H' l = some (.lst vs) ∧ OthL 6 m.body H' vs ∧ vs.length = 1) (fun H0 e0 Q0 q0 => ?_) (fun v H1 e1 ⟨l, vs, hv1, hl, h1, o1, len1⟩ => ?_)
    · refine (etu_cat (K := K) (σ := [some (.str m.kind), some (.ref a), none, none, none, none]) (ds := [.int (fst + 1)]) (es := ds) (etu_1 (es_da (v := .int (fst + 1)) (ev_op (x := .int fst) (y := .int 1) (ix0 e0) ev_c rv_I0) da_int)) (etu_is (etu_sl (lo := some ((1 : Nat) : Int)) (etu_of (ev_var rfl) (e0 _ _ ha) (hx.ex e0)) (eo_some ev_c) eo_none) cut_dr) (by show 1 + ds.length ≤ 1000; omega)) H0 (Ex.refl H0) _ (fun b ys H2 e2 hb hd => ?_)
      refine ⟨by show 1 ≤ sizeLine; decide, fun p hp2 => q0 _ _ (e2.trans (Ex.new hp2)) ⟨p, _, rfl, fresh_back (e0.trans e2) hp2, upd_same, ?_, rfl⟩⟩
      have eN := Ex.new (o := .lst [.ref b]) hp2
      refine OthL.snoc (vs := []) OthL.nil (da_tup (eN _ _ hb) (hd.ex eN)) ⟨Pk.mono (k := 6) (Pk.tup (k := 4) fun x hx => ?_) (by decide), fun e => ?_⟩
      · rcases List.mem_append.mp hx with hx | hx
        · rw [List.mem_singleton.mp hx]
          exact Pk.int
        · exact hds x hx
      · rw [show m.body = m.b.dat m.to m.from_ from rfl, he] at e
        injection e with e
        injection e with e _
        have : fst + 1 = fst := by injection e
        omega
    subst hv1
    have hmb : m.body = m.b.dat m.to m.from_ := rfl
    obtain ⟨to, from_, b⟩ := m
    have okb := ok.b
    cases b with
    | heard f0 =>
      refine q_when (b := false) (et_kind (z := "heard") (i := 0) rfl (by decide +kernel)) (fun z => nomatch z) (fun _ H2 e2 => ?_)
      refine q_when (b := false) (et_and (a := false) (et_kind (z := "heard") (i := 0) rfl (by decide +kernel)) (fun z => nomatch z) (b := false)) (fun z => nomatch z) (fun _ H3 e3 => ?_)
      refine q_when (b := false) (et_kind (z := "heard") (i := 0) rfl (by decide +kernel)) (fun z => nomatch z) (fun _ H4 e4 => ?_)
      have e24 := (e2.trans e3).trans e4
      exact s_ret (ev_var rfl) (fun H5 e5 => q l vs H5 hl ((e1.trans e24).trans e5) ((e24.trans e5) _ _ h1) (o1.ex (e24.trans e5)) (by omega))
    | one kd f0 =>
      have ne : decide (V.str kd = V.str "offers") = false ∧ decide (V.str kd = V.str "done") = false ∧ decide (V.str kd = V.str "ask") = false := by
        rcases okb.1 with rfl | rfl | rfl <;> decide +kernel
      refine q_when (b := false) (et_kind (z := kd) (i := 0) rfl ne.2.2) (fun z => nomatch z) (fun _ H2 e2 => ?_)
      refine q_when (b := false) (et_and (a := false) (et_kind (z := kd) (i := 0) rfl ne.1) (fun z => nomatch z) (b := false)) (fun z => nomatch z) (fun _ H3 e3 => ?_)
      refine q_when (b := false) (et_kind (z := kd) (i := 0) rfl ne.2.1) (fun z => nomatch z) (fun _ H4 e4 => ?_)
      have e24 := (e2.trans e3).trans e4
      exact s_ret (ev_var rfl) (fun H5 e5 => q l vs H5 hl ((e1.trans e24).trans e5) ((e24.trans e5) _ _ h1) (o1.ex (e24.trans e5)) (by omega))
    | ask f0 g0 =>
      have hee : fst = f0 ∧ ds = [PyData.int g0] := by
        have e' : PyData.tuple [.int f0, .int g0] = .tuple (.int fst :: ds) := he
        injection e' with e'
        injection e' with e1' e2'
        injection e1' with e1'
        exact ⟨e1'.symm, e2'.symm⟩
      obtain ⟨rfl, rfl⟩ := hee
      obtain ⟨x1, hx1, hd1⟩ := hx.get (i := 1) rfl
      have hd1 := hd1.int
      subst hd1
      refine q_when (b := true) (et_kind (z := "ask") (i := 0) rfl (by decide +kernel)) (fun _ H2 e2 => ?_) (fun z => nomatch z)
      have e12 := e1.trans e2
      refine s_appD (d := .tuple [.int fst, .int (g0 + 1)]) (e2 _ _ h1) (ev_var rfl) (es_tu (etu_2 (es_da (ix0 e12) da_int) (es_da (v := .int (g0 + 1)) (ev_op (x := .int g0) (y := .int 1) (ev_op (ev_var rfl) ev_c (rv_ixT (K := K) (i := 1) (st_of (e12 _ _ ha)) (atI_nat (j := 1) hx1))) ev_c rv_I0) da_int))) (by omega) (fun v3 H3 e3 hv3 => ?_)
      have o3 : OthL 6 (PyData.tuple [.int fst, .int g0]) (upd H3 l (.lst (vs ++ [v3]))) (vs ++ [v3]) := (OthL.snoc (o1.ex (e2.trans e3)) hv3 ⟨Pk.mono (k := 6) (pk_pair (k := 0) Pk.int Pk.int) (by decide), pair_ne (.inr fun z => by
        have : g0 + 1 = g0 := by injection z
        omega)⟩).keep (tk_l ((e2.trans e3) _ _ h1))
      have hX := Ex.mut (o := .lst (vs ++ [v3])) (e12.trans e3) hl
      refine q_when (b := false) (et_and (a := false) (et_kind (z := "ask") (i := 0) rfl (by decide +kernel)) (fun z => nomatch z) (b := false)) (fun z => nomatch z) (fun _ H4 e4 => ?_)
      refine q_when (b := false) (et_kind (z := "ask") (i := 0) rfl (by decide +kernel)) (fun z => nomatch z) (fun _ H5 e5 => ?_)
      have e45 := e4.trans e5
      exact s_ret (ev_var rfl) (fun H6 e6 => q l _ H6 hl ((hX.trans e45).trans e6) ((e45.trans e6) _ _ upd_same) (o3.ex (e45.trans e6)) (by rw [List.length_append]; show vs.length + 1 ≤ 20; omega))
    | offers f0 rs =>
      have hee : fst = f0 ∧ ds = [PyData.tuple (rs.map (Rw.dat to))] := by
        have e' : PyData.tuple [.int f0, .tuple (rs.map (Rw.dat to))] = .tuple (.int fst :: ds) := he
        injection e' with e'
        injection e' with e1' e2'
        injection e1' with e1'
        exact ⟨e1'.symm, e2'.symm⟩
      obtain ⟨rfl, rfl⟩ := hee
      obtain ⟨x1, hx1, hd1⟩ := hx.get (i := 1) rfl
      have ix1 : ∀ {H1 : Hp} {o0 o2 o3 o4 o5 : Option V}, Ex H H1 → Ev (tOp (rIxT K) (tVar 1) (tC (.int 1))) [o0, some (.ref a), o2, o3, o4, o5] H1 x1 := fun e => ev_op (ev_var rfl) ev_c (rv_ixT (i := 1) (st_of (e _ _ ha)) (atI_nat (j := 1) hx1))
      refine q_when (b := false) (et_kind (z := "offers") (i := 0) rfl (by decide +kernel)) (fun z => nomatch z) (fun _ H2 e2 => ?_)
      have e12 := e1.trans e2
      have pkR : Pk 3 (.tuple (rs.map (Rw.dat to))) := by
        refine Pk.tup (k := 2) fun x hx => ?_
        obtain ⟨r, hr, rfl⟩ := List.mem_map.mp hx
        exact row_pk (okb.2.ok r hr).four
      have pk0 : Pk 1 (PyData.tuple []) := Pk.tup (k := 0) fun d hd => by simp at hd
      have tst : EvT (tAnd (tTest (tOp rEq (tVar 0) (tC (.str "offers")))) (tTest (tOp (rNeD K) (tOp (rIxT K) (tVar 1) (tC (.int 1))) (tTup tNil)))) [some (.str "offers"), some (.ref a), some (.ref l), none, none, none] H2 (!PyData.eqv (.tuple (rs.map (Rw.dat to))) (.tuple [])) :=
        et_is (et_and (a := true) (et_kind (z := "offers") (i := 0) rfl (by decide +kernel)) (fun _ => et_test (fun H3 e3 Q3 q3 => ix1 (e12.trans e3) H3 (Ex.refl H3) _ fun H4 e4 => ⟨by show 0 ≤ sizeLine; decide, fun p hp => by
          have eN := Ex.new (o := .tup []) hp
          exact ⟨_, _, dp_da (hd1.ex (((e12.trans e3).trans e4).trans eN)), dp_da (da_tup upd_same DaL.nil), pkR.shaped (by decide), pk0.shaped (by decide), q3 _ (e4.trans eN)⟩⟩))) rfl
      by_cases hrs : rs = []
      · subst hrs
        refine q_when (b := false) (by exact et_is tst (by simp [PyData.eqv, PyData.eqvAll])) (fun z => nomatch z) (fun _ H3 e3 => ?_)
        refine q_when (b := false) (et_kind (z := "offers") (i := 0) rfl (by decide +kernel)) (fun z => nomatch z) (fun _ H4 e4 => ?_)
        have e24 := (e2.trans e3).trans e4
        exact s_ret (ev_var rfl) (fun H5 e5 => q l vs H5 hl ((e1.trans e24).trans e5) ((e24.trans e5) _ _ h1) (o1.ex (e24.trans e5)) (by omega))
      · refine q_when (b := true) (et_is tst (by
          rw [Bool.not_eq_true']
          cases hq : PyData.eqv (.tuple (rs.map (Rw.dat to))) (.tuple []) with
          | false => rfl
          | true =>
            have := (Pk.eqv pkR pk0).mp hq
            injection this with this
            exact absurd (List.map_eq_nil_iff.mp this) hrs)) (fun _ H3 e3 => ?_) (fun z => nomatch z)
        have e13 := e12.trans e3
        have RO := rws_R okb.2 hrs
        have call : EvOt 3 (rowsD (rs.map (Rw.four to))) (tCallS spOr (fun _ => E0) (tCons (tOp (rIxT K) (tVar 1) (tC (.int 1))) tNil)) [some (.str "offers"), some (.ref a), some (.ref l), none, none, none] H3 := fun H4 e4 Q4 q4 =>
          ix1 (e13.trans e4) H4 (Ex.refl H4) _ fun H5 e5 => ⟨x1, rs.map (Rw.four to), rfl, by rw [← dat_R]; exact hd1.ex ((e13.trans e4).trans e5), RO, fun p ys H6 hp e6 h6 o6 n6 => q4 p ys H6 (fresh_back e5 hp) (e5.trans e6) h6 o6 n6⟩
        refine s_extO (K := K) (k := 6) (d0 := .tuple [.int fst, .tuple (rs.map (Rw.dat to))]) ((e2.trans e3) _ _ h1) (ev_var rfl) (lc_oth (K := K) (k := 3) (d0 := rowsD (rs.map (Rw.four to))) call (fun _ => rfl) (fun x d H4 e4 hxd od => ?_)) (by omega) (fun ys H4 e4 o4 n4 => ?_)
        · intro H5 e5 Q5 q5
          refine etu_2 (σ := [some (.str "offers"), some (.ref a), some (.ref l), some x, none, none]) (H := H4) (es_da (ix0 (e13.trans e4)) da_int) (es_da (ev_var rfl) hxd) H5 e5 _ (fun p zs H6 e6 h6 hd6 => q5 _ H6 e6 ⟨_, da_tup h6 hd6, Pk.mono (k := 6) (pk_pair (k := 3) Pk.int od.1) (by decide), ?_⟩)
          refine pair_ne (.inr ?_)
          rw [dat_R]
          exact od.2
        · have h14 := (e2.trans (e3.trans e4)) _ _ h1
          have o5 : OthL 6 (PyData.tuple [.int fst, .tuple (rs.map (Rw.dat to))]) (upd H4 l (.lst (vs ++ ys))) (vs ++ ys) := (OthL.app (o1.ex (e2.trans (e3.trans e4))) o4).keep (tk_l h14)
          have hX := Ex.mut (o := .lst (vs ++ ys)) (e13.trans e4) hl
          refine q_when (b := false) (et_kind (z := "offers") (i := 0) rfl (by decide +kernel)) (fun z => nomatch z) (fun _ H5 e5 => ?_)
          exact s_ret (ev_var rfl) (fun H6 e6 => q l _ H6 hl ((hX.trans e5).trans e6) ((e5.trans e6) _ _ upd_same) (o5.ex (e5.trans e6)) (by rw [List.length_append]; omega))
    | done f0 n s9 ps =>
      have hee : fst = f0 ∧ ds = [mtD from_ n s9 ps] := by
        have e' : PyData.tuple [.int f0, mtD from_ n s9 ps] = .tuple (.int fst :: ds) := he
        injection e' with e'
        injection e' with e1' e2'
        injection e1' with e1'
        exact ⟨e1'.symm, e2'.symm⟩
      obtain ⟨rfl, rfl⟩ := hee
      obtain ⟨x1, hx1, hd1⟩ := hx.get (i := 1) rfl
      obtain ⟨c, y1, y2, rfl, hc, hch, hps⟩ := DaAt.tup2 hd1
      refine q_when (b := false) (et_kind (z := "done") (i := 0) rfl (by decide +kernel)) (fun z => nomatch z) (fun _ H2 e2 => ?_)
      refine q_when (b := false) (et_and (a := false) (et_kind (z := "done") (i := 0) rfl (by decide +kernel)) (fun z => nomatch z) (b := false)) (fun z => nomatch z) (fun _ H3 e3 => ?_)
      refine q_when (b := true) (et_kind (z := "done") (i := 0) rfl (by decide +kernel)) (fun _ H4 e4 => ?_) (fun z => nomatch z)
      have e24 := (e2.trans e3).trans e4
      have e14 := e1.trans e24
      refine q_unp2 (K := K) (ev_op (ev_var rfl) ev_c (rv_ixT (K := K) (i := 1) (st_of (e14 _ _ ha)) (atI_nat (j := 1) hx1))) (e14 _ _ hc) [some (.str "done"), some (.ref a), some (.ref l), none, some y1, some y2] rfl (fun H5 e5 => ?_)
      have e15 := e14.trans e5
      have cok : WOk (chD from_ n s9) := .inr ⟨_, _, _, rfl, okb.2.ch⟩
      have PO := rws_P okb.2
      have pkc := wok_pk cok
      have pkp : Pk 3 (.tuple (ps.map Pt.dat)) := by rw [dat_P]; exact PO.pk
      refine s_appD (d := .tuple [.int fst, .tuple [movD (chD from_ n s9), .tuple (ps.map Pt.dat)]]) ((e24.trans e5) _ _ h1) (ev_var rfl) (es_tu (etu_2 (es_da (ix0 e15) da_int) (es_tu (etu_2 (es_mov (ev_var rfl) (hch.ex e15) cok) (es_da (ev_var rfl) (hps.ex e15)))))) (by omega) (fun v6 H6 e6 hv6 => ?_)
      have h16 := ((e24.trans e5).trans e6) _ _ h1
      have o6 : OthL 6 (PyData.tuple [.int fst, mtD from_ n s9 ps]) (upd H6 l (.lst (vs ++ [v6]))) (vs ++ [v6]) := (OthL.snoc (o1.ex ((e24.trans e5).trans e6)) hv6 ⟨Pk.mono (k := 6) (pk_pair (k := 4) Pk.int (pk_pair (k := 3) (Pk.mono (mov_pk cok) (by decide)) pkp)) (by decide), pair_ne (.inr (pair_ne (.inl (movD_ne cok))))⟩).keep (tk_l h16)
      have hX := Ex.mut (o := .lst (vs ++ [v6])) (e15.trans e6) hl
      have call : EvOt 3 (rowsD (ps.map Pt.four)) (tCallS spOr (fun _ => E0) (tCons (tVar 5) tNil)) [some (.str "done"), some (.ref a), some (.ref l), none, some y1, some y2] (upd H6 l (.lst (vs ++ [v6]))) := fun H7 e7 Q7 q7 =>
        ⟨_, rfl, y2, ps.map Pt.four, rfl, by rw [← dat_P]; exact hps.ex (hX.trans e7), PO, fun p ys H8 hp e8 h8 o8 n8 => q7 p ys H8 hp e8 h8 o8 n8⟩
      refine s_extO (K := K) (k := 6) (d0 := .tuple [.int fst, mtD from_ n s9 ps]) upd_same (ev_var rfl) (lc_oth (K := K) (k := 3) (d0 := rowsD (ps.map Pt.four)) call (fun _ => rfl) (fun x d H7 e7 hxd od => ?_)) (by rw [List.length_append]; show vs.length + 1 ≤ 100; omega) (fun ys H7 e7 o7 n7 => ?_)
      · intro H8 e8 Q8 q8
        refine etu_2 (σ := [some (.str "done"), some (.ref a), some (.ref l), some x, some y1, some y2]) (H := H7) (es_da (ix0 (hX.trans e7)) da_int) (es_tu (etu_2 (es_da (ev_var rfl) (hch.ex (hX.trans e7))) (es_da (ev_var rfl) hxd))) H8 e8 _ (fun p zs H9 e9 h9 hd9 => q8 _ H9 e9 ⟨_, da_tup h9 hd9, Pk.mono (k := 6) (pk_pair (k := 4) Pk.int (pk_pair (k := 3) (Pk.mono pkc (by decide)) od.1)) (by decide), ?_⟩)
        refine pair_ne (.inr (pair_ne (.inr ?_)))
        rw [dat_P]
        exact od.2
      · have o8 : OthL 6 (PyData.tuple [.int fst, mtD from_ n s9 ps]) (upd H7 l (.lst (vs ++ [v6] ++ ys))) (vs ++ [v6] ++ ys) := (OthL.app (o6.ex e7) o7).keep (tk_l (e7 _ _ upd_same))
        have hY := Ex.mut (o := .lst (vs ++ [v6] ++ ys)) (hX.trans e7) hl
        exact s_ret (ev_var rfl) (fun H8 e8 => q l _ H8 hl (hY.trans e8) (e8 _ _ upd_same) (o8.ex e8) (by rw [List.length_append, List.length_append]; show vs.length + 1 + ys.length ≤ 20; omega))
end
end Fs

set_option Elab.async false
set_option linter.all false
set_option maxRecDepth 100000
set_option maxHeartbeats 8000000
/-! the law's look at two messages -/
namespace Fs
open PySem L2 Evl FsE FsC FsR FsP FsV FsG FsQ FsK
def meqB (k : Str) (t s : Int) (d : PyData) (k' : Str) (t' s' : Int) (d' : PyData) : Bool := decide (k = k') && decide (t = t') && decide (s = s') && PyData.eqv d d'
def EvMg (CM : Addr) (te : TE) (σ : L2.St) (H : Hp) (k : Str) (t s : Int) (d : PyData) : Prop := EvS te σ H (fun x H' => ∃ a, x = .ref a ∧ MsAt CM H' a k t s d)
theorem MsAt.keep {CM : Addr} {H : Hp} {l : Addr} {xs ys : List V} (hl : H l = some (.lst xs)) {a : Addr} {k : Str} {t s : Int} {d : PyData} (h : MsAt CM H a k t s d) : MsAt CM (upd H l (.lst ys)) a k t s d := by
  obtain ⟨dx, v, h1, h2⟩ := h
  have : a ≠ l := fun z => by rw [z, hl] at h1; cases h1
  exact ⟨dx, v, by rw [upd_ne this]; exact h1, h2.keep (tk_l hl)⟩
/-- messages other than this one -/
def UnM (CM : Addr) (H : Hp) (k : Str) (t s : Int) (d : PyData) (v : V) : Prop := ∃ a k' t' s' d', v = .ref a ∧ MsAt CM H a k' t' s' d' ∧ Pk 6 d' ∧ meqB k t s d k' t' s' d' = false
def UnL (CM : Addr) (H : Hp) (k : Str) (t s : Int) (d : PyData) (vs : List V) : Prop := ∀ v ∈ vs, UnM CM H k t s d v
section
variable {CM : Addr} {H H' : Hp} {k : Str} {t s : Int} {d : PyData} {vs us : List V} {v : V}
theorem UnM.ex (h : UnM CM H k t s d v) (e : Ex H H') : UnM CM H' k t s d v := by
  obtain ⟨a, k', t', s', d', h1, h2, h3⟩ := h
  exact ⟨a, k', t', s', d', h1, h2.ex e, h3⟩
theorem UnM.keep {l : Addr} {xs ys : List V} (hl : H l = some (.lst xs)) (h : UnM CM H k t s d v) : UnM CM (upd H l (.lst ys)) k t s d v := by
  obtain ⟨a, k', t', s', d', h1, h2, h3⟩ := h
  exact ⟨a, k', t', s', d', h1, h2.keep hl, h3⟩
theorem UnL.ex (h : UnL CM H k t s d vs) (e : Ex H H') : UnL CM H' k t s d vs := fun v hv => (h v hv).ex e
theorem UnL.keep {l : Addr} {xs ys : List V} (hl : H l = some (.lst xs)) (h : UnL CM H k t s d vs) : UnL CM (upd H l (.lst ys)) k t s d vs := fun v hv => (h v hv).keep hl
theorem UnL.app (h : UnL CM H k t s d vs) (g : UnL CM H k t s d us) : UnL CM H k t s d (vs ++ us) := fun v hv => (List.mem_append.mp hv).elim (h v) (g v)
theorem UnL.snoc (h : UnL CM H k t s d vs) (g : UnM CM H k t s d v) : UnL CM H k t s d (vs ++ [v]) := h.app fun u hu => by rw [List.mem_singleton.mp hu]; exact g
end
def EvUn (CM : Addr) (k : Str) (t s : Int) (d : PyData) (te : TE) (σ : L2.St) (H : Hp) : Prop := ∀ H1, Ex H H1 → ∀ Q : VK, (∀ l xs H2, H1 l = none → Ex H1 H2 → H2 l = some (.lst xs) → UnL CM H2 k t s d xs → xs.length ≤ 20 → Q (.ref l) H2) → te σ H1 Q
section
variable {K : PySem.W.Frag} {CM : Addr} {σ : L2.St} {H : Hp} {ta tb te : TE} {k k' : Str} {t s t' s' : Int} {d d' : PyData}
theorem em_of {a : Addr} (h : Ev te σ H (.ref a)) (hm : MsAt CM H a k t s d) : EvMg CM te σ H k t s d := fun H1 e Q q => h H1 e _ fun H2 e2 => q _ H2 e2 ⟨a, rfl, hm.ex (e.trans e2)⟩
theorem em_mk {tas : TA} {v : V} (h : EvA tas σ H [.str k, .int t, .int s, v]) (hd : DaAt H v d) : EvMg CM (tMake CM (spMg0 CM) [] E0 tas) σ H k t s d := fun H1 e Q q =>
  h H1 e _ fun H2 e2 c dc hc hdc hnc => ⟨c, dc, k, t, s, v, d, H2, rfl, upd_same, hc, Ex.mut (Ex.new hdc) hc, hd.ex (e.trans e2), fun H3 e3 hm => ⟨rfl, q _ H3 (e2.trans e3) ⟨c, rfl, hm⟩⟩⟩
theorem ev_meq {E : XK} (ha : EvMg CM ta σ H k t s d) (hb : EvMg CM tb σ H k' t' s' d') (hd : Pk 6 d) (hd' : Pk 6 d') : Ev (tOp (rOwnEq CM (spEqB (RMs CM)) E) ta tb) σ H (.bl (meqB k t s d k' t' s' d')) := fun H1 e Q q =>
  ha H1 e _ fun x H2 e2 ⟨a, hx, h1⟩ => hb H2 (e.trans e2) _ fun y H3 e3 ⟨c, hy, h2⟩ => by
    subst hx hy
    obtain ⟨dx, v1, g1, g2⟩ := id (h1.ex e3)
    obtain ⟨dy, v2, g3, g4⟩ := id h2
    exact ⟨a, c, dx, dy, _, _, rfl, rfl, g1, g3, a, c, _, rfl, ⟨k, t, s, d, k', t', s', d', h1.ex e3, h2, hd.shaped (by decide), hd'.shaped (by decide), rfl⟩, fun H4 e4 => q H4 ((e2.trans e3).trans e4)⟩
theorem ev_mne (ha : EvMg CM ta σ H k t s d) (hb : EvMg CM tb σ H k' t' s' d') (hd : Pk 6 d) (hd' : Pk 6 d') : Ev (tOp (rNeB (CIns CM (RMs CM))) ta tb) σ H (.bl (!meqB k t s d k' t' s' d')) := fun H1 e Q q =>
  ha H1 e _ fun x H2 e2 ⟨a, hx, h1⟩ => hb H2 (e.trans e2) _ fun y H3 e3 ⟨c, hy, h2⟩ => by
    subst hx hy
    obtain ⟨dx, v1, g1, g2⟩ := id (h1.ex e3)
    obtain ⟨dy, v2, g3, g4⟩ := id h2
    exact ⟨_, ⟨a, c, dx, dy, _, _, rfl, rfl, g1, g3, k, t, s, d, k', t', s', d', h1.ex e3, h2, hd.shaped (by decide), hd'.shaped (by decide), rfl⟩, fun H4 e4 => q H4 ((e2.trans e3).trans e4)⟩
theorem meq_self (hd : Pk 6 d) : meqB k t s d k t s d = true := by
  unfold meqB
  rw [decide_eq_true rfl, decide_eq_true rfl, decide_eq_true rfl, (Pk.eqv hd hd).mpr rfl]
  rfl
theorem meq_iff (hd : Pk 6 d) (hd' : Pk 6 d') : meqB k t s d k' t' s' d' = true ↔ (k = k' ∧ t = t' ∧ s = s' ∧ d = d') := by
  unfold meqB
  rw [Bool.and_eq_true, Bool.and_eq_true, Bool.and_eq_true, decide_eq_true_eq, decide_eq_true_eq, decide_eq_true_eq, Pk.eqv hd hd', and_assoc, and_assoc]
theorem meq_no (hd : Pk 6 d) (hd' : Pk 6 d') (h : ¬ (k = k' ∧ t = t' ∧ s = s' ∧ d = d')) : meqB k t s d k' t' s' d' = false := by
  cases hq : meqB k t s d k' t' s' d' with
  | false => rfl
  | true => exact absurd ((meq_iff hd hd').mp hq) h
theorem s_extU {l : Addr} {xs : List V} {tz : TS} {D : Ends} (hl : H l = some (.lst xs)) (ha : Ev ta σ H (.ref l)) (h : EvUn CM k t s d te σ H) (hz : xs.length ≤ 100) (q : ∀ ys H1, Ex H H1 → UnL CM H1 k t s d ys → ys.length ≤ 20 → tz D σ (upd H1 l (.lst (xs ++ ys)))) :
    tSeq (tDrop (tBM K "list" rExtend ta (tCons te tNil))) tz D σ H := ha H (Ex.refl H) _ fun H1 e1 =>
  ⟨Or.inl ⟨rfl, xs, sq_of (e1 l _ hl)⟩, h H1 e1 _ fun p ys H2 hp e2 h2 o2 n2 => ⟨l, p, xs, ys, rfl, rfl, e2 l _ (e1 l _ hl), h2, by rw [sizeLine_eq]; omega, q ys H2 (e1.trans e2) o2 n2⟩⟩
end
section
variable {K : PySem.W.Frag} {CM : Addr} {σ : L2.St} {H : Hp}
theorem ev_wr {j : Nat} {a : Addr} {m : Msg} (sj : σ[j]? = some (some (.ref a))) (hm : MsAt CM H a m.kind m.to m.from_ m.body) (ok : MsgOk m) : Ev (tMeth CM "written" (spWr CM) [] E0 (tVar j) tNil) σ H (.str m.text) := fun H1 e1 Q q => by
  obtain ⟨dx, v, h1, h2⟩ := id (hm.ex e1)
  exact ⟨_, sj, a, dx, _, rfl, h1, mf_no (by decide +kernel) (by decide +kernel) (by decide +kernel) (by decide +kernel), a, m, rfl, hm.ex e1, ok, fun H2 e2 => q H2 e2⟩
theorem q_unp4 {ta : TE} {a : Addr} {x1 x2 x3 x4 : V} {i1 i2 i3 i4 : Nat} {tz : TS} {D : Ends} (h : Ev ta σ H (.ref a)) (hx : H a = some (.tup [x1, x2, x3, x4])) (σ' : L2.St)
    (hσ : (((σ.set i1 (some x1)).set i2 (some x2)).set i3 (some x3)).set i4 (some x4) = σ') (k : ∀ H1, Ex H H1 → tz D σ' H1) : tSeq (tAsg ta (gTup K 4 (gCons (gName i1) (gCons (gName i2) (gCons (gName i3) (gCons (gName i4) gNil)))))) tz D σ H := by
  subst hσ
  exact h H (Ex.refl H) _ fun H1 e1 => ⟨a, _, rfl, st_of (e1 _ _ hx), rfl, _, _, rfl, _, _, rfl, _, _, rfl, _, _, rfl, rfl, k H1 e1⟩
end
theorem yes_T {σ : L2.St} {H : Hp} {A B : Hp → Prop} (h : A H) : tYes σ H (fun b H3 => if b = true then A H3 else B H3) := (if_T rfl h : if true = true then A H else B H)
theorem mg_two {CM : Addr} {σ : L2.St} {H : Hp} {ta tb : TE} {k1 k2 : Str} {t1 s1 t2 s2 : Int} {d1 d2 : PyData} (ha : EvMg CM ta σ H k1 t1 s1 d1) (hb : EvMg CM tb σ H k2 t2 s2 d2) : ∀ H1, Ex H H1 → ∀ Q : VK, (∀ p a1 a2 H2, H1 p = none → Ex H1 H2 → H2 p = some (.lst [.ref a1, .ref a2]) → MsAt CM H2 a1 k1 t1 s1 d1 → MsAt CM H2 a2 k2 t2 s2 d2 → Q (.ref p) H2) → tLst (tCons ta (tCons tb tNil)) σ H1 Q := fun H1 e1 Q q =>
  ha H1 e1 _ fun z1 G1 g1 ⟨a1, hz1, hm1⟩ => hb G1 (e1.trans g1) _ fun z2 G2 g2 ⟨a2, hz2, hm2⟩ => by
    subst hz1 hz2
    exact ⟨by show 2 ≤ sizeLine; decide, fun p hp => q p a1 a2 _ (fresh_back (g1.trans g2) hp) ((g1.trans g2).trans (Ex.new hp)) upd_same (hm1.ex (g2.trans (Ex.new hp))) (hm2.ex (Ex.new hp))⟩
theorem strOk_kind {to from_ : Int} : ∀ {b : Bd}, BdOk to from_ b → PyData.strOk b.kind = true
  | .heard _, _ => by show PyData.strOk "heard" = true; decide +kernel
  | .one k _, h => by
    obtain ⟨h, _⟩ := h
    rcases h with rfl | rfl | rfl
    · show PyData.strOk "yes" = true; decide +kernel
    · show PyData.strOk "no" = true; decide +kernel
    · show PyData.strOk "free" = true; decide +kernel
  | .ask _ _, _ => by show PyData.strOk "ask" = true; decide +kernel
  | .offers _ _, _ => by show PyData.strOk "offers" = true; decide +kernel
  | .done _ _ _ _, _ => by show PyData.strOk "done" = true; decide +kernel
theorem MsgOk.pkB {m : Msg} (ok : MsgOk m) : Pk 5 m.body := body_pk ok.b
theorem MsgOk.pk {m : Msg} (ok : MsgOk m) : Pk 6 m.dat := Pk.tup fun d hd => by
  have : d = .str m.kind ∨ d = .int m.to ∨ d = .int m.from_ ∨ d = m.body := by simpa using hd
  rcases this with rfl | rfl | rfl | rfl
  · exact Pk.str (strOk_kind ok.b)
  · exact Pk.int
  · exact Pk.int
  · exact ok.pkB
theorem ev_flds {K : PySem.W.Frag} {mg : Str → Option Value} {CM : Addr} {σ : L2.St} {H : Hp} {j : Nat} {a : Addr} {v : V} {m : Msg} (T : MgT K mg CM) (sj : σ[j]? = some (some (.ref a))) (s0 : σ[0]? = some (some v)) (hm : MsAt CM H a m.kind m.to m.from_ m.body) (hv : DaAt H v m.dat) (ok : MsgOk m) :
    Ev (tOp (rNeD K) (tTup (tCons (tFld K (tVar j) "kind") (tCons (tFld K (tVar j) "to") (tCons (tFld K (tVar j) "sender") (tCons (tFld K (tVar j) "body") tNil))))) (tVar 0)) σ H (.bl false) := fun H1 e1 Q q => by
  obtain ⟨dx, vb, h1, h2⟩ := id (hm.ex e1)
  refine eu_tup (σ := σ) (H := H1) (ea_cons (ev_fld (ev_var sj) h1 T.cl T.nK mf_kind) (ea_cons (ev_fld (ev_var sj) h1 T.cl T.nT mf_to) (ea_cons (ev_fld (ev_var sj) h1 T.cl T.nS mf_sender) (ea_cons (ev_fld (ev_var sj) h1 T.cl T.nB mf_body) ea_nil)))) (by show 4 ≤ 100000; decide) H1 (Ex.refl H1) _ (fun p H2 hp e2 hp2 => ?_)
  refine ⟨_, s0, m.dat, m.dat, dp_da (da_tup hp2 (DaL.cons da_str (DaL.cons da_int (DaL.cons da_int (DaL.cons (h2.ex e2) DaL.nil))))), dp_da (hv.ex (e1.trans e2)), ok.pk.shaped (by decide), ok.pk.shaped (by decide), ?_⟩
  rw [(Pk.eqv ok.pk ok.pk).mpr rfl]
  exact q H2 e2
def spRt : Sp := fun vs H Q _ => ∃ (v1 v2 : V) (m1 m2 : Msg), vs = [v1, v2] ∧ DaAt H v1 m1.dat ∧ DaAt H v2 m2.dat ∧ MsgOk m1 ∧ MsgOk m2 ∧ RetV (.bl true) H Q
section
variable {P : Program} {w : World} {K : PySem.W.Frag} {mg : Str → Option Value} {base : Heap} {CR CM gq : Addr} {gd : FuncData} {k d : Nat}
abbrev nsRt : List Str := ["_law_one", "_law_other", "_law_kind", "_law_to", "_law_sender", "_law_body", "_law_message", "_law_text", "_law_told", "_law_unlike", "_law_others", "_law_short", "_law_word_here", "_law_same", "_law_alike", "_law_second"]
theorem scRt : FnScope nsRt ["_law_one", "_law_other"] (defScope (topS 42)) := ⟨rfl, rfl, rfl, by decide +kernel, rfl, by decide +kernel, by decide +kernel⟩
theorem ok_rt {f : Addr} {fd : FuncData} (F : Fun K "_law_right" "_law_right" (topS 42) f fd) (T : MgT K mg CM) (hany : mg "any" = none) (MG : MakX P w K mg base CX0 1 "Message" CM (spMg0 CM)) (SR : StaX P w K mg base CX0 10 CM "read" (spMRd CM)) (MW : MthX P w K mg base CM 7 "written" ["self"] (spWr CM)) (GW : CalX P w K mg base CX0 2 "_law_written" spLwr) (GO : CalX P w K mg base CX0 3 "_law_other_bodies" spOb)
    (NM : NeM K CM gq) (FQ : FnOk P w K mg base CX0 1 gq gd ["self", "other"] (spEqB (RMs CM))) (BQ : Binds K gd ["self", "other"] []) : FnOk P w K mg base CX0 11 f fd ["_law_one", "_law_other"] spRt := by
  obtain ⟨fw, fdw, mw, okw, bw⟩ := MW
  refine F.ok (k := 10) scRt (fun vs H Q E h => ?_) (fun cdv A outer s H vs Q E hr h => ?_)
  · obtain ⟨v1, v2, m1, m2, rfl, _⟩ := h
    rfl
  · obtain ⟨v1, v2, m1, m2, rfl, hv1, hv2, ok1, ok2, q⟩ := h
    refine ⟨_, pss_cons (ps_asg (pv 0) (pg_tup rfl (pgs_cons (pg_name (i := 2) scRt.nd rfl (.inr rfl)) (pgs_cons (pg_name (i := 3) scRt.nd rfl (.inr rfl)) (pgs_cons (pg_name (i := 4) scRt.nd rfl (.inr rfl)) (pgs_cons (pg_name (i := 5) scRt.nd rfl (.inr rfl)) pgs_nil))))))
      (pss_cons (ps_set (i := 6) scRt.nd rfl (Or.inr rfl) (pe_mx (E := E0) MG hr (by decide) (by rfl) pass0 (pa_cons (pv 2) (pa_cons (pv 3) (pa_cons (pv 4) (pa_cons (pv 5) pa_nil))))))
      (pss_cons (ps_set (i := 7) scRt.nd rfl (Or.inl rfl) (pe_cx (E := fun _ => E0) GW hr (by decide) (by rfl) at0 (pa_cons (pv 2) (pa_cons (pv 3) (pa_cons (pv 4) (pa_cons (pv 5) pa_nil))))))
      (pss_cons (ps_if (PW.pt (pw_or (pt_cmpR op_ne (pe_meth0 (E := E0) (pv 6) T.cl mw okw (hr.mono (by decide)) bw .nil pass0) (pv 7) (nomark _)) (pw_or1 (pt_cmpR (op_neD hr.units) (pe_tup (pa_cons (pe_fld (pv 6) rfl) (pa_cons (pe_fld (pv 6) rfl) (pa_cons (pe_fld (pv 6) rfl) (pa_cons (pe_fld (pv 6) rfl) pa_nil))))) (pv 0) (nomark _))))) L2.pss_never pss_nil)
      (pss_cons (ps_set (i := 8) scRt.nd rfl (Or.inl rfl) (pe_sx (E := fun _ => E0) SR hr (Nat.le_refl _) (pe_glob (v := .ref CM) (by rfl) T.mgM rfl) (fun σ => at0 (E := fun _ => E0) σ) (pa_cons (pv 7) pa_nil)))
      (pss_cons (ps_if (PW.pt (pw_or (pt_not (pt_val (pe_callB (id := "isinstance") (r := rIsi K) call_isi (by rfl) T.isi (by decide +kernel) (pa_cons (pv 8) (pa_cons (pe_glob (v := .ref CM) (by rfl) T.mgM rfl) pa_nil))))) (pw_or1 (pt_cmpR (op_neD hr.units) (pe_tup (pa_cons (pe_fld (pv 8) rfl) (pa_cons (pe_fld (pv 8) rfl) (pa_cons (pe_fld (pv 8) rfl) (pa_cons (pe_fld (pv 8) rfl) pa_nil))))) (pv 0) (nomark _))))) L2.pss_never pss_nil)
      (pss_cons (ps_if (PW.pt (pw_or (pt_cmpR op_ne (pe_meth0 (E := E0) (pv 8) T.cl mw okw (hr.mono (by decide)) bw .nil pass0) (pv 7) (nomark _)) (pw_or (pt_not (pt_cmpR (op_ownEq (E := E0) NM.toEqM FQ (hr.mono (by decide)) BQ (fun σ => at0 (E := fun _ => E0) σ)) (pv 8) (pv 6) (nomark _))) (pw_or1 (pt_cmpR (op_neB (E := E0) NM FQ (hr.mono (by decide)) BQ pass0) (pv 8) (pe_mx (E := E0) MG hr (by decide) (by rfl) pass0 (pa_cons (pv 2) (pa_cons (pv 3) (pa_cons (pv 4) (pa_cons (pv 5) pa_nil))))) (nomark _)))))) L2.pss_never pss_nil)
      (pss_cons (ps_set (i := 9) scRt.nd rfl (Or.inl rfl) (pe_lst (pa_cons (pe_mx (E := E0) MG hr (by decide) (by rfl) pass0 (pa_cons (pv 2) (pa_cons (pe_op op_add (pv 3) pe_int) (pa_cons (pv 4) (pa_cons (pv 5) pa_nil))))) (pa_cons (pe_mx (E := E0) MG hr (by decide) (by rfl) pass0 (pa_cons (pv 2) (pa_cons (pv 3) (pa_cons (pe_op op_add (pv 4) pe_int) (pa_cons (pv 5) pa_nil))))) pa_nil))))
      (pss_cons (ps_expr (pe_bm PySem.F.plainAttrs_list PySem.F.slot_list_extend PySem.F.type_list_extend mt_extend (pv 9) (pa_cons (pe_lc (own := [("_law_others", 10)]) (g := gName 10) (tt := tYes) rfl scRt.nd (pi_list (pe_cx (E := fun _ => E0) GO hr (by decide) (by rfl) at0 (pa_cons (pv 2) (pa_cons (pv 5) pa_nil)))) (blkOk_by (own := [("_law_others", 10)]) (N := nsRt) (sc := defScope (topS 42)) (by decide +kernel))
          (fun _ _ _ _ _ => pg_name (i := 10) scRt.nd rfl (Or.inl rfl)) (fun _ _ _ _ _ => pts_nil) (fun _ _ _ _ _ => pe_mx (E := E0) MG hr (by decide) (by rfl) pass0 (pa_cons (pv 2) (pa_cons (pv 3) (pa_cons (pv 4) (pa_cons (pv 10) pa_nil)))))) pa_nil)))
      (pss_cons (ps_set (i := 11) scRt.nd rfl (Or.inr rfl) (pe_lst (pa_cons pe_str (pa_cons pe_str (pa_cons pe_str (pa_cons pe_str pa_nil))))))
      (pss_cons (ps_expr (pe_bm PySem.F.plainAttrs_list PySem.F.slot_list_extend PySem.F.type_list_extend mt_extend (pv 9) (pa_cons (pe_lc (own := [("_law_word_here", 12)]) (g := gName 12) rfl scRt.nd (pi_list (pv 11)) (blkOk_by (own := [("_law_word_here", 12)]) (N := nsRt) (sc := defScope (topS 42)) (by decide +kernel))
          (fun _ _ _ _ _ => pg_name (i := 12) scRt.nd rfl (Or.inl rfl)) (fun _ _ _ _ _ => pts_one (PW.pt (pw_and (pt_cmpR (op_in_seq : OpR _ _ (rIn K false)) (pv 2) (pv 11) (by rfl)) (pw_and1 (pt_cmpR op_ne (pv 12) (pv 2) (nomark _)))))) (fun _ _ _ _ _ => pe_mx (E := E0) MG hr (by decide) (by rfl) pass0 (pa_cons (pv 12) (pa_cons (pv 3) (pa_cons (pv 4) (pa_cons (pv 5) pa_nil)))))) pa_nil)))
      (pss_cons (ps_set (i := 13) scRt.nd rfl (Or.inl rfl) (pe_lst (pa_cons (pe_cmpR (op_ownEq (E := E0) NM.toEqM FQ (hr.mono (by decide)) BQ (fun σ => at0 (E := fun _ => E0) σ)) (pv 6) (pe_mx (E := E0) MG hr (by decide) (by rfl) pass0 (pa_cons (pv 2) (pa_cons (pv 3) (pa_cons (pv 4) (pa_cons (pv 5) pa_nil))))) (nomark _)) (pa_cons (pe_cmpR (op_ownEq (E := E0) NM.toEqM FQ (hr.mono (by decide)) BQ (fun σ => at0 (E := fun _ => E0) σ)) (pe_mx (E := E0) MG hr (by decide) (by rfl) pass0 (pa_cons (pv 2) (pa_cons (pv 3) (pa_cons (pv 4) (pa_cons (pv 5) pa_nil))))) (pv 8) (nomark _)) pa_nil))))
      (pss_cons (ps_set (i := 14) scRt.nd rfl (Or.inl rfl) (pe_cmpR (op_ownEq (E := E0) NM.toEqM FQ (hr.mono (by decide)) BQ (fun σ => at0 (E := fun _ => E0) σ)) (pv 6) (pe_mx (E := E0) MG hr (by decide) (by rfl) pass0 (pa_cons (pe_ix ix_tup (pv 1) pe_int (fun _ _ => rfl)) (pa_cons (pe_ix ix_tup (pv 1) pe_int (fun _ _ => rfl)) (pa_cons (pe_ix ix_tup (pv 1) pe_int (fun _ _ => rfl)) (pa_cons (pe_ix ix_tup (pv 1) pe_int (fun _ _ => rfl)) pa_nil))))) (nomark _)))
      (pss_cons (ps_setLc (i := 10) (own := [("_law_second", 15)]) (g := gName 15) (tt := tYes) (te := tOp (rOwnEq CM (spEqB (RMs CM)) E0) (tVar 6) (tVar 15)) rfl scRt.nd rfl rfl (sw_true rfl rfl rfl (by decide +kernel)) (pi_list (pv 9)) (blkOk_by (own := [("_law_second", 15)]) (N := nsRt) (sc := defScope (topS 42)) (by decide +kernel))
          (fun _ _ _ _ _ => pg_name (i := 15) scRt.nd rfl (Or.inl rfl)) (fun _ _ _ _ _ => pts_nil) (fun _ _ _ _ _ => pe_cmpR (op_ownEq (E := E0) NM.toEqM FQ (hr.mono (by decide)) BQ (fun σ => at0 (E := fun _ => E0) σ)) (pv 6) (pv 15) (nomark _)))
      (pss_one (ps_ret (pe_and (pe_cmpR (op_eqD hr.units) (pv 13) (pe_lst (pa_cons pe_bl (pa_cons pe_bl pa_nil))) (nomark _)) (pe_and (pe_not (pe_callB (cr_any rfl) (by rfl) hany (by decide +kernel) (pa_cons (pv 10) pa_nil))) (pe_one (pe_cmpR op_eq (pv 14) (pe_cmpR (op_eqD hr.units) (pv 0) (pv 1) (nomark _)) (nomark _)))))))))))))))))))), ?_⟩
    obtain ⟨p1, x1, x2, x3, vb, rfl, hp1, d1, d2, d3, hdb⟩ := DaAt.tup4 hv1
    have d1 := d1.str
    have d2 := d2.int
    have d3 := d3.int
    subst d1 d2 d3
    obtain ⟨p2, y1, y2, y3, wb, rfl, hp2, c1, c2, c3, hdb2⟩ := DaAt.tup4 hv2
    have c1 := c1.str
    have c2 := c2.int
    have c3 := c3.int
    subst c1 c2 c3
    have pb : Pk 6 m1.body := ok1.pkB.mono (by decide)
    have pb2 : Pk 6 m2.body := ok2.pkB.mono (by decide)
    refine q_unp4 (K := K) (ev_var rfl) hp1 [some (.ref p1), some (.ref p2), some (.str m1.kind), some (.int m1.to), some (.int m1.from_), some vb, none, none, none, none, none, none, none, none, none, none] rfl (fun H1 e1 => ?_)
    refine q_asgS (Pv := fun x H' => ∃ a, x = .ref a ∧ MsAt CM H' a m1.kind m1.to m1.from_ m1.body) (em_mk (ea_cons (ev_var rfl) (ea_cons (ev_var rfl) (ea_cons (ev_var rfl) (ea_cons (ev_var rfl) ea_nil)))) (hdb.ex e1)) (fun v H2 e2 ⟨a, hv, hm⟩ => ?_)
    subst hv
    have e12 := e1.trans e2
    refine q_asg (v := .str m1.text) (ev_cx (ea_cons (ev_var rfl) (ea_cons (ev_var rfl) (ea_cons (ev_var rfl) (ea_cons (ev_var rfl) ea_nil)))) (fun H3 e3 Q3 q3 E3 => ⟨vb, m1, rfl, hdb.ex (e12.trans e3), ok1, q3⟩)) (fun H3 e3 => ?_)
    refine q_when (b := false) (et_is (et_or (a := false) (b := false) (et_is (et_test (ev_op (x := .str m1.text) (y := .str m1.text) (ev_wr (j := 6) rfl (hm.ex e3) ok1) (ev_var rfl) (rv_ne rfl))) (by rw [decide_eq_true rfl]; rfl)) (fun _ => et_test (ev_flds T (j := 6) rfl rfl (hm.ex e3) (hv1.ex (e12.trans e3)) ok1))) rfl) (fun z => nomatch z) (fun _ H4 e4 => ?_)
    refine q_asgS (Pv := fun x H' => ∃ c, x = .ref c ∧ MsAt CM H' c m1.kind m1.to m1.from_ m1.body) (fun H5 e5 Q5 q5 => ⟨rfl, _, rfl, m1, rfl, ok1, fun c H6 hc e6 hm6 => q5 _ H6 e6 ⟨c, rfl, hm6⟩⟩) (fun v H5 e5 ⟨c, hv, hc⟩ => ?_)
    subst hv
    have e15 := ((e12.trans e3).trans e4).trans e5
    have hm5 := hm.ex ((e3.trans e4).trans e5)
    refine q_when (b := false) (et_is (et_or (a := false) (b := false) (et_is (et_not (et_B (ev_cb (ea_cons (ev_var rfl) (ea_cons ev_c ea_nil)) (by obtain ⟨dx, v9, g1, g2⟩ := id hc; exact rc_isiOwn (T.ty g1) kOwnM)))) rfl) (fun _ => et_test (ev_flds T (j := 8) rfl rfl hc (hv1.ex e15) ok1))) rfl) (fun z => nomatch z) (fun _ H6 e6 => ?_)
    have e16 := e15.trans e6
    refine q_when (b := false) (et_is (et_or (a := false) (b := false) (et_is (et_test (ev_op (x := .str m1.text) (y := .str m1.text) (ev_wr (j := 8) rfl (hc.ex e6) ok1) (ev_var rfl) (rv_ne rfl))) (by rw [decide_eq_true rfl]; rfl)) (fun _ => et_is (et_or (a := false) (b := false) (et_is (et_not (et_test (ev_meq (em_of (ev_var rfl) (hc.ex e6)) (em_of (ev_var rfl) (hm5.ex e6)) pb pb))) (by rw [meq_self pb]; rfl)) (fun _ => et_is (et_test (ev_mne (em_of (ev_var rfl) (hc.ex e6)) (em_mk (ea_cons (ev_var rfl) (ea_cons (ev_var rfl) (ea_cons (ev_var rfl) (ea_cons (ev_var rfl) ea_nil)))) (hdb.ex e16)) pb pb)) (by rw [meq_self pb]; rfl))) rfl)) rfl) (fun z => nomatch z) (fun _ H7 e7 => ?_)
    have e17 := e16.trans e7
    have hm7 := hm5.ex (e6.trans e7)
    have hc7 := hc.ex (e6.trans e7)
    have d7 := hdb.ex e17
    refine q_asgS (Pv := fun v H' => ∃ l vs, v = .ref l ∧ H7 l = none ∧ H' l = some (.lst vs) ∧ UnL CM H' m1.kind m1.to m1.from_ m1.body vs ∧ vs.length = 2) (fun H0 e0 Q0 q0 => ?_) (fun v H8 e8 ⟨l, vs, hv, hl, h8, u8, n8⟩ => ?_)
    · refine mg_two (CM := CM) (k1 := m1.kind) (k2 := m1.kind) (t1 := m1.to + 1) (t2 := m1.to) (s1 := m1.from_) (s2 := m1.from_ + 1) (H := H0) (em_mk (ea_cons (ev_var (i := 2) rfl) (ea_cons (ev_op (x := .int m1.to) (y := .int 1) (z := .int (m1.to + 1)) (ev_var (i := 3) rfl) ev_c (rv_I0 (g := fun i j => V.int (i + j)))) (ea_cons (ev_var (i := 4) rfl) (ea_cons (ev_var (i := 5) rfl) ea_nil)))) (d7.ex e0)) (em_mk (ea_cons (ev_var (i := 2) rfl) (ea_cons (ev_var (i := 3) rfl) (ea_cons (ev_op (x := .int m1.from_) (y := .int 1) (z := .int (m1.from_ + 1)) (ev_var (i := 4) rfl) ev_c (rv_I0 (g := fun i j => V.int (i + j)))) (ea_cons (ev_var (i := 5) rfl) ea_nil)))) (d7.ex e0)) H0 (Ex.refl H0) _ (fun p a1 a2 G2 hp g2 hpl hm1 hm2 => q0 _ _ g2 ⟨p, _, rfl, fresh_back e0 hp, hpl, ?_, rfl⟩)
      intro z hz
      have hz' : z = .ref a1 ∨ z = .ref a2 := by simpa using hz
      rcases hz' with rfl | rfl
      · exact ⟨a1, _, _, _, _, rfl, hm1, pb, meq_no pb pb fun h => by have := h.2.1; omega⟩
      · exact ⟨a2, _, _, _, _, rfl, hm2, pb, meq_no pb pb fun h => by have := h.2.2.1; omega⟩
    subst hv
    refine s_extU (K := K) (CM := CM) (k := m1.kind) (t := m1.to) (s := m1.from_) (d := m1.body) h8 (ev_var rfl) (fun G1 g1 Q1 q1 => ?_) (by omega) (fun ys H9 e9 u9 n9 => ?_)
    · refine ⟨_, rfl, _, rfl, vb, m1, rfl, d7.ex (e8.trans g1), ok1, fun bl bs G2 hbl g2 hb2 ob n20 => ⟨bl, rfl, ⟨bs, sq_of hb2⟩, fun Dl hD => lc_list (xs := bs) (fun i H' => ∃ ys, H' Dl = some (.lst ys) ∧ UnL CM H' m1.kind m1.to m1.from_ m1.body ys ∧ ys.length = i ∧ Ex G2 H') ⟨[], upd_same, fun v hv => by simp at hv, rfl, Ex.new hD⟩ (fun i H' _ ⟨_, _, _, _, he'⟩ => sq_of (he' _ _ hb2)) (fun i x H' hi ⟨ys, h', u', n', e'⟩ => ?_) (fun H' ⟨ys, h', u', n', e'⟩ => q1 Dl ys H' (fresh_back g2 hD) (g2.trans e') h' u' (by rw [n']; exact n20))⟩⟩
      obtain ⟨ds, hds, hall⟩ := ob.ex e'
      obtain ⟨dd, hdd, hdx⟩ := hds.got hi
      have od := hall dd (List.mem_of_getElem? hdd)
      have ilt := (List.getElem?_eq_some_iff.mp hi).1
      refine ⟨rfl, yes_T ?_⟩
      refine em_mk (CM := CM) (k := m1.kind) (t := m1.to) (s := m1.from_) (d := dd) (σ := [some (.ref p1), some (.ref p2), some (.str m1.kind), some (.int m1.to), some (.int m1.from_), some vb, some (.ref a), some (.str m1.text), some (.ref c), some (.ref l), some x, none, none, none, none, none]) (ea_cons (ev_var (i := 2) rfl) (ea_cons (ev_var (i := 3) rfl) (ea_cons (ev_var (i := 4) rfl) (ea_cons (ev_var (i := 10) rfl) ea_nil)))) hdx H' (Ex.refl H') _ (fun z G4 g4 ⟨a4, hz4, hm4⟩ => ?_)
      refine ⟨ys, g4 _ _ h', sz_lt (by omega), ys ++ [z], upd_same, ((u'.ex g4).snoc ⟨a4, _, _, _, _, hz4, hm4, od.1, meq_no pb od.1 fun h => od.2 h.2.2.2.symm⟩).keep (g4 _ _ h'), by rw [List.length_append, n']; rfl, Ex.mut (e'.trans g4) hD⟩
    have e79 := Ex.mut (o := .lst (vs ++ ys)) (e8.trans e9) hl
    have uA : UnL CM (upd H9 l (.lst (vs ++ ys))) m1.kind m1.to m1.from_ m1.body (vs ++ ys) := ((u8.ex e9).app u9).keep (e9 _ _ h8)
    refine q_asgL (xs := [.str "heard", .str "yes", .str "no", .str "free"]) (el_lst (ea_cons ev_c (ea_cons ev_c (ea_cons ev_c (ea_cons ev_c ea_nil)))) (by show 4 ≤ 100000; decide)) (fun sl HA hsl eA hA => ?_)
    have lsl : sl ≠ l := fun z => by rw [z, upd_same] at hsl; cases hsl
    have hlA : HA l = some (.lst (vs ++ ys)) := eA _ _ upd_same
    have e7A := e79.trans eA
    refine s_extU (K := K) (CM := CM) (k := m1.kind) (t := m1.to) (s := m1.from_) (d := m1.body) hlA (ev_var rfl) (fun G1 g1 Q1 q1 => ?_) (by rw [List.length_append]; omega) (fun zs HB eB uB nB => ?_)
    · refine ⟨_, rfl, sl, rfl, ⟨[.str "heard", .str "yes", .str "no", .str "free"], sq_of (g1 _ _ hA)⟩, fun Dl hD => lc_list (xs := [.str "heard", .str "yes", .str "no", .str "free"]) (fun i H' => ∃ ys, H' Dl = some (.lst ys) ∧ UnL CM H' m1.kind m1.to m1.from_ m1.body ys ∧ ys.length ≤ i ∧ Ex G1 H') ⟨[], upd_same, fun v hv => by simp at hv, Nat.le_refl _, Ex.new hD⟩ (fun i H' _ ⟨_, _, _, _, he'⟩ => sq_of (he' _ _ (g1 _ _ hA))) (fun i x H' hi ⟨ys, h', u', n', e'⟩ => ?_) (fun H' ⟨ys, h', u', n', e'⟩ => q1 Dl ys H' hD e' h' u' (Nat.le_trans n' (by show 4 ≤ 20; decide)))⟩
      have ilt : i < 4 := (List.getElem?_eq_some_iff.mp hi).1
      obtain ⟨wd, rfl⟩ : ∃ wd : Str, x = .str wd := by
        have := List.mem_of_getElem? hi
        have h4 : x = .str "heard" ∨ x = .str "yes" ∨ x = .str "no" ∨ x = .str "free" := by simpa using this
        rcases h4 with rfl | rfl | rfl | rfl <;> exact ⟨_, rfl⟩
      refine ⟨rfl, ?_⟩
      refine (et_and (σ := [some (.ref p1), some (.ref p2), some (.str m1.kind), some (.int m1.to), some (.int m1.from_), some vb, some (.ref a), some (.str m1.text), some (.ref c), some (.ref l), none, some (.ref sl), some (.str wd), none, none, none]) (H := H') (a := inV (.str m1.kind) [.str "heard", .str "yes", .str "no", .str "free"]) (b := !decide (V.str wd = V.str m1.kind)) (et_test (ev_op (x := .str m1.kind) (y := .ref sl) (ev_var rfl) (ev_var rfl) (rv_isL (K := K) (sq_of ((g1.trans e') _ _ hA)) rfl (by decide +kernel)))) (fun _ => et_test (ev_op (x := .str wd) (y := .str m1.kind) (ev_var rfl) (ev_var rfl) (rv_ne rfl)))) H' (Ex.refl H') _ (fun G3 g3 => ?_)
      cases hb : (inV (.str m1.kind) [.str "heard", .str "yes", .str "no", .str "free"] && !decide (V.str wd = V.str m1.kind)) with
      | false => exact if_F (c := false = true) (by decide) ⟨ys, g3 _ _ h', u'.ex g3, by omega, e'.trans g3⟩
      | true =>
        refine if_T (c := true = true) rfl ?_
        have hne : wd ≠ m1.kind := fun z => by
          rw [z, decide_eq_true rfl] at hb
          simp at hb
        refine em_mk (CM := CM) (k := wd) (t := m1.to) (s := m1.from_) (σ := [some (.ref p1), some (.ref p2), some (.str m1.kind), some (.int m1.to), some (.int m1.from_), some vb, some (.ref a), some (.str m1.text), some (.ref c), some (.ref l), none, some (.ref sl), some (.str wd), none, none, none]) (ea_cons (ev_var (i := 12) rfl) (ea_cons (ev_var (i := 3) rfl) (ea_cons (ev_var (i := 4) rfl) (ea_cons (ev_var (i := 5) rfl) ea_nil)))) (d7.ex (((e7A.trans g1).trans e').trans g3)) G3 (Ex.refl G3) _ (fun z G4 g4 ⟨a4, hz4, hm4⟩ => ?_)
        have h4' := (g3.trans g4) _ _ h'
        exact ⟨ys, h4', sz_lt (by omega), ys ++ [z], upd_same, ((u'.ex (g3.trans g4)).snoc ⟨a4, _, _, _, _, hz4, hm4, pb, meq_no pb pb fun h => hne h.1.symm⟩).keep h4', by rw [List.length_append]; show ys.length + 1 ≤ i + 1; omega, Ex.mut ((e'.trans g3).trans g4) hD⟩
    have e7B := Ex.mut (o := .lst (vs ++ ys ++ zs)) (e7A.trans eB) hl
    have uC : UnL CM (upd HB l (.lst (vs ++ ys ++ zs))) m1.kind m1.to m1.from_ m1.body (vs ++ ys ++ zs) := ((((uA.ex eA).ex eB)).app uB).keep (eB _ _ hlA)
    refine q_asgL (xs := [.bl true, .bl true]) (el_lst (ea_cons (ev_is (ev_meq (em_of (ev_var rfl) (hm7.ex e7B)) (em_mk (ea_cons (ev_var rfl) (ea_cons (ev_var rfl) (ea_cons (ev_var rfl) (ea_cons (ev_var rfl) ea_nil)))) (d7.ex e7B)) pb pb) (by rw [meq_self pb])) (ea_cons (ev_is (ev_meq (em_mk (ea_cons (ev_var rfl) (ea_cons (ev_var rfl) (ea_cons (ev_var rfl) (ea_cons (ev_var rfl) ea_nil)))) (d7.ex e7B)) (em_of (ev_var rfl) (hc7.ex e7B)) pb pb) (by rw [meq_self pb])) ea_nil)) (by show 2 ≤ 100000; decide)) (fun ml HC hml eC hC => ?_)
    have e7C := e7B.trans eC
    have hp2C := (e17.trans e7C) _ _ hp2
    have ix : ∀ {i : Nat} {v : V} {c' : Int} {HX : Hp} {σ : L2.St}, σ[1]? = some (some (.ref p2)) → c' = (i : Int) → [V.str m2.kind, V.int m2.to, V.int m2.from_, wb][i]? = some v → Ex HC HX → Ev (tOp (rIxT K) (tVar 1) (tC (.int c'))) σ HX v := fun {i v c' HX σ} s1 hc' hi e => by
      subst hc'
      exact ev_op (ev_var s1) ev_c (rv_ixT (st_of (e _ _ hp2C)) (atI_nat hi))
    refine q_asg (v := .bl (meqB m1.kind m1.to m1.from_ m1.body m2.kind m2.to m2.from_ m2.body)) (ev_meq (em_of (ev_var rfl) (hm7.ex e7C)) (em_mk (ea_cons (ix (i := 0) rfl rfl rfl (Ex.refl HC)) (ea_cons (ix (i := 1) rfl rfl rfl (Ex.refl HC)) (ea_cons (ix (i := 2) rfl rfl rfl (Ex.refl HC)) (ea_cons (ix (i := 3) rfl rfl rfl (Ex.refl HC)) ea_nil)))) (hdb2.ex (e17.trans e7C))) pb pb2) (fun HD eD => ?_)
    have e7D := e7C.trans eD
    have eBD := eC.trans eD
    refine q_asgL (xs := (vs ++ ys ++ zs).map fun _ => V.bl false) (el_lcLy (K := K) (xs := vs ++ ys ++ zs) (ev_var rfl) (sq_of (eBD _ _ upd_same)) (by rw [List.length_append, List.length_append]; omega) (fun _ => rfl) (by rw [List.length_map]) (fun i x y HE eE hx hy => ?_)) (fun ol HE hol eE hE => ?_)
    · have hu := uC x (List.mem_of_getElem? hx)
      obtain ⟨a', k', t', s', d', rfl, hm', pk', hne⟩ := hu.ex (eBD.trans eE)
      have hy' : y = .bl false := by
        rw [List.getElem?_map, hx] at hy
        exact (Option.some.inj hy).symm
      rw [hy']
      exact ev_is (ev_meq (em_of (ev_var rfl) (hm7.ex (e7D.trans eE))) (em_of (ev_var rfl) hm') pb pk') (by rw [hne])
    have e7E := e7D.trans eE
    have hv1E := hv1.ex (e17.trans e7E)
    have hv2E := hv2.ex (e17.trans e7E)
    refine s_ret (v := .bl true) (ev_andV (a := true) (b := true) (fun G1 g1 Q1 q1 => ⟨_, rfl, by show 2 ≤ sizeLine; decide, fun p hp => ?_⟩) (fun _ => ev_andV (a := true) (b := true) (ev_notV (a := false) (ev_is (ev_cb (z := .bl (((vs ++ ys ++ zs).map fun _ => false).any id)) (ea_cons (ev_var rfl) ea_nil) (fun G1 g1 Q1 q1 => ⟨ol, (vs ++ ys ++ zs).map fun _ => false, rfl, by rw [List.map_map]; exact sq_of (g1 _ _ hE), q1 G1 (Ex.refl G1)⟩)) (by rw [List.any_map]; congr 1; rw [List.any_eq_false]; intro x _; exact Bool.false_ne_true)))
      (fun _ => ev_is (ev_op (x := .bl (meqB m1.kind m1.to m1.from_ m1.body m2.kind m2.to m2.from_ m2.body)) (y := .bl (PyData.eqv m1.dat m2.dat)) (ev_var rfl) (ev_op (ev_var rfl) (ev_var rfl) (rv_eqDd hv1E hv2E (ok1.pk.shaped (by decide)) (ok2.pk.shaped (by decide)))) (rv_eq rfl)) ?_))) (fun HF eF => q HF ((e17.trans e7E).trans eF))
    · have eN := Ex.new (o := .lst [V.bl true, V.bl true]) hp
      have hsh : SeqAt.shaped (.list [.bool true, .bool true]) = true := by decide +kernel
      refine ⟨.list [.bool true, .bool true], .list [.bool true, .bool true], .lst (sq_of (((((eD.trans eE).trans g1).trans eN)) _ _ hC)) (.cons (.bl true) (.cons (.bl true) .nil)), .lst (sq_of upd_same) (.cons (.bl true) (.cons (.bl true) .nil)), hsh, hsh, ?_⟩
      rw [SeqAt.eqv_refl _ (SeqAt.canLay_of_shaped hsh)]
      exact q1 _ eN
    · have e9 : meqB m1.kind m1.to m1.from_ m1.body m2.kind m2.to m2.from_ m2.body = PyData.eqv m1.dat m2.dat := by
        rw [Bool.eq_iff_iff, meq_iff pb pb2, Pk.eqv ok1.pk ok2.pk]
        constructor
        · rintro ⟨h1, h2, h3, h4⟩
          unfold Msg.dat
          rw [h1, h2, h3, h4]
        · intro h
          unfold Msg.dat at h
          injection h with h
          injection h with h1 h
          injection h with h2 h
          injection h with h3 h
          injection h with h4 _
          injection h1 with h1
          injection h2 with h2
          injection h3 with h3
          exact ⟨h1, h2, h3, h4⟩
      rw [e9, decide_eq_true rfl]
end
end Fs

set_option Elab.async false
set_option linter.all false
set_option maxRecDepth 100000
set_option maxHeartbeats 4000000
/-! the law -/
namespace Fs
open PySem L2 Evl FsE FsC FsR FsP FsV FsG FsQ FsK
def spLaw (K : PySem.W.Frag) : Sp := fun vs H Q _ => ∃ (a : Addr) (ns : List Int), vs = [.ref a] ∧ SqL K H a (ns.map V.int) ∧ ∀ H', Q (.bl true) H'
theorem es_am {σ : L2.St} {H : Hp} {K : PySem.W.Frag} {E : L2.St → XK} {a : Addr} {ns : List Int} {k i : Nat} {c : Int} (hc : c = (k : Int)) (s0 : σ[i]? = some (some (.ref a))) (hS : SqL K H a (ns.map V.int)) : EvS (tCallS (spAm K) E (tCons (tVar i) (tCons (tC (.int c)) tNil))) σ H (fun v H' => ∃ m, MsgOk m ∧ DaAt H' v m.dat) := fun H1 e1 Q q => by
  subst hc
  exact ⟨_, s0, a, k, ns, rfl, ex_l e1 hS, fun v m H2 e2 ok hd => q v H2 e2 ⟨m, ok, hd⟩⟩
section
variable {P : Program} {w : World} {K : PySem.W.Frag} {mg : Str → Option Value} {base : Heap}
theorem scLawM : FnScope ["_law_script", "_law_one", "_law_two"] ["_law_script"] (defScope (topS 43)) := ⟨rfl, rfl, rfl, by decide +kernel, rfl, by decide +kernel, by decide +kernel⟩
theorem ok_law {f : Addr} {fd : FuncData} (F : Fun K "law" "law" (topS 43) f fd) (GA : CalX P w K mg base CX0 6 "_law_any_message" (spAm K)) (GR : CalX P w K mg base CX0 11 "_law_right" spRt) : FnOk P w K mg base CX0 12 f fd ["_law_script"] (spLaw K) := by
  refine F.ok (k := 11) scLawM (fun vs H Q E h => ?_) (fun cdv A outer s H vs Q E hr h => ?_)
  · obtain ⟨a, ns, rfl, _⟩ := h
    rfl
  · obtain ⟨a, ns, rfl, hS, q⟩ := h
    refine ⟨_, pss_cons (ps_set (i := 1) scLawM.nd rfl (Or.inl rfl) (pe_cx (E := fun _ => E0) GA hr (by decide) (by rfl) at0 (pa_cons (pv 0) (pa_cons pe_int pa_nil))))
      (pss_cons (ps_set (i := 2) scLawM.nd rfl (Or.inl rfl) (pe_cx (E := fun _ => E0) GA hr (by decide) (by rfl) at0 (pa_cons (pv 0) (pa_cons pe_int pa_nil))))
      (pss_one (ps_ret (pe_and (pe_cx (E := fun _ => E0) GR hr (Nat.le_refl _) (by rfl) at0 (pa_cons (pv 1) (pa_cons (pv 2) pa_nil))) (pe_one (pe_cx (E := fun _ => E0) GR hr (Nat.le_refl _) (by rfl) at0 (pa_cons (pv 2) (pa_cons (pv 1) pa_nil)))))))), ?_⟩
    refine q_asgS (es_am (k := 0) rfl rfl hS) (fun v1 H1 e1 ⟨m1, ok1, h1⟩ => ?_)
    refine q_asgS (es_am (k := 7) rfl rfl (ex_l e1 hS)) (fun v2 H2 e2 ⟨m2, ok2, h2⟩ => ?_)
    have h1' := h1.ex e2
    exact s_ret (v := .bl true) (ev_andV (a := true) (b := true) (ev_cx (ea_cons (ev_var rfl) (ea_cons (ev_var rfl) ea_nil)) (fun H3 e3 Q3 q3 E3 => ⟨v1, v2, m1, m2, rfl, h1'.ex e3, h2.ex e3, ok1, ok2, q3⟩)) (fun _ => ev_cx (ea_cons (ev_var rfl) (ea_cons (ev_var rfl) ea_nil)) (fun H3 e3 Q3 q3 E3 => ⟨v2, v1, m2, m1, rfl, h2.ex e3, h1'.ex e3, ok2, ok1, q3⟩))) (fun H3 e3 => q H3)
end
end Fs

set_option Elab.async false
set_option linter.all false
set_option maxRecDepth 100000
set_option maxHeartbeats 8000000
namespace Fs
open PySem PySem.Spec PyProof.Rows L2 Evl FsE FsC FsR FsP FsV FsG FsQ FsK
theorem exm_own {K : PySem.W.Frag} {S : Addr} (h1 : PySem.W.subIn K (.ref S) (.type "BaseException") = some true) (h2 : PySem.W.isClsIn K S = true) (h3 : PySem.W.typeIn K (.ref S) = some (.type "type")) (h4 : PySem.W.subIn K (.ref S) (.ref S) = some true) : PySem.W.exmOne K (.ref S) (.ref S) = some true := by
  unfold PySem.W.exmOne PySem.W.kitCls
  have h2' : (PySem.W.clsIn K S).isSome = true := h2
  simp only [h1, h2', h3, h4, beq_self_eq_true, Bool.and_self, if_true]
theorem kit_no {K : PySem.W.Frag} {S : Addr} {T : String} (h2 : PySem.W.isClsIn K S = true) (h3 : PySem.W.typeIn K (.ref S) = some (.type "type")) (h4 : PySem.W.subIn K (.type T) (.ref S) = some false) : PySem.W.kitOne K (.type T) (.ref S) = some false := by
  unfold PySem.W.kitOne PySem.W.kitCls
  have h2' : (PySem.W.clsIn K S).isSome = true := h2
  have h0 : (Value.type T == Value.ref S) = false := rfl
  simp only [h0, h2', h3, h4, beq_self_eq_true, Bool.and_self, if_true]
  rfl
theorem kit_two {K : PySem.W.Frag} {C S : Addr} (h0 : (Value.ref C == Value.ref S) = false) (h2 : PySem.W.isClsIn K S = true) (h3 : PySem.W.typeIn K (.ref S) = some (.type "type")) (h4 : PySem.W.subIn K (.ref C) (.ref S) = some false) : PySem.W.kitOne K (.ref C) (.ref S) = some false := by
  unfold PySem.W.kitOne PySem.W.kitCls
  have h2' : (PySem.W.clsIn K S).isSome = true := h2
  simp only [h0, h2', h3, h4, beq_self_eq_true, Bool.and_self, if_true]
  rfl
theorem all_mk {P : Program} {w : World} {K : PySem.W.Frag} {h : Heap} {mg : Str → Option Value} {fa : Addr} (X : K.In h) (G : h.Ns mainGlobals mg) (hfa : mg "law" = some (.ref fa))
    {zD : Str} {tD : Tok}
    {iDg : Int} {tDg : Tok}
    {iT : Int} {tT : Tok}
    {iM : Int} {tM : Tok}
    {iMm : Int} {tMm : Tok}
    {iMo : Int} {tMo : Tok}
    {aPa : Addr} {odPa : Option Addr} {slPa : Array (Option Value)} {itsPa : Array Value} {nPa : Nat}
    {aHo : Addr} {odHo : Option Addr} {slHo : Array (Option Value)} {itsHo : Array Value} {nHo : Nat}
    {CR : Addr}
    {freq : Addr} {odreq anreq : Option Addr} {slreq : Array (Option Value)} {ocreq kVreq dcreq pmreq cdreq ctreq : Value}
    {fmore : Addr} {odmore anmore : Option Addr} {slmore : Array (Option Value)} {ocmore kVmore dcmore pmmore cdmore ctmore : Value}
    {ffin : Addr} {odfin anfin : Option Addr} {slfin : Array (Option Value)} {ocfin kVfin dcfin pmfin cdfin ctfin : Value}
    {ftok : Addr} {odtok antok : Option Addr} {sltok : Array (Option Value)} {octok kVtok dctok pmtok cdtok cttok : Value}
    {ftki : Addr} {odtki antki : Option Addr} {sltki : Array (Option Value)} {octki kVtki dctki pmtki cdtki cttki : Value}
    {ftis : Addr} {odtis antis : Option Addr} {sltis : Array (Option Value)} {octis kVtis dctis pmtis cdtis cttis : Value}
    {frin : Addr} {odrin anrin : Option Addr} {slrin : Array (Option Value)} {ocrin kVrin dcrin pmrin cdrin ctrin : Value}
    {ftms : Addr} {odtms antms : Option Addr} {sltms : Array (Option Value)} {octms kVtms dctms pmtms cdtms cttms : Value}
    {ftbd : Addr} {odtbd antbd : Option Addr} {sltbd : Array (Option Value)} {octbd kVtbd dctbd pmtbd cdtbd cttbd : Value}
    {ftbl : Addr} {odtbl antbl : Option Addr} {sltbl : Array (Option Value)} {octbl kVtbl dctbl pmtbl cdtbl cttbl : Value}
    {ftch : Addr} {odtch antch : Option Addr} {sltch : Array (Option Value)} {octch kVtch dctch pmtch cdtch cttch : Value}
    {ftvl : Addr} {odtvl antvl : Option Addr} {sltvl : Array (Option Value)} {octvl kVtvl dctvl pmtvl cdtvl cttvl : Value}
    {ftrs : Addr} {odtrs antrs : Option Addr} {sltrs : Array (Option Value)} {octrs kVtrs dctrs pmtrs cdtrs cttrs : Value}
    {ftrw : Addr} {odtrw antrw : Option Addr} {sltrw : Array (Option Value)} {octrw kVtrw dctrw pmtrw cdtrw cttrw : Value}
    {ftmt : Addr} {odtmt antmt : Option Addr} {sltmt : Array (Option Value)} {octmt kVtmt dctmt pmtmt cdtmt cttmt : Value}
    {ftpt : Addr} {odtpt antpt : Option Addr} {sltpt : Array (Option Value)} {octpt kVtpt dctpt pmtpt cdtpt cttpt : Value}
    {ftct : Addr} {odtct antct : Option Addr} {sltct : Array (Option Value)} {octct kVtct dctct pmtct cdtct cttct clDtct : Value} {aDtct : Addr} {odDtct : Option Addr} {nDtct : Nat} {slDtct : Array (Option Value)} {iDtct : Int} {tDtct : Tok}
    {CT : Addr}
    {ftin : Addr} {odtin antin : Option Addr} {sltin : Array (Option Value)} {octin kVtin dctin pmtin cdtin cttin : Value}
    {CM : Addr}
    {fmgi : Addr} {odmgi anmgi : Option Addr} {slmgi : Array (Option Value)} {ocmgi kVmgi dcmgi pmmgi cdmgi ctmgi : Value}
    {fmgw : Addr} {odmgw anmgw : Option Addr} {slmgw : Array (Option Value)} {ocmgw kVmgw dcmgw pmmgw cdmgw ctmgw : Value}
    {fmge : Addr} {odmge anmge : Option Addr} {slmge : Array (Option Value)} {ocmge kVmge dcmge pmmge cdmge ctmge : Value}
    {pread : Addr} {restread : List Value}
    {fstread : Addr} {odstread anstread : Option Addr} {slstread : Array (Option Value)} {ocstread kVstread dcstread pmstread cdstread ctstread : Value}
    {fisint : Addr} {odisint anisint : Option Addr} {slisint : Array (Option Value)} {ocisint kVisint dcisint pmisint cdisint ctisint : Value}
    {fisseats : Addr} {odisseats anisseats : Option Addr} {slisseats : Array (Option Value)} {ocisseats kVisseats dcisseats pmisseats cdisseats ctisseats : Value}
    {fisix : Addr} {odisix anisix : Option Addr} {slisix : Array (Option Value)} {ocisix kVisix dcisix pmisix cdisix ctisix : Value}
    {fir : Addr} {odir anir : Option Addr} {slir : Array (Option Value)} {ocir kVir dcir pmir cdir ctir : Value}
    {fit : Addr} {odit anit : Option Addr} {slit : Array (Option Value)} {ocit kVit dcit pmit cdit ctit : Value}
    {fcht : Addr} {odcht ancht : Option Addr} {slcht : Array (Option Value)} {occht kVcht dccht pmcht cdcht ctcht : Value}
    {fvt : Addr} {odvt anvt : Option Addr} {slvt : Array (Option Value)} {ocvt kVvt dcvt pmvt cdvt ctvt : Value}
    {fbt : Addr} {odbt anbt : Option Addr} {slbt : Array (Option Value)} {ocbt kVbt dcbt pmbt cdbt ctbt : Value}
    {fvts : Addr} {odvts anvts : Option Addr} {slvts : Array (Option Value)} {ocvts kVvts dcvts pmvts cdvts ctvts : Value}
    {fcellat : Addr} {odcellat ancellat : Option Addr} {slcellat : Array (Option Value)} {occellat kVcellat dccellat pmcellat cdcellat ctcellat : Value}
    {fmixed : Addr} {odmixed anmixed : Option Addr} {slmixed : Array (Option Value)} {ocmixed kVmixed dcmixed pmmixed cdmixed ctmixed : Value}
    {frow : Addr} {odrow anrow : Option Addr} {slrow : Array (Option Value)} {ocrow kVrow dcrow pmrow cdrow ctrow : Value}
    {fword : Addr} {odword anword : Option Addr} {slword : Array (Option Value)} {ocword kVword dcword pmword cdword ctword : Value}
    {flwr : Addr} {odlwr anlwr : Option Addr} {sllwr : Array (Option Value)} {oclwr kVlwr dclwr pmlwr cdlwr ctlwr : Value}
    {fnum : Addr} {odnum annum : Option Addr} {slnum : Array (Option Value)} {ocnum kVnum dcnum pmnum cdnum ctnum : Value}
    {fach : Addr} {odach anach : Option Addr} {slach : Array (Option Value)} {ocach kVach dcach pmach cdach ctach : Value}
    {fav : Addr} {odav anav : Option Addr} {slav : Array (Option Value)} {ocav kVav dcav pmav cdav ctav : Value}
    {fab : Addr} {odab anab : Option Addr} {slab : Array (Option Value)} {ocab kVab dcab pmab cdab ctab : Value}
    {fam : Addr} {odam anam : Option Addr} {slam : Array (Option Value)} {ocam kVam dcam pmam cdam ctam : Value}
    {fmov : Addr} {odmov anmov : Option Addr} {slmov : Array (Option Value)} {ocmov kVmov dcmov pmmov cdmov ctmov : Value}
    {forr : Addr} {odorr anorr : Option Addr} {slorr : Array (Option Value)} {ocorr kVorr dcorr pmorr cdorr ctorr : Value}
    {fob : Addr} {odob anob : Option Addr} {slob : Array (Option Value)} {ocob kVob dcob pmob cdob ctob : Value}
    {frt : Addr} {odrt anrt : Option Addr} {slrt : Array (Option Value)} {ocrt kVrt dcrt pmrt cdrt ctrt : Value}
    {flaw : Addr} {odlaw anlaw : Option Addr} {sllaw : Array (Option Value)} {oclaw kVlaw dclaw pmlaw cdlaw ctlaw : Value}
    (gD : PySem.W.nsIn K mainGlobals "DIGITS" = some (some (.str zD tD)))
    (hD : zD = digitsS)
    (gDg : PySem.W.nsIn K mainGlobals "MOST_DIGITS" = some (some (.int iDg tDg)))
    (hDg : iDg = 30)
    (gT : PySem.W.nsIn K mainGlobals "TOO_LONG" = some (some (.int iT tT)))
    (hT : iT = 10 ^ 30)
    (gM : PySem.W.nsIn K mainGlobals "MOST_SEATS" = some (some (.int iM tM)))
    (hM : iM = 4)
    (gMm : PySem.W.nsIn K mainGlobals "MOST_MACHINES" = some (some (.int iMm tMm)))
    (hMm : iMm = 6)
    (gMo : PySem.W.nsIn K mainGlobals "MOST_OFFERS" = some (some (.int iMo tMo)))
    (hMo : iMo = 6)
    (z_isinstance : PySem.W.nsIn K mainGlobals "isinstance" = some (none))
    (z_str : PySem.W.nsIn K mainGlobals "str" = some (none))
    (z_int : PySem.W.nsIn K mainGlobals "int" = some (none))
    (z_bool : PySem.W.nsIn K mainGlobals "bool" = some (none))
    (z_len : PySem.W.nsIn K mainGlobals "len" = some (none))
    (z_all : PySem.W.nsIn K mainGlobals "all" = some (none))
    (z_tuple : PySem.W.nsIn K mainGlobals "tuple" = some (none))
    (gPa : PySem.W.nsIn K mainGlobals "TO_PARTY" = some (some (.ref aPa)))
    (lPa : K.lookup aPa = some ⟨.type "tuple", odPa, .seq itsPa nPa, slPa⟩)
    (sPa : itsPa.size ≤ 1000)
    (hPa : Vals party4 itsPa.toList)
    (gHo : PySem.W.nsIn K mainGlobals "TO_HOME" = some (some (.ref aHo)))
    (lHo : K.lookup aHo = some ⟨.type "tuple", odHo, .seq itsHo nHo, slHo⟩)
    (sHo : itsHo.size ≤ 1000)
    (hHo : Vals home3 itsHo.toList)
    (z_set : PySem.W.nsIn K mainGlobals "set" = some (none))
    (z_sorted : PySem.W.nsIn K mainGlobals "sorted" = some (none))
    (z_range : PySem.W.nsIn K mainGlobals "range" = some (none))
    (aCR : PySem.W.nsIn K mainGlobals "MessageReader" = some (some (.ref CR)))
    (pgR : PySem.W.plainGet K CR Str.empty = true)
    (hdR : PySem.W.hasDictIn K CR = true)
    (poR : PySem.W.plainOver K CR = true)
    (saR : PySem.W.findIn K (.ref CR) "__setattr__" = some (some (.builtin "object.__setattr__")))
    (nR_tokens : PySem.W.findIn K (.ref CR) "tokens" = some none)
    (nR_taken : PySem.W.findIn K (.ref CR) "taken" = some none)
    (nR_text : PySem.W.findIn K (.ref CR) "text" = some none)
    (mkR : PySem.W.makesIn K CR = true)
    (kcR : PySem.W.keepIn K (.ref CR) = true)
    (haR : PySem.W.findIn K (.ref CR) "__class__" = some (some (.builtin "object.__class__")))
    (hn : PySem.W.specialIn K (.builtin "object.__class__") "__get__" = some (some (.builtin "getset_descriptor.__get__")))
    (ht : PySem.W.takesIn K (.builtin "object.__class__") = some true)
    (hmR : PySem.W.mroIn K CR (.type "object") = some true)
    (icR : PySem.W.isClsIn K CR = true)
    (tyR : PySem.W.typeIn K (.ref CR) = some (.type "type"))
    (mreq : PySem.W.findIn K (.ref CR) "require" = some (some (.ref freq)))
    (ireq : PySem.W.isFn K (.ref freq) = true)
    (lreq : K.lookup freq = some ⟨ocreq, odreq, .func (PySem.W.fnOf "require" "Tokens.require" (defArgs (inClass (topS 19) 2)) (defBody (inClass (topS 19) 2)) (defScope (inClass (topS 19) 2)) .none kVreq dcreq pmreq anreq cdreq ctreq), slreq⟩)
    (creq : PySem.W.codeIn K cdreq "Tokens.require" = true)
    (kreq : PySem.W.keepIn K (.ref freq) = true)
    (mmore : PySem.W.findIn K (.ref CR) "has_more" = some (some (.ref fmore)))
    (imore : PySem.W.isFn K (.ref fmore) = true)
    (lmore : K.lookup fmore = some ⟨ocmore, odmore, .func (PySem.W.fnOf "has_more" "Tokens.has_more" (defArgs (inClass (topS 19) 3)) (defBody (inClass (topS 19) 3)) (defScope (inClass (topS 19) 3)) .none kVmore dcmore pmmore anmore cdmore ctmore), slmore⟩)
    (cmore : PySem.W.codeIn K cdmore "Tokens.has_more" = true)
    (kmore : PySem.W.keepIn K (.ref fmore) = true)
    (mfin : PySem.W.findIn K (.ref CR) "finish" = some (some (.ref ffin)))
    (ifin : PySem.W.isFn K (.ref ffin) = true)
    (lfin : K.lookup ffin = some ⟨ocfin, odfin, .func (PySem.W.fnOf "finish" "Tokens.finish" (defArgs (inClass (topS 19) 4)) (defBody (inClass (topS 19) 4)) (defScope (inClass (topS 19) 4)) .none kVfin dcfin pmfin anfin cdfin ctfin), slfin⟩)
    (cfin : PySem.W.codeIn K cdfin "Tokens.finish" = true)
    (kfin : PySem.W.keepIn K (.ref ffin) = true)
    (mtok : PySem.W.findIn K (.ref CR) "take_token" = some (some (.ref ftok)))
    (itok : PySem.W.isFn K (.ref ftok) = true)
    (ltok : K.lookup ftok = some ⟨octok, odtok, .func (PySem.W.fnOf "take_token" "Tokens.take_token" (defArgs (inClass (topS 19) 5)) (defBody (inClass (topS 19) 5)) (defScope (inClass (topS 19) 5)) .none kVtok dctok pmtok antok cdtok cttok), sltok⟩)
    (ctok : PySem.W.codeIn K cdtok "Tokens.take_token" = true)
    (ktok : PySem.W.keepIn K (.ref ftok) = true)
    (mtki : PySem.W.findIn K (.ref CR) "take_int" = some (some (.ref ftki)))
    (itki : PySem.W.isFn K (.ref ftki) = true)
    (ltki : K.lookup ftki = some ⟨octki, odtki, .func (PySem.W.fnOf "take_int" "Tokens.take_int" (defArgs (inClass (topS 19) 6)) (defBody (inClass (topS 19) 6)) (defScope (inClass (topS 19) 6)) .none kVtki dctki pmtki antki cdtki cttki), sltki⟩)
    (ctki : PySem.W.codeIn K cdtki "Tokens.take_int" = true)
    (ktki : PySem.W.keepIn K (.ref ftki) = true)
    (mtis : PySem.W.findIn K (.ref CR) "take_ints" = some (some (.ref ftis)))
    (itis : PySem.W.isFn K (.ref ftis) = true)
    (ltis : K.lookup ftis = some ⟨octis, odtis, .func (PySem.W.fnOf "take_ints" "Tokens.take_ints" (defArgs (inClass (topS 19) 8)) (defBody (inClass (topS 19) 8)) (defScope (inClass (topS 19) 8)) .none kVtis dctis pmtis antis cdtis cttis), sltis⟩)
    (ctis : PySem.W.codeIn K cdtis "Tokens.take_ints" = true)
    (ktis : PySem.W.keepIn K (.ref ftis) = true)
    (mrin : PySem.W.findIn K (.ref CR) "__init__" = some (some (.ref frin)))
    (irin : PySem.W.isFn K (.ref frin) = true)
    (lrin : K.lookup frin = some ⟨ocrin, odrin, .func (PySem.W.fnOf "__init__" "MessageReader.__init__" (defArgs (inClass (topS 23) 0)) (defBody (inClass (topS 23) 0)) (defScope (inClass (topS 23) 0)) .none kVrin dcrin pmrin anrin cdrin ctrin), slrin⟩)
    (crin : PySem.W.codeIn K cdrin "MessageReader.__init__" = true)
    (krin : PySem.W.keepIn K (.ref frin) = true)
    (mtms : PySem.W.findIn K (.ref CR) "take_message" = some (some (.ref ftms)))
    (itms : PySem.W.isFn K (.ref ftms) = true)
    (ltms : K.lookup ftms = some ⟨octms, odtms, .func (PySem.W.fnOf "take_message" "MessageReader.take_message" (defArgs (inClass (topS 23) 2)) (defBody (inClass (topS 23) 2)) (defScope (inClass (topS 23) 2)) .none kVtms dctms pmtms antms cdtms cttms), sltms⟩)
    (ctms : PySem.W.codeIn K cdtms "MessageReader.take_message" = true)
    (ktms : PySem.W.keepIn K (.ref ftms) = true)
    (mtbd : PySem.W.findIn K (.ref CR) "take_body" = some (some (.ref ftbd)))
    (itbd : PySem.W.isFn K (.ref ftbd) = true)
    (ltbd : K.lookup ftbd = some ⟨octbd, odtbd, .func (PySem.W.fnOf "take_body" "MessageReader.take_body" (defArgs (inClass (topS 23) 3)) (defBody (inClass (topS 23) 3)) (defScope (inClass (topS 23) 3)) .none kVtbd dctbd pmtbd antbd cdtbd cttbd), sltbd⟩)
    (ctbd : PySem.W.codeIn K cdtbd "MessageReader.take_body" = true)
    (ktbd : PySem.W.keepIn K (.ref ftbd) = true)
    (mtbl : PySem.W.findIn K (.ref CR) "take_below" = some (some (.ref ftbl)))
    (itbl : PySem.W.isFn K (.ref ftbl) = true)
    (ltbl : K.lookup ftbl = some ⟨octbl, odtbl, .func (PySem.W.fnOf "take_below" "MessageReader.take_below" (defArgs (inClass (topS 23) 4)) (defBody (inClass (topS 23) 4)) (defScope (inClass (topS 23) 4)) .none kVtbl dctbl pmtbl antbl cdtbl cttbl), sltbl⟩)
    (ctbl : PySem.W.codeIn K cdtbl "MessageReader.take_below" = true)
    (ktbl : PySem.W.keepIn K (.ref ftbl) = true)
    (mtch : PySem.W.findIn K (.ref CR) "take_channel" = some (some (.ref ftch)))
    (itch : PySem.W.isFn K (.ref ftch) = true)
    (ltch : K.lookup ftch = some ⟨octch, odtch, .func (PySem.W.fnOf "take_channel" "MessageReader.take_channel" (defArgs (inClass (topS 23) 5)) (defBody (inClass (topS 23) 5)) (defScope (inClass (topS 23) 5)) .none kVtch dctch pmtch antch cdtch cttch), sltch⟩)
    (ctch : PySem.W.codeIn K cdtch "MessageReader.take_channel" = true)
    (ktch : PySem.W.keepIn K (.ref ftch) = true)
    (mtvl : PySem.W.findIn K (.ref CR) "take_value" = some (some (.ref ftvl)))
    (itvl : PySem.W.isFn K (.ref ftvl) = true)
    (ltvl : K.lookup ftvl = some ⟨octvl, odtvl, .func (PySem.W.fnOf "take_value" "MessageReader.take_value" (defArgs (inClass (topS 23) 6)) (defBody (inClass (topS 23) 6)) (defScope (inClass (topS 23) 6)) .none kVtvl dctvl pmtvl antvl cdtvl cttvl), sltvl⟩)
    (ctvl : PySem.W.codeIn K cdtvl "MessageReader.take_value" = true)
    (ktvl : PySem.W.keepIn K (.ref ftvl) = true)
    (mtrs : PySem.W.findIn K (.ref CR) "take_rows" = some (some (.ref ftrs)))
    (itrs : PySem.W.isFn K (.ref ftrs) = true)
    (ltrs : K.lookup ftrs = some ⟨octrs, odtrs, .func (PySem.W.fnOf "take_rows" "MessageReader.take_rows" (defArgs (inClass (topS 23) 7)) (defBody (inClass (topS 23) 7)) (defScope (inClass (topS 23) 7)) .none kVtrs dctrs pmtrs antrs cdtrs cttrs), sltrs⟩)
    (ctrs : PySem.W.codeIn K cdtrs "MessageReader.take_rows" = true)
    (ktrs : PySem.W.keepIn K (.ref ftrs) = true)
    (mtrw : PySem.W.findIn K (.ref CR) "take_row" = some (some (.ref ftrw)))
    (itrw : PySem.W.isFn K (.ref ftrw) = true)
    (ltrw : K.lookup ftrw = some ⟨octrw, odtrw, .func (PySem.W.fnOf "take_row" "MessageReader.take_row" (defArgs (inClass (topS 23) 8)) (defBody (inClass (topS 23) 8)) (defScope (inClass (topS 23) 8)) .none kVtrw dctrw pmtrw antrw cdtrw cttrw), sltrw⟩)
    (ctrw : PySem.W.codeIn K cdtrw "MessageReader.take_row" = true)
    (ktrw : PySem.W.keepIn K (.ref ftrw) = true)
    (mtmt : PySem.W.findIn K (.ref CR) "take_meeting" = some (some (.ref ftmt)))
    (itmt : PySem.W.isFn K (.ref ftmt) = true)
    (ltmt : K.lookup ftmt = some ⟨octmt, odtmt, .func (PySem.W.fnOf "take_meeting" "MessageReader.take_meeting" (defArgs (inClass (topS 23) 9)) (defBody (inClass (topS 23) 9)) (defScope (inClass (topS 23) 9)) .none kVtmt dctmt pmtmt antmt cdtmt cttmt), sltmt⟩)
    (ctmt : PySem.W.codeIn K cdtmt "MessageReader.take_meeting" = true)
    (ktmt : PySem.W.keepIn K (.ref ftmt) = true)
    (mtpt : PySem.W.findIn K (.ref CR) "take_part" = some (some (.ref ftpt)))
    (itpt : PySem.W.isFn K (.ref ftpt) = true)
    (ltpt : K.lookup ftpt = some ⟨octpt, odtpt, .func (PySem.W.fnOf "take_part" "MessageReader.take_part" (defArgs (inClass (topS 23) 10)) (defBody (inClass (topS 23) 10)) (defScope (inClass (topS 23) 10)) .none kVtpt dctpt pmtpt antpt cdtpt cttpt), sltpt⟩)
    (ctpt : PySem.W.codeIn K cdtpt "MessageReader.take_part" = true)
    (ktpt : PySem.W.keepIn K (.ref ftpt) = true)
    (mtct : PySem.W.findIn K (.ref CR) "take_count" = some (some (.ref ftct)))
    (itct : PySem.W.isFn K (.ref ftct) = true)
    (ltct : K.lookup ftct = some ⟨octct, odtct, .func (PySem.W.fnOf "take_count" "Tokens.take_count" (defArgs (inClass (topS 19) 7)) (defBody (inClass (topS 19) 7)) (defScope (inClass (topS 19) 7)) (.ref aDtct) kVtct dctct pmtct antct cdtct cttct), sltct⟩)
    (ctct : PySem.W.codeIn K cdtct "Tokens.take_count" = true)
    (ktct : PySem.W.keepIn K (.ref ftct) = true)
    (lDtct : K.lookup aDtct = some ⟨clDtct, odDtct, .seq #[.int iDtct tDtct] nDtct, slDtct⟩)
    (hDtct : iDtct = 0)
    (aCT : PySem.W.nsIn K mainGlobals "Tokens" = some (some (.ref CT)))
    (rdT : PySem.W.readsIn K CT (.type "type") = true)
    (gaT : PySem.W.specialIn K (.ref CT) "__getattribute__" = some (some (.builtin "type.__getattribute__")))
    (atT : PySem.W.findCls K (.ref CT) (.type "type") "__init__" = some (.val (.ref ftin)))
    (ltin : K.lookup ftin = some ⟨octin, odtin, .func (PySem.W.fnOf "__init__" "Tokens.__init__" (defArgs (inClass (topS 19) 0)) (defBody (inClass (topS 19) 0)) (defScope (inClass (topS 19) 0)) .none kVtin dctin pmtin antin cdtin cttin), sltin⟩)
    (ctin : PySem.W.codeIn K cdtin "Tokens.__init__" = true)
    (ktin : PySem.W.keepIn K (.ref ftin) = true)
    (aCM : PySem.W.nsIn K mainGlobals "Message" = some (some (.ref CM)))
    (pgM : PySem.W.plainGet K CM Str.empty = true)
    (hdM : PySem.W.hasDictIn K CM = true)
    (poM : PySem.W.plainOver K CM = true)
    (saM : PySem.W.findIn K (.ref CM) "__setattr__" = some (some (.builtin "object.__setattr__")))
    (nM_kind : PySem.W.findIn K (.ref CM) "kind" = some none)
    (nM_to : PySem.W.findIn K (.ref CM) "to" = some none)
    (nM_sender : PySem.W.findIn K (.ref CM) "sender" = some none)
    (nM_body : PySem.W.findIn K (.ref CM) "body" = some none)
    (mkM : PySem.W.makesIn K CM = true)
    (kcM : PySem.W.keepIn K (.ref CM) = true)
    (haM : PySem.W.findIn K (.ref CM) "__class__" = some (some (.builtin "object.__class__")))
    (hmM : PySem.W.mroIn K CM (.type "object") = some true)
    (icM : PySem.W.isClsIn K CM = true)
    (tyM : PySem.W.typeIn K (.ref CM) = some (.type "type"))
    (mmgi : PySem.W.findIn K (.ref CM) "__init__" = some (some (.ref fmgi)))
    (imgi : PySem.W.isFn K (.ref fmgi) = true)
    (lmgi : K.lookup fmgi = some ⟨ocmgi, odmgi, .func (PySem.W.fnOf "__init__" "Message.__init__" (defArgs (inClass (topS 25) 0)) (defBody (inClass (topS 25) 0)) (defScope (inClass (topS 25) 0)) .none kVmgi dcmgi pmmgi anmgi cdmgi ctmgi), slmgi⟩)
    (cmgi : PySem.W.codeIn K cdmgi "Message.__init__" = true)
    (kmgi : PySem.W.keepIn K (.ref fmgi) = true)
    (mmgw : PySem.W.findIn K (.ref CM) "written" = some (some (.ref fmgw)))
    (imgw : PySem.W.isFn K (.ref fmgw) = true)
    (lmgw : K.lookup fmgw = some ⟨ocmgw, odmgw, .func (PySem.W.fnOf "written" "Message.written" (defArgs (inClass (topS 25) 2)) (defBody (inClass (topS 25) 2)) (defScope (inClass (topS 25) 2)) .none kVmgw dcmgw pmmgw anmgw cdmgw ctmgw), slmgw⟩)
    (cmgw : PySem.W.codeIn K cdmgw "Message.written" = true)
    (kmgw : PySem.W.keepIn K (.ref fmgw) = true)
    (mmge : PySem.W.findIn K (.ref CM) "__eq__" = some (some (.ref fmge)))
    (imge : PySem.W.isFn K (.ref fmge) = true)
    (lmge : K.lookup fmge = some ⟨ocmge, odmge, .func (PySem.W.fnOf "__eq__" "Message.__eq__" (defArgs (inClass (topS 25) 3)) (defBody (inClass (topS 25) 3)) (defScope (inClass (topS 25) 3)) .none kVmge dcmge pmmge anmge cdmge ctmge), slmge⟩)
    (cmge : PySem.W.codeIn K cdmge "Message.__eq__" = true)
    (kmge : PySem.W.keepIn K (.ref fmge) = true)
    (rdC : PySem.W.readsIn K CM (.type "type") = true)
    (gaC : PySem.W.specialIn K (.ref CM) "__getattribute__" = some (some (.builtin "type.__getattribute__")))
    (sread : PySem.W.findCls K (.ref CM) (.type "type") "read" = some (.get (.builtin "staticmethod.__get__") (.ref pread) .none (.ref CM)))
    (rread : PySem.W.recIn K pread "staticmethod" = some (.ref fstread :: restread))
    (lstread : K.lookup fstread = some ⟨ocstread, odstread, .func (PySem.W.fnOf "read" "Message.read" (defArgs (inClass (topS 25) 1)) (defBody (inClass (topS 25) 1)) (defScope (inClass (topS 25) 1)) .none kVstread dcstread pmstread anstread cdstread ctstread), slstread⟩)
    (cstread : PySem.W.codeIn K cdstread "Message.read" = true)
    (kstread : PySem.W.keepIn K (.ref fstread) = true)
    (neC : PySem.W.findIn K (.ref CM) "__ne__" = some (some (.builtin "object.__ne__")))
    (obC : PySem.W.subIn K (.ref CM) (.type "object") = some true)
    (aisint : PySem.W.nsIn K mainGlobals "is_int" = some (some (.ref fisint)))
    (lisint : K.lookup fisint = some ⟨ocisint, odisint, .func (PySem.W.fnOf "is_int" "is_int" (defArgs (topS 5)) (defBody (topS 5)) (defScope (topS 5)) .none kVisint dcisint pmisint anisint cdisint ctisint), slisint⟩)
    (cisint : PySem.W.codeIn K cdisint "is_int" = true)
    (kisint : PySem.W.keepIn K (.ref fisint) = true)
    (aisseats : PySem.W.nsIn K mainGlobals "is_seats" = some (some (.ref fisseats)))
    (lisseats : K.lookup fisseats = some ⟨ocisseats, odisseats, .func (PySem.W.fnOf "is_seats" "is_seats" (defArgs (topS 6)) (defBody (topS 6)) (defScope (topS 6)) .none kVisseats dcisseats pmisseats anisseats cdisseats ctisseats), slisseats⟩)
    (cisseats : PySem.W.codeIn K cdisseats "is_seats" = true)
    (kisseats : PySem.W.keepIn K (.ref fisseats) = true)
    (aisix : PySem.W.nsIn K mainGlobals "is_index" = some (some (.ref fisix)))
    (lisix : K.lookup fisix = some ⟨ocisix, odisix, .func (PySem.W.fnOf "is_index" "is_index" (defArgs (topS 9)) (defBody (topS 9)) (defScope (topS 9)) .none kVisix dcisix pmisix anisix cdisix ctisix), slisix⟩)
    (cisix : PySem.W.codeIn K cdisix "is_index" = true)
    (kisix : PySem.W.keepIn K (.ref fisix) = true)
    (air : PySem.W.nsIn K mainGlobals "int_read" = some (some (.ref fir)))
    (lir : K.lookup fir = some ⟨ocir, odir, .func (PySem.W.fnOf "int_read" "int_read" (defArgs (topS 7)) (defBody (topS 7)) (defScope (topS 7)) .none kVir dcir pmir anir cdir ctir), slir⟩)
    (cir : PySem.W.codeIn K cdir "int_read" = true)
    (kir : PySem.W.keepIn K (.ref fir) = true)
    (ait : PySem.W.nsIn K mainGlobals "int_text" = some (some (.ref fit)))
    (lit : K.lookup fit = some ⟨ocit, odit, .func (PySem.W.fnOf "int_text" "int_text" (defArgs (topS 8)) (defBody (topS 8)) (defScope (topS 8)) .none kVit dcit pmit anit cdit ctit), slit⟩)
    (cit : PySem.W.codeIn K cdit "int_text" = true)
    (kit : PySem.W.keepIn K (.ref fit) = true)
    (acht : PySem.W.nsIn K mainGlobals "channel_text" = some (some (.ref fcht)))
    (lcht : K.lookup fcht = some ⟨occht, odcht, .func (PySem.W.fnOf "channel_text" "channel_text" (defArgs (topS 11)) (defBody (topS 11)) (defScope (topS 11)) .none kVcht dccht pmcht ancht cdcht ctcht), slcht⟩)
    (ccht : PySem.W.codeIn K cdcht "channel_text" = true)
    (kcht : PySem.W.keepIn K (.ref fcht) = true)
    (avt : PySem.W.nsIn K mainGlobals "value_text" = some (some (.ref fvt)))
    (lvt : K.lookup fvt = some ⟨ocvt, odvt, .func (PySem.W.fnOf "value_text" "value_text" (defArgs (topS 12)) (defBody (topS 12)) (defScope (topS 12)) .none kVvt dcvt pmvt anvt cdvt ctvt), slvt⟩)
    (cvt : PySem.W.codeIn K cdvt "value_text" = true)
    (kvt : PySem.W.keepIn K (.ref fvt) = true)
    (abt : PySem.W.nsIn K mainGlobals "body_tokens" = some (some (.ref fbt)))
    (lbt : K.lookup fbt = some ⟨ocbt, odbt, .func (PySem.W.fnOf "body_tokens" "body_tokens" (defArgs (topS 26)) (defBody (topS 26)) (defScope (topS 26)) .none kVbt dcbt pmbt anbt cdbt ctbt), slbt⟩)
    (cbt : PySem.W.codeIn K cdbt "body_tokens" = true)
    (kbt : PySem.W.keepIn K (.ref fbt) = true)
    (avts : PySem.W.nsIn K mainGlobals "value_tokens" = some (some (.ref fvts)))
    (lvts : K.lookup fvts = some ⟨ocvts, odvts, .func (PySem.W.fnOf "value_tokens" "value_tokens" (defArgs (topS 27)) (defBody (topS 27)) (defScope (topS 27)) .none kVvts dcvts pmvts anvts cdvts ctvts), slvts⟩)
    (cvts : PySem.W.codeIn K cdvts "value_tokens" = true)
    (kvts : PySem.W.keepIn K (.ref fvts) = true)
    (acellat : PySem.W.nsIn K mainGlobals "_law_cell_at" = some (some (.ref fcellat)))
    (lcellat : K.lookup fcellat = some ⟨occellat, odcellat, .func (PySem.W.fnOf "_law_cell_at" "_law_cell_at" (defArgs (topS 29)) (defBody (topS 29)) (defScope (topS 29)) .none kVcellat dccellat pmcellat ancellat cdcellat ctcellat), slcellat⟩)
    (ccellat : PySem.W.codeIn K cdcellat "_law_cell_at" = true)
    (kcellat : PySem.W.keepIn K (.ref fcellat) = true)
    (amixed : PySem.W.nsIn K mainGlobals "_law_mixed" = some (some (.ref fmixed)))
    (lmixed : K.lookup fmixed = some ⟨ocmixed, odmixed, .func (PySem.W.fnOf "_law_mixed" "_law_mixed" (defArgs (topS 30)) (defBody (topS 30)) (defScope (topS 30)) .none kVmixed dcmixed pmmixed anmixed cdmixed ctmixed), slmixed⟩)
    (cmixed : PySem.W.codeIn K cdmixed "_law_mixed" = true)
    (kmixed : PySem.W.keepIn K (.ref fmixed) = true)
    (arow : PySem.W.nsIn K mainGlobals "_law_row" = some (some (.ref frow)))
    (lrow : K.lookup frow = some ⟨ocrow, odrow, .func (PySem.W.fnOf "_law_row" "_law_row" (defArgs (topS 31)) (defBody (topS 31)) (defScope (topS 31)) .none kVrow dcrow pmrow anrow cdrow ctrow), slrow⟩)
    (crow : PySem.W.codeIn K cdrow "_law_row" = true)
    (krow : PySem.W.keepIn K (.ref frow) = true)
    (aword : PySem.W.nsIn K mainGlobals "_law_word" = some (some (.ref fword)))
    (lword : K.lookup fword = some ⟨ocword, odword, .func (PySem.W.fnOf "_law_word" "_law_word" (defArgs (topS 32)) (defBody (topS 32)) (defScope (topS 32)) .none kVword dcword pmword anword cdword ctword), slword⟩)
    (cword : PySem.W.codeIn K cdword "_law_word" = true)
    (kword : PySem.W.keepIn K (.ref fword) = true)
    (alwr : PySem.W.nsIn K mainGlobals "_law_written" = some (some (.ref flwr)))
    (llwr : K.lookup flwr = some ⟨oclwr, odlwr, .func (PySem.W.fnOf "_law_written" "_law_written" (defArgs (topS 33)) (defBody (topS 33)) (defScope (topS 33)) .none kVlwr dclwr pmlwr anlwr cdlwr ctlwr), sllwr⟩)
    (clwr : PySem.W.codeIn K cdlwr "_law_written" = true)
    (klwr : PySem.W.keepIn K (.ref flwr) = true)
    (anum : PySem.W.nsIn K mainGlobals "_law_number" = some (some (.ref fnum)))
    (lnum : K.lookup fnum = some ⟨ocnum, odnum, .func (PySem.W.fnOf "_law_number" "_law_number" (defArgs (topS 34)) (defBody (topS 34)) (defScope (topS 34)) .none kVnum dcnum pmnum annum cdnum ctnum), slnum⟩)
    (cnum : PySem.W.codeIn K cdnum "_law_number" = true)
    (knum : PySem.W.keepIn K (.ref fnum) = true)
    (aach : PySem.W.nsIn K mainGlobals "_law_any_channel" = some (some (.ref fach)))
    (lach : K.lookup fach = some ⟨ocach, odach, .func (PySem.W.fnOf "_law_any_channel" "_law_any_channel" (defArgs (topS 35)) (defBody (topS 35)) (defScope (topS 35)) .none kVach dcach pmach anach cdach ctach), slach⟩)
    (cach : PySem.W.codeIn K cdach "_law_any_channel" = true)
    (kach : PySem.W.keepIn K (.ref fach) = true)
    (aav : PySem.W.nsIn K mainGlobals "_law_any_value" = some (some (.ref fav)))
    (lav : K.lookup fav = some ⟨ocav, odav, .func (PySem.W.fnOf "_law_any_value" "_law_any_value" (defArgs (topS 36)) (defBody (topS 36)) (defScope (topS 36)) .none kVav dcav pmav anav cdav ctav), slav⟩)
    (cav : PySem.W.codeIn K cdav "_law_any_value" = true)
    (kav : PySem.W.keepIn K (.ref fav) = true)
    (aab : PySem.W.nsIn K mainGlobals "_law_any_body" = some (some (.ref fab)))
    (lab : K.lookup fab = some ⟨ocab, odab, .func (PySem.W.fnOf "_law_any_body" "_law_any_body" (defArgs (topS 37)) (defBody (topS 37)) (defScope (topS 37)) .none kVab dcab pmab anab cdab ctab), slab⟩)
    (cab : PySem.W.codeIn K cdab "_law_any_body" = true)
    (kab : PySem.W.keepIn K (.ref fab) = true)
    (aam : PySem.W.nsIn K mainGlobals "_law_any_message" = some (some (.ref fam)))
    (lam : K.lookup fam = some ⟨ocam, odam, .func (PySem.W.fnOf "_law_any_message" "_law_any_message" (defArgs (topS 38)) (defBody (topS 38)) (defScope (topS 38)) .none kVam dcam pmam anam cdam ctam), slam⟩)
    (cam : PySem.W.codeIn K cdam "_law_any_message" = true)
    (kam : PySem.W.keepIn K (.ref fam) = true)
    (amov : PySem.W.nsIn K mainGlobals "_law_moved" = some (some (.ref fmov)))
    (lmov : K.lookup fmov = some ⟨ocmov, odmov, .func (PySem.W.fnOf "_law_moved" "_law_moved" (defArgs (topS 39)) (defBody (topS 39)) (defScope (topS 39)) .none kVmov dcmov pmmov anmov cdmov ctmov), slmov⟩)
    (cmov : PySem.W.codeIn K cdmov "_law_moved" = true)
    (kmov : PySem.W.keepIn K (.ref fmov) = true)
    (aorr : PySem.W.nsIn K mainGlobals "_law_other_rows" = some (some (.ref forr)))
    (lorr : K.lookup forr = some ⟨ocorr, odorr, .func (PySem.W.fnOf "_law_other_rows" "_law_other_rows" (defArgs (topS 40)) (defBody (topS 40)) (defScope (topS 40)) .none kVorr dcorr pmorr anorr cdorr ctorr), slorr⟩)
    (corr : PySem.W.codeIn K cdorr "_law_other_rows" = true)
    (korr : PySem.W.keepIn K (.ref forr) = true)
    (aob : PySem.W.nsIn K mainGlobals "_law_other_bodies" = some (some (.ref fob)))
    (lob : K.lookup fob = some ⟨ocob, odob, .func (PySem.W.fnOf "_law_other_bodies" "_law_other_bodies" (defArgs (topS 41)) (defBody (topS 41)) (defScope (topS 41)) .none kVob dcob pmob anob cdob ctob), slob⟩)
    (cob : PySem.W.codeIn K cdob "_law_other_bodies" = true)
    (kob : PySem.W.keepIn K (.ref fob) = true)
    (art : PySem.W.nsIn K mainGlobals "_law_right" = some (some (.ref frt)))
    (lrt : K.lookup frt = some ⟨ocrt, odrt, .func (PySem.W.fnOf "_law_right" "_law_right" (defArgs (topS 42)) (defBody (topS 42)) (defScope (topS 42)) .none kVrt dcrt pmrt anrt cdrt ctrt), slrt⟩)
    (crt : PySem.W.codeIn K cdrt "_law_right" = true)
    (krt : PySem.W.keepIn K (.ref frt) = true)
    (alaw : PySem.W.nsIn K mainGlobals "law" = some (some (.ref flaw)))
    (llaw : K.lookup flaw = some ⟨oclaw, odlaw, .func (PySem.W.fnOf "law" "law" (defArgs (topS 43)) (defBody (topS 43)) (defScope (topS 43)) .none kVlaw dclaw pmlaw anlaw cdlaw ctlaw), sllaw⟩)
    (claw : PySem.W.codeIn K cdlaw "law" = true)
    (klaw : PySem.W.keepIn K (.ref flaw) = true)
    (z_abs : PySem.W.nsIn K mainGlobals "abs" = some (none))
    (z_any : PySem.W.nsIn K mainGlobals "any" = some (none)) :
    ∃ fd : FuncData, (∀ (s : Shared) (v : Value), BindsTo s fd ⟨[v], []⟩ [("_law_script", v)]) ∧ ∀ base : Heap, K.In base → base.Ns mainGlobals mg → FnOk P w K mg base CX0 12 fa fd ["_law_script"] (spLaw K) := by
  have e := hfa.symm.trans (PySem.W.mg_of X G alaw)
  cases e
  subst hD hDg hT hM hMm hMo hDtct
  have B : BasT K mg := { digits := ⟨_, PySem.W.mg_of X G gD, _, rfl⟩, mdig := ⟨_, PySem.W.mg_of X G gDg, _, rfl⟩, toolong := ⟨_, PySem.W.mg_of X G gT, _, rfl⟩, seats := ⟨_, PySem.W.mg_of X G gM, _, rfl⟩, isinst := PySem.W.mg_none_of X G z_isinstance, str := PySem.W.mg_none_of X G z_str, int := PySem.W.mg_none_of X G z_int, bool := PySem.W.mg_none_of X G z_bool, len := PySem.W.mg_none_of X G z_len, all := PySem.W.mg_none_of X G z_all, tuple := PySem.W.mg_none_of X G z_tuple }
  have MT : MsT K mg := { most := ⟨_, PySem.W.mg_of X G gMm, _, rfl⟩, offers := ⟨_, PySem.W.mg_of X G gMo, _, rfl⟩, party := ⟨aPa, PySem.W.mg_of X G gPa, fun H => .inr ⟨_, _, _, lPa, rfl, rfl, by rw [sizeLine_eq]; omega, hPa⟩⟩, home := ⟨aHo, PySem.W.mg_of X G gHo, fun H => .inr ⟨_, _, _, lHo, rfl, rfl, by rw [sizeLine_eq]; omega, hHo⟩⟩ }
  have RW : RowT mg := { len := PySem.W.mg_none_of X G z_len, set := PySem.W.mg_none_of X G z_set, sorted := PySem.W.mg_none_of X G z_sorted, range := PySem.W.mg_none_of X G z_range, tuple := PySem.W.mg_none_of X G z_tuple }
  have Freq := fun_mk (st := (inClass (topS 19) 2)) lreq creq kreq
  have Breq := Freq.binds (ps := ["self", "allowed"]) fun _ _ _ _ _ _ us hl => match us, hl with | [_, _], _ => rfl
  have Fmore := fun_mk (st := (inClass (topS 19) 3)) lmore cmore kmore
  have Bmore := Fmore.binds (ps := ["self"]) fun _ _ _ _ _ _ us hl => match us, hl with | [_], _ => rfl
  have Ffin := fun_mk (st := (inClass (topS 19) 4)) lfin cfin kfin
  have Bfin := Ffin.binds (ps := ["self"]) fun _ _ _ _ _ _ us hl => match us, hl with | [_], _ => rfl
  have Ftok := fun_mk (st := (inClass (topS 19) 5)) ltok ctok ktok
  have Btok := Ftok.binds (ps := ["self"]) fun _ _ _ _ _ _ us hl => match us, hl with | [_], _ => rfl
  have Ftki := fun_mk (st := (inClass (topS 19) 6)) ltki ctki ktki
  have Btki := Ftki.binds (ps := ["self"]) fun _ _ _ _ _ _ us hl => match us, hl with | [_], _ => rfl
  have Ftis := fun_mk (st := (inClass (topS 19) 8)) ltis ctis ktis
  have Btis := Ftis.binds (ps := ["self", "sign", "count"]) fun _ _ _ _ _ _ us hl => match us, hl with | [_, _, _], _ => rfl
  have Frin := fun_mk (st := (inClass (topS 23) 0)) lrin crin krin
  have Brin := Frin.binds (ps := ["self", "text"]) fun _ _ _ _ _ _ us hl => match us, hl with | [_, _], _ => rfl
  have Ftms := fun_mk (st := (inClass (topS 23) 2)) ltms ctms ktms
  have Btms := Ftms.binds (ps := ["self"]) fun _ _ _ _ _ _ us hl => match us, hl with | [_], _ => rfl
  have Ftbd := fun_mk (st := (inClass (topS 23) 3)) ltbd ctbd ktbd
  have Btbd := Ftbd.binds (ps := ["self", "kind", "to", "sender"]) fun _ _ _ _ _ _ us hl => match us, hl with | [_, _, _, _], _ => rfl
  have Ftbl := fun_mk (st := (inClass (topS 23) 4)) ltbl ctbl ktbl
  have Btbl := Ftbl.binds (ps := ["self", "limit"]) fun _ _ _ _ _ _ us hl => match us, hl with | [_, _], _ => rfl
  have Ftch := fun_mk (st := (inClass (topS 23) 5)) ltch ctch ktch
  have Btch := Ftch.binds (ps := ["self"]) fun _ _ _ _ _ _ us hl => match us, hl with | [_], _ => rfl
  have Ftvl := fun_mk (st := (inClass (topS 23) 6)) ltvl ctvl ktvl
  have Btvl := Ftvl.binds (ps := ["self"]) fun _ _ _ _ _ _ us hl => match us, hl with | [_], _ => rfl
  have Ftrs := fun_mk (st := (inClass (topS 23) 7)) ltrs ctrs ktrs
  have Btrs := Ftrs.binds (ps := ["self", "home"]) fun _ _ _ _ _ _ us hl => match us, hl with | [_, _], _ => rfl
  have Ftrw := fun_mk (st := (inClass (topS 23) 8)) ltrw ctrw ktrw
  have Btrw := Ftrw.binds (ps := ["self", "home"]) fun _ _ _ _ _ _ us hl => match us, hl with | [_, _], _ => rfl
  have Ftmt := fun_mk (st := (inClass (topS 23) 9)) ltmt ctmt ktmt
  have Btmt := Ftmt.binds (ps := ["self", "to", "home"]) fun _ _ _ _ _ _ us hl => match us, hl with | [_, _, _], _ => rfl
  have Ftpt := fun_mk (st := (inClass (topS 23) 10)) ltpt ctpt ktpt
  have Btpt := Ftpt.binds (ps := ["self"]) fun _ _ _ _ _ _ us hl => match us, hl with | [_], _ => rfl
  have Ftct : FunD K "take_count" "Tokens.take_count" (defArgs (inClass (topS 19) 7)) (defBody (inClass (topS 19) 7)) (defScope (inClass (topS 19) 7)) [.int 0] [] ftct _ := ⟨⟨octct, odtct, .ref aDtct, kVtct, dctct, pmtct, antct, cdtct, cttct, sltct, rfl, ltct, ctct, .inr ⟨by simp, aDtct, _, [.int 0 tDtct], nDtct, rfl, lDtct, rfl, .cons ⟨_, rfl⟩ .nil⟩, .inl rfl⟩, ktct⟩
  have Ftin := fun_mk (st := (inClass (topS 19) 0)) ltin ctin ktin
  have Btin := Ftin.binds (ps := ["self", "line"]) fun _ _ _ _ _ _ us hl => match us, hl with | [_, _], _ => rfl
  have Fmgi := fun_mk (st := (inClass (topS 25) 0)) lmgi cmgi kmgi
  have Bmgi := Fmgi.binds (ps := ["self", "kind", "to", "sender", "body"]) fun _ _ _ _ _ _ us hl => match us, hl with | [_, _, _, _, _], _ => rfl
  have Fmgw := fun_mk (st := (inClass (topS 25) 2)) lmgw cmgw kmgw
  have Bmgw := Fmgw.binds (ps := ["self"]) fun _ _ _ _ _ _ us hl => match us, hl with | [_], _ => rfl
  have Fmge := fun_mk (st := (inClass (topS 25) 3)) lmge cmge kmge
  have Bmge := Fmge.binds (ps := ["self", "other"]) fun _ _ _ _ _ _ us hl => match us, hl with | [_, _], _ => rfl
  have Fstread := fun_mk (st := (inClass (topS 25) 1)) lstread cstread kstread
  have Bstread := Fstread.binds (ps := ["text"]) fun _ _ _ _ _ _ us hl => match us, hl with | [_], _ => rfl
  have Fisint := fun_mk (st := (topS 5)) lisint cisint kisint
  have Bisint := Fisint.binds (ps := ["value"]) fun _ _ _ _ _ _ us hl => match us, hl with | [_], _ => rfl
  have Fisseats := fun_mk (st := (topS 6)) lisseats cisseats kisseats
  have Bisseats := Fisseats.binds (ps := ["count"]) fun _ _ _ _ _ _ us hl => match us, hl with | [_], _ => rfl
  have Fisix := fun_mk (st := (topS 9)) lisix cisix kisix
  have Bisix := Fisix.binds (ps := ["at", "count"]) fun _ _ _ _ _ _ us hl => match us, hl with | [_, _], _ => rfl
  have Fir := fun_mk (st := (topS 7)) lir cir kir
  have Bir := Fir.binds (ps := ["token"]) fun _ _ _ _ _ _ us hl => match us, hl with | [_], _ => rfl
  have Fit := fun_mk (st := (topS 8)) lit cit kit
  have Bit := Fit.binds (ps := ["value"]) fun _ _ _ _ _ _ us hl => match us, hl with | [_], _ => rfl
  have Fcht := fun_mk (st := (topS 11)) lcht ccht kcht
  have Bcht := Fcht.binds (ps := ["channel"]) fun _ _ _ _ _ _ us hl => match us, hl with | [_], _ => rfl
  have Fvt := fun_mk (st := (topS 12)) lvt cvt kvt
  have Bvt := Fvt.binds (ps := ["value"]) fun _ _ _ _ _ _ us hl => match us, hl with | [_], _ => rfl
  have Fbt := fun_mk (st := (topS 26)) lbt cbt kbt
  have Bbt := Fbt.binds (ps := ["kind", "body"]) fun _ _ _ _ _ _ us hl => match us, hl with | [_, _], _ => rfl
  have Fvts := fun_mk (st := (topS 27)) lvts cvts kvts
  have Bvts := Fvts.binds (ps := ["rows"]) fun _ _ _ _ _ _ us hl => match us, hl with | [_], _ => rfl
  have Fcellat := fun_mk (st := (topS 29)) lcellat ccellat kcellat
  have Bcellat := Fcellat.binds (ps := ["_law_script", "_law_k"]) fun _ _ _ _ _ _ us hl => match us, hl with | [_, _], _ => rfl
  have Fmixed := fun_mk (st := (topS 30)) lmixed cmixed kmixed
  have Bmixed := Fmixed.binds (ps := ["_law_cell", "_law_k"]) fun _ _ _ _ _ _ us hl => match us, hl with | [_, _], _ => rfl
  have Frow := fun_mk (st := (topS 31)) lrow crow krow
  have Brow := Frow.binds (ps := ["_law_cell", "_law_many"]) fun _ _ _ _ _ _ us hl => match us, hl with | [_, _], _ => rfl
  have Fword := fun_mk (st := (topS 32)) lword cword kword
  have Bword := Fword.binds (ps := ["_law_value"]) fun _ _ _ _ _ _ us hl => match us, hl with | [_], _ => rfl
  have Flwr := fun_mk (st := (topS 33)) llwr clwr klwr
  have Blwr := Flwr.binds (ps := ["_law_kind", "_law_to", "_law_sender", "_law_body"]) fun _ _ _ _ _ _ us hl => match us, hl with | [_, _, _, _], _ => rfl
  have Fnum := fun_mk (st := (topS 34)) lnum cnum knum
  have Bnum := Fnum.binds (ps := ["_law_row_here", "_law_at", "_law_cells"]) fun _ _ _ _ _ _ us hl => match us, hl with | [_, _, _], _ => rfl
  have Fach := fun_mk (st := (topS 35)) lach cach kach
  have Bach := Fach.binds (ps := ["_law_row_here", "_law_at", "_law_cells"]) fun _ _ _ _ _ _ us hl => match us, hl with | [_, _, _], _ => rfl
  have Fav := fun_mk (st := (topS 36)) lav cav kav
  have Bav := Fav.binds (ps := ["_law_row_here", "_law_at", "_law_cells"]) fun _ _ _ _ _ _ us hl => match us, hl with | [_, _, _], _ => rfl
  have Fab := fun_mk (st := (topS 37)) lab cab kab
  have Bab := Fab.binds (ps := ["_law_kind", "_law_to", "_law_sender", "_law_row_here", "_law_cells"]) fun _ _ _ _ _ _ us hl => match us, hl with | [_, _, _, _, _], _ => rfl
  have Fam := fun_mk (st := (topS 38)) lam cam kam
  have Bam := Fam.binds (ps := ["_law_script", "_law_at"]) fun _ _ _ _ _ _ us hl => match us, hl with | [_, _], _ => rfl
  have Fmov := fun_mk (st := (topS 39)) lmov cmov kmov
  have Bmov := Fmov.binds (ps := ["_law_thing"]) fun _ _ _ _ _ _ us hl => match us, hl with | [_], _ => rfl
  have Forr := fun_mk (st := (topS 40)) lorr corr korr
  have Borr := Forr.binds (ps := ["_law_rows"]) fun _ _ _ _ _ _ us hl => match us, hl with | [_], _ => rfl
  have Fob := fun_mk (st := (topS 41)) lob cob kob
  have Bob := Fob.binds (ps := ["_law_kind", "_law_body"]) fun _ _ _ _ _ _ us hl => match us, hl with | [_, _], _ => rfl
  have Frt := fun_mk (st := (topS 42)) lrt crt krt
  have Brt := Frt.binds (ps := ["_law_one", "_law_other"]) fun _ _ _ _ _ _ us hl => match us, hl with | [_, _], _ => rfl
  have Flaw := fun_mk (st := (topS 43)) llaw claw klaw
  have Blaw := Flaw.binds (ps := ["_law_script"]) fun _ _ _ _ _ _ us hl => match us, hl with | [_], _ => rfl
  refine ⟨PySem.W.fnOf "law" "law" (defArgs (topS 43)) (defBody (topS 43)) (defScope (topS 43)) .none kVlaw dclaw pmlaw anlaw cdlaw ctlaw, fun s v => .of_eq rfl, fun base _ _ => ?_⟩
  have Gisint : CalX P w K mg base CX0 1 "is_int" spIsI := ⟨_, _, _, ok_isI Fisint B, PySem.W.mg_of X G aisint, kisint, Bisint⟩
  have Gisseats : CalX P w K mg base CX0 2 "is_seats" spIsSe := ⟨_, _, _, ok_isSe Fisseats B Gisint, PySem.W.mg_of X G aisseats, kisseats, Bisseats⟩
  have Gisix : CalX P w K mg base CX0 2 "is_index" spIndex := ⟨_, _, _, ok_ix Fisix Gisint, PySem.W.mg_of X G aisix, kisix, Bisix⟩
  have Gir : CalX P w K mg base CX0 1 "int_read" spIr := ⟨_, _, _, ok_ir Fir B, PySem.W.mg_of X G air, kir, Bir⟩
  have Git : CalX P w K mg base CX0 2 "int_text" (spIt True) := ⟨_, _, _, ok_it Fit B (PySem.W.mg_of X G ait) kit Bit, PySem.W.mg_of X G ait, kit, Bit⟩
  have Gcht : CalX P w K mg base CX0 3 "channel_text" spCt := ⟨_, _, _, ok_ct Fcht Git, PySem.W.mg_of X G acht, kcht, Bcht⟩
  have Gvt : CalX P w K mg base CX0 4 "value_text" spVt := ⟨_, _, _, ok_vt Fvt B Git Gcht, PySem.W.mg_of X G avt, kvt, Bvt⟩
  have Gvts : CalX P w K mg base CX0 5 "value_tokens" spVts := ⟨_, _, _, ok_vts Fvts Gvt, PySem.W.mg_of X G avts, kvts, Bvts⟩
  have Gbt : CalX P w K mg base CX0 6 "body_tokens" spBt := ⟨_, _, _, ok_bt Fbt Git Gvt Gvts, PySem.W.mg_of X G abt, kbt, Bbt⟩
  have RT : RdT K mg CR := { cl := ⟨pgR, hdR, poR, saR⟩, nT := nR_tokens, nK := nR_taken, nN := nR_text, len := PySem.W.mg_none_of X G z_len }
  have TM : TkM P w K mg base CR := ⟨⟨_, _, ⟨mreq, ireq, kreq⟩, ok_req Freq, Breq⟩, ⟨_, _, ⟨mmore, imore, kmore⟩, ok_more Fmore RT, Bmore⟩⟩
  have Xreq : MthX P w K mg base CR 1 "require" ["self", "allowed"] spReq := ⟨_, _, ⟨mreq, ireq, kreq⟩, ok_req Freq, Breq⟩
  have Xmore : MthX P w K mg base CR 1 "has_more" ["self"] (spMore CR) := ⟨_, _, ⟨mmore, imore, kmore⟩, ok_more Fmore RT, Bmore⟩
  have Xtok : MthX P w K mg base CR 2 "take_token" ["self"] (spTk CR V.str fun _ => True) := ⟨_, _, ⟨mtok, itok, ktok⟩, ok_tk Ftok RT TM, Btok⟩
  have Xfin : MthX P w K mg base CR 2 "finish" ["self"] (spFin CR) := ⟨_, _, ⟨mfin, ifin, kfin⟩, ok_fin Ffin RT TM, Bfin⟩
  have Xtki : MthX P w K mg base CR 3 "take_int" ["self"] (spTk CR irV isI) := ⟨_, _, ⟨mtki, itki, ktki⟩, ok_ti Ftki RT Xreq Xtok Gir, Btki⟩
  have Xtis : MthX P w K mg base CR 3 "take_ints" ["self", "sign", "count"] (spTis CR) := ⟨_, _, ⟨mtis, itis, ktis⟩, ok_tis Ftis B RT Xreq Xtok Gir, Btis⟩
  have Xtct : MthX P w K mg base CR 4 "take_count" ["self", "least"] (spTC CR) := ⟨_, _, ⟨mtct, itct, ktct⟩, ok_tc Ftct RT Xreq Xtki, binds_tc Ftct⟩
  obtain ⟨dsC, vdC, bdC⟩ := binds_tc0 Ftct
  have KM : TokM P w K mg base CR := { req := Xreq, more := Xmore, fin := Xfin, tok := Xtok, int := Xtki, nums := Xtis, cnt := Xtct, cnt0 := ⟨_, _, dsC, ⟨mtct, itct, ktct⟩, ok_tc Ftct RT Xreq Xtki, vdC, bdC⟩ }
  have Xtbl : MthX P w K mg base CR 4 "take_below" ["self", "limit"] (spTB CR) := ⟨_, _, ⟨mtbl, itbl, ktbl⟩, ok_tb Ftbl RT KM Gisix, Btbl⟩
  have Xtch : MthX P w K mg base CR 4 "take_channel" ["self"] (spTch CR) := ⟨_, _, ⟨mtch, itch, ktch⟩, ok_tch Ftch RT MT KM Gisix Gisseats, Btch⟩
  have Xtvl : MthX P w K mg base CR 5 "take_value" ["self"] (spTv CR) := ⟨_, _, ⟨mtvl, itvl, ktvl⟩, ok_tv Ftvl RT KM Xtch Gir, Btvl⟩
  have BM : BelM P w K mg base CR := { bel := Xtbl, ch := Xtch, val := Xtvl }
  have Xtpt : MthX P w K mg base CR 6 "take_part" ["self"] (spTpt CR) := ⟨_, _, ⟨mtpt, itpt, ktpt⟩, ok_tpt Ftpt RT MT KM BM, Btpt⟩
  have Xtrw : MthX P w K mg base CR 6 "take_row" ["self", "home"] (spTrow CR) := ⟨_, _, ⟨mtrw, itrw, ktrw⟩, ok_trow Ftrw RT MT KM BM, Btrw⟩
  have Xtrs : MthX P w K mg base CR 7 "take_rows" ["self", "home"] (spTrs CR) := ⟨_, _, ⟨mtrs, itrs, ktrs⟩, ok_trs Ftrs RT RW KM Xtrw, Btrs⟩
  have Xtmt : MthX P w K mg base CR 7 "take_meeting" ["self", "to", "home"] (spTmt CR) := ⟨_, _, ⟨mtmt, itmt, ktmt⟩, ok_tmt Ftmt RT RW KM BM Xtpt, Btmt⟩
  have Xtbd : MthX P w K mg base CR 8 "take_body" ["self", "kind", "to", "sender"] (spTbd CR) := ⟨_, _, ⟨mtbd, itbd, ktbd⟩, ok_tbd Ftbd RT KM Xtrs Xtmt, Btbd⟩
  have Xtms : MthX P w K mg base CR 9 "take_message" ["self"] (spTms CR) := ⟨_, _, ⟨mtms, itms, ktms⟩, ok_tms Ftms RT MT KM BM Xtbd, Btms⟩
  have MRd : MakX P w K mg base CX0 2 "MessageReader" CR (spMR0 CR) := ⟨_, _, _, ⟨mkR, mrin, irin, kcR⟩, ok_mr0 Frin RT (PySem.W.mg_of X G aCT) ⟨rdT, gaT⟩ ⟨atT, ktin⟩ (ok_tk0 Ftin RT) Btin, PySem.W.mg_of X G aCR, Brin⟩
  have GT : MgT K mg CM := { cl := ⟨pgM, hdM, poM, saM⟩, mgM := PySem.W.mg_of X G aCM, isi := PySem.W.mg_none_of X G z_isinstance, ha := haM, hn := hn, htk := ht, hm := hmM, nK := nM_kind, nT := nM_to, nS := nM_sender, nB := nM_body }
  have MMg : MakX P w K mg base CX0 1 "Message" CM (spMg0 CM) := ⟨_, _, _, ⟨mkM, mmgi, imgi, kcM⟩, ok_mg0 Fmgi GT, PySem.W.mg_of X G aCM, Bmgi⟩
  have Sread : StaX P w K mg base CX0 10 CM "read" (spMRd CM) := ⟨_, _, _, _, _, ⟨rdC, gaC⟩, ⟨sread, ⟨_, rread⟩, kstread⟩, ok_mrd Fstread RT MRd MMg Xtms, Bstread⟩
  have XW : MthX P w K mg base CM 7 "written" ["self"] (spWr CM) := ⟨_, _, ⟨mmgw, imgw, kmgw⟩, ok_wr Fmgw GT Git Gbt, Bmgw⟩
  have NM : NeM K CM fmge := { at_ := mmge, fn := imge, ne := neC, ob := obC }
  have L : LawT K mg := { len := PySem.W.mg_none_of X G z_len, int := PySem.W.mg_none_of X G z_int, abs := PySem.W.mg_none_of X G z_abs, range := PySem.W.mg_none_of X G z_range }
  have Gcellat : CalX P w K mg base CX0 1 "_law_cell_at" (spCellAt K) := ⟨_, _, _, ok_cell_at Fcellat L, PySem.W.mg_of X G acellat, kcellat, Bcellat⟩
  have Gmixed : CalX P w K mg base CX0 1 "_law_mixed" spMixed := ⟨_, _, _, ok_mixed Fmixed L, PySem.W.mg_of X G amixed, kmixed, Bmixed⟩
  have Grow : CalX P w K mg base CX0 2 "_law_row" spRow := ⟨_, _, _, ok_row Frow L Gmixed, PySem.W.mg_of X G arow, krow, Brow⟩
  have Gword : CalX P w K mg base CX0 1 "_law_word" spWord := ⟨_, _, _, ok_word Fword B, PySem.W.mg_of X G aword, kword, Bword⟩
  have Glwr : CalX P w K mg base CX0 2 "_law_written" spLwr := ⟨_, _, _, ok_lwr Flwr B Gword, PySem.W.mg_of X G alwr, klwr, Blwr⟩
  have Gnum : CalX P w K mg base CX0 2 "_law_number" (spNum K) := ⟨_, _, _, ok_num Fnum L Gcellat, PySem.W.mg_of X G anum, knum, Bnum⟩
  have Gach : CalX P w K mg base CX0 3 "_law_any_channel" (spAch K) := ⟨_, _, _, ok_ach Fach L Gnum, PySem.W.mg_of X G aach, kach, Bach⟩
  have Gav : CalX P w K mg base CX0 4 "_law_any_value" (spAv K) := ⟨_, _, _, ok_av Fav L Gnum Gach, PySem.W.mg_of X G aav, kav, Bav⟩
  have Gab : CalX P w K mg base CX0 5 "_law_any_body" (spAb K) := ⟨_, _, _, ok_ab Fab L (PySem.W.mg_none_of X G z_tuple) Gnum Gach Gav, PySem.W.mg_of X G aab, kab, Bab⟩
  have Gam : CalX P w K mg base CX0 6 "_law_any_message" (spAm K) := ⟨_, _, _, ok_am Fam L Gcellat Grow Gab, PySem.W.mg_of X G aam, kam, Bam⟩
  have Gmov : CalX P w K mg base CX0 1 "_law_moved" spMov := ⟨_, _, _, ok_mov Fmov B, PySem.W.mg_of X G amov, kmov, Bmov⟩
  have Gorr : CalX P w K mg base CX0 2 "_law_other_rows" spOr := ⟨_, _, _, ok_or Forr L Gmov, PySem.W.mg_of X G aorr, korr, Borr⟩
  have Gob : CalX P w K mg base CX0 3 "_law_other_bodies" spOb := ⟨_, _, _, ok_ob Fob Gmov Gorr, PySem.W.mg_of X G aob, kob, Bob⟩
  have Grt : CalX P w K mg base CX0 11 "_law_right" spRt := ⟨_, _, _, ok_rt Frt GT (PySem.W.mg_none_of X G z_any) MMg Sread XW Glwr Gob NM (ok_meq Fmge GT) Bmge, PySem.W.mg_of X G art, krt, Brt⟩
  exact ok_law Flaw Gam Grt
theorem walk {l : PySem.W.OpenLaw} {q : Program} {loose : List Str} {XP : (Str → Option Value) → Heap → Prop} {YP : World → Heap → Prop} {d : DefRec} {K : Params → PySem.W.Frag} (hn : l.most = some 63) (hdf : d.params.defaults = [])
    (hY : ∀ (w : World) (h : Heap), YP w h → (K w.params).In h)
    (hF : ∀ (w : World) (mg : Str → Option Value) (fa : Addr) (h : Heap), (K w.params).In h → h.Ns mainGlobals mg → mg d.name = some (.ref fa) →
      ∃ fd : FuncData, (∀ (s : Shared) (u : Value), BindsTo s fd ⟨[u], []⟩ [("_law_script", u)]) ∧ ∀ base : Heap, (K w.params).In base → base.Ns mainGlobals mg → FnOk l.prog w (K w.params) mg base CX0 12 fa fd ["_law_script"] (spLaw (K w.params))) :
    PySem.W.WalkO q loose XP YP l.row.toRowW d [] (fun f vs => PySem.call f vs) :=
  L2.walk_of (n := 63) (k := 12) (x := "_law_script") (CX := fun _ => CX0) (sp := fun w => spLaw (K w.params)) hn (by decide) hdf ⟨rfl, by decide, by decide⟩ hY hF (fun _ _ a ns _ _ hS => ⟨a, ns, rfl, hS, fun _ => rfl⟩) fun _ _ _ _ _ z => z
end Fs

open PySem PySem.W PyProof.Rows
set_option Elab.async false
set_option maxRecDepth 100000 in
set_option maxHeartbeats 0 in
theorem PySem.Challenge.cw_fullseats_k42_messages_written_holds : PySem.Challenge.rw_fullseats_k42_messages_written.Holds := by
  w_on; o_law; k_head; (case hw => w_witness2)
  k_fill
  refine Fs.walk (l := PySem.Challenge.rw_fullseats_k42_messages_written) rfl rfl (fun w h Y => PySem.W.kIn_of Y) ?F
  case F =>
    intro w mg fa h KX G hmg
    refine' Fs.all_mk KX G hmg ?gD ?hD ?gDg ?hDg ?gT ?hT ?gM ?hM ?gMm ?hMm ?gMo ?hMo ?z_isinstance ?z_str ?z_int ?z_bool ?z_len ?z_all ?z_tuple ?gPa ?lPa ?sPa ?hPa ?gHo ?lHo ?sHo ?hHo ?z_set ?z_sorted ?z_range ?aCR ?pgR ?hdR ?poR ?saR ?nR_tokens ?nR_taken ?nR_text ?mkR ?kcR ?haR ?hn ?ht ?hmR ?icR ?tyR ?mreq ?ireq ?lreq ?creq ?kreq ?mmore ?imore ?lmore ?cmore ?kmore ?mfin ?ifin ?lfin ?cfin ?kfin ?mtok ?itok ?ltok ?ctok ?ktok ?mtki ?itki ?ltki ?ctki ?ktki ?mtis ?itis ?ltis ?ctis ?ktis ?mrin ?irin ?lrin ?crin ?krin ?mtms ?itms ?ltms ?ctms ?ktms ?mtbd ?itbd ?ltbd ?ctbd ?ktbd ?mtbl ?itbl ?ltbl ?ctbl ?ktbl ?mtch ?itch ?ltch ?ctch ?ktch ?mtvl ?itvl ?ltvl ?ctvl ?ktvl ?mtrs ?itrs ?ltrs ?ctrs ?ktrs ?mtrw ?itrw ?ltrw ?ctrw ?ktrw ?mtmt ?itmt ?ltmt ?ctmt ?ktmt ?mtpt ?itpt ?ltpt ?ctpt ?ktpt ?mtct ?itct ?ltct ?ctct ?ktct ?lDtct ?hDtct ?aCT ?rdT ?gaT ?atT ?ltin ?ctin ?ktin ?aCM ?pgM ?hdM ?poM ?saM ?nM_kind ?nM_to ?nM_sender ?nM_body ?mkM ?kcM ?haM ?hmM ?icM ?tyM ?mmgi ?imgi ?lmgi ?cmgi ?kmgi ?mmgw ?imgw ?lmgw ?cmgw ?kmgw ?mmge ?imge ?lmge ?cmge ?kmge ?rdC ?gaC ?sread ?rread ?lstread ?cstread ?kstread ?neC ?obC ?aisint ?lisint ?cisint ?kisint ?aisseats ?lisseats ?cisseats ?kisseats ?aisix ?lisix ?cisix ?kisix ?air ?lir ?cir ?kir ?ait ?lit ?cit ?kit ?acht ?lcht ?ccht ?kcht ?avt ?lvt ?cvt ?kvt ?abt ?lbt ?cbt ?kbt ?avts ?lvts ?cvts ?kvts ?acellat ?lcellat ?ccellat ?kcellat ?amixed ?lmixed ?cmixed ?kmixed ?arow ?lrow ?crow ?krow ?aword ?lword ?cword ?kword ?alwr ?llwr ?clwr ?klwr ?anum ?lnum ?cnum ?knum ?aach ?lach ?cach ?kach ?aav ?lav ?cav ?kav ?aab ?lab ?cab ?kab ?aam ?lam ?cam ?kam ?amov ?lmov ?cmov ?kmov ?aorr ?lorr ?corr ?korr ?aob ?lob ?cob ?kob ?art ?lrt ?crt ?krt ?alaw ?llaw ?claw ?klaw ?z_abs ?z_any
    (case gD => k_is)
    (case hD => decide +kernel)
    (case gDg => k_is)
    (case hDg => decide +kernel)
    (case gT => k_is)
    (case hT => decide +kernel)
    (case gM => k_is)
    (case hM => decide +kernel)
    (case gMm => k_is)
    (case hMm => decide +kernel)
    (case gMo => k_is)
    (case hMo => decide +kernel)
    (case z_isinstance => k_is)
    (case z_str => k_is)
    (case z_int => k_is)
    (case z_bool => k_is)
    (case z_len => k_is)
    (case z_all => k_is)
    (case z_tuple => k_is)
    (case gPa => k_is)
    (case lPa => k_is)
    (case sPa => decide +kernel)
    (case hPa => exact .cons ⟨_, rfl⟩ (.cons ⟨_, rfl⟩ (.cons ⟨_, rfl⟩ (.cons ⟨_, rfl⟩ .nil))))
    (case gHo => k_is)
    (case lHo => k_is)
    (case sHo => decide +kernel)
    (case hHo => exact .cons ⟨_, rfl⟩ (.cons ⟨_, rfl⟩ (.cons ⟨_, rfl⟩ .nil)))
    (case z_set => k_is)
    (case z_sorted => k_is)
    (case z_range => k_is)
    (case aCR => k_is)
    (case pgR => k_is)
    (case hdR => k_is)
    (case poR => k_is)
    (case saR => k_is)
    (case nR_tokens => k_is)
    (case nR_taken => k_is)
    (case nR_text => k_is)
    (case mkR => k_is)
    (case kcR => k_is)
    (case haR => k_is)
    (case hn => k_is)
    (case ht => k_is)
    (case hmR => k_is)
    (case icR => k_is)
    (case tyR => k_is)
    (case mreq => k_is)
    (case ireq => k_is)
    (case lreq => k_is)
    (case creq => k_is)
    (case kreq => k_is)
    (case mmore => k_is)
    (case imore => k_is)
    (case lmore => k_is)
    (case cmore => k_is)
    (case kmore => k_is)
    (case mfin => k_is)
    (case ifin => k_is)
    (case lfin => k_is)
    (case cfin => k_is)
    (case kfin => k_is)
    (case mtok => k_is)
    (case itok => k_is)
    (case ltok => k_is)
    (case ctok => k_is)
    (case ktok => k_is)
    (case mtki => k_is)
    (case itki => k_is)
    (case ltki => k_is)
    (case ctki => k_is)
    (case ktki => k_is)
    (case mtis => k_is)
    (case itis => k_is)
    (case ltis => k_is)
    (case ctis => k_is)
    (case ktis => k_is)
    (case mrin => k_is)
    (case irin => k_is)
    (case lrin => k_is)
    (case crin => k_is)
    (case krin => k_is)
    (case mtms => k_is)
    (case itms => k_is)
    (case ltms => k_is)
    (case ctms => k_is)
    (case ktms => k_is)
    (case mtbd => k_is)
    (case itbd => k_is)
    (case ltbd => k_is)
    (case ctbd => k_is)
    (case ktbd => k_is)
    (case mtbl => k_is)
    (case itbl => k_is)
    (case ltbl => k_is)
    (case ctbl => k_is)
    (case ktbl => k_is)
    (case mtch => k_is)
    (case itch => k_is)
    (case ltch => k_is)
    (case ctch => k_is)
    (case ktch => k_is)
    (case mtvl => k_is)
    (case itvl => k_is)
    (case ltvl => k_is)
    (case ctvl => k_is)
    (case ktvl => k_is)
    (case mtrs => k_is)
    (case itrs => k_is)
    (case ltrs => k_is)
    (case ctrs => k_is)
    (case ktrs => k_is)
    (case mtrw => k_is)
    (case itrw => k_is)
    (case ltrw => k_is)
    (case ctrw => k_is)
    (case ktrw => k_is)
    (case mtmt => k_is)
    (case itmt => k_is)
    (case ltmt => k_is)
    (case ctmt => k_is)
    (case ktmt => k_is)
    (case mtpt => k_is)
    (case itpt => k_is)
    (case ltpt => k_is)
    (case ctpt => k_is)
    (case ktpt => k_is)
    (case mtct => k_is)
    (case itct => k_is)
    (case ltct => k_is)
    (case ctct => k_is)
    (case ktct => k_is)
    (case lDtct => k_is)
    (case hDtct => decide +kernel)
    (case aCT => k_is)
    (case rdT => k_is)
    (case gaT => k_is)
    (case atT => k_is)
    (case ltin => k_is)
    (case ctin => k_is)
    (case ktin => k_is)
    (case aCM => k_is)
    (case pgM => k_is)
    (case hdM => k_is)
    (case poM => k_is)
    (case saM => k_is)
    (case nM_kind => k_is)
    (case nM_to => k_is)
    (case nM_sender => k_is)
    (case nM_body => k_is)
    (case mkM => k_is)
    (case kcM => k_is)
    (case haM => k_is)
    (case hmM => k_is)
    (case icM => k_is)
    (case tyM => k_is)
    (case mmgi => k_is)
    (case imgi => k_is)
    (case lmgi => k_is)
    (case cmgi => k_is)
    (case kmgi => k_is)
    (case mmgw => k_is)
    (case imgw => k_is)
    (case lmgw => k_is)
    (case cmgw => k_is)
    (case kmgw => k_is)
    (case mmge => k_is)
    (case imge => k_is)
    (case lmge => k_is)
    (case cmge => k_is)
    (case kmge => k_is)
    (case rdC => k_is)
    (case gaC => k_is)
    (case sread => k_is)
    (case rread => k_is)
    (case lstread => k_is)
    (case cstread => k_is)
    (case kstread => k_is)
    (case neC => k_is)
    (case obC => k_is)
    (case aisint => k_is)
    (case lisint => k_is)
    (case cisint => k_is)
    (case kisint => k_is)
    (case aisseats => k_is)
    (case lisseats => k_is)
    (case cisseats => k_is)
    (case kisseats => k_is)
    (case aisix => k_is)
    (case lisix => k_is)
    (case cisix => k_is)
    (case kisix => k_is)
    (case air => k_is)
    (case lir => k_is)
    (case cir => k_is)
    (case kir => k_is)
    (case ait => k_is)
    (case lit => k_is)
    (case cit => k_is)
    (case kit => k_is)
    (case acht => k_is)
    (case lcht => k_is)
    (case ccht => k_is)
    (case kcht => k_is)
    (case avt => k_is)
    (case lvt => k_is)
    (case cvt => k_is)
    (case kvt => k_is)
    (case abt => k_is)
    (case lbt => k_is)
    (case cbt => k_is)
    (case kbt => k_is)
    (case avts => k_is)
    (case lvts => k_is)
    (case cvts => k_is)
    (case kvts => k_is)
    (case acellat => k_is)
    (case lcellat => k_is)
    (case ccellat => k_is)
    (case kcellat => k_is)
    (case amixed => k_is)
    (case lmixed => k_is)
    (case cmixed => k_is)
    (case kmixed => k_is)
    (case arow => k_is)
    (case lrow => k_is)
    (case crow => k_is)
    (case krow => k_is)
    (case aword => k_is)
    (case lword => k_is)
    (case cword => k_is)
    (case kword => k_is)
    (case alwr => k_is)
    (case llwr => k_is)
    (case clwr => k_is)
    (case klwr => k_is)
    (case anum => k_is)
    (case lnum => k_is)
    (case cnum => k_is)
    (case knum => k_is)
    (case aach => k_is)
    (case lach => k_is)
    (case cach => k_is)
    (case kach => k_is)
    (case aav => k_is)
    (case lav => k_is)
    (case cav => k_is)
    (case kav => k_is)
    (case aab => k_is)
    (case lab => k_is)
    (case cab => k_is)
    (case kab => k_is)
    (case aam => k_is)
    (case lam => k_is)
    (case cam => k_is)
    (case kam => k_is)
    (case amov => k_is)
    (case lmov => k_is)
    (case cmov => k_is)
    (case kmov => k_is)
    (case aorr => k_is)
    (case lorr => k_is)
    (case corr => k_is)
    (case korr => k_is)
    (case aob => k_is)
    (case lob => k_is)
    (case cob => k_is)
    (case kob => k_is)
    (case art => k_is)
    (case lrt => k_is)
    (case crt => k_is)
    (case krt => k_is)
    (case alaw => k_is)
    (case llaw => k_is)
    (case claw => k_is)
    (case klaw => k_is)
    (case z_abs => k_is)
    (case z_any => k_is)

