import PyProof.Rows.All
import Wide.All
import OpenK.AllK
import Wide.FinOn
import PySem.Challenge.RW_oneshape_k29_whole_page_stretches
import HandS.HeadHook4
import HandS.ExcIs
import HandS.Set
import HandS.TupSets
import PyProof.Tail
import PyProof.SetRoads
import HandS.ForMost
import HandS.ForExc
import HandS.Flow
import HandS.Style
import HandS.TupAny
import HandS.TupMul
import HandS.Wide
import HandS.IsInst
import HandS.SortInts
import HandS.SortRule
import HandS.Conv
import HandS.FStr
import HandS.Deep
import HandS.Lambda
import HandS.HeadWalk
import HandS.TryMany
import HandS.CallSlots
import HandS.ExcInit
import HandS.RaiseMore
import HandS.Rev
import HandS.Zip
import KE.DataAny
import KE.DataMinMax
import KE.SortData
import KE.KIndexOf
import KE.DataMinKey
import HandS.NoneIn
import HandS.Iter
import HandS.More
import HandS.SetFor
import PyProof.ReprRoads
import HandS.Head2
import PyProof.ExcBaseAll.ValueError
import HandS.Defaults
set_option Elab.async false
set_option maxRecDepth 100000
namespace VF
open PySem PySem.Spec PyProof.Rows L2
/-- what the head is asked of a pair of own error classes -/
def isCk (K : PySem.W.Frag) (q : (Str × Str) × Bool) : Bool :=
  He.eqO (PySem.W.findIn K (.ref (He.ga K q.1.1)) "__getattribute__") (some (some (.builtin "BaseException.__getattribute__"))) && (He.eqO (PySem.W.findIn K (.ref (He.ga K q.1.1)) "__getattr__") (some none) &&
  (decide (PySem.W.subIn K (.ref (He.ga K q.1.1)) (.type "BaseException") = some true) && (PySem.W.hasDictIn K (He.ga K q.1.1) && (He.eqO (PySem.W.findIn K (.ref (He.ga K q.1.1)) "__class__") (some (some (.builtin "object.__class__"))) &&
  (He.eqO (PySem.W.specialIn K (.builtin "object.__class__") "__get__") (some (some (.builtin "getset_descriptor.__get__"))) && (decide (PySem.W.takesIn K (.builtin "object.__class__") = some true) &&
  (decide (PySem.W.mroIn K (He.ga K q.1.1) (.type "object") = some true) && decide (PySem.W.kitOne K (.ref (He.ga K q.1.1)) (.ref (He.ga K q.1.2)) = some q.2))))))))
theorem isCk_ok {K : PySem.W.Frag} {q : (Str × Str) × Bool} (h : isCk K q = true) : ExcC K (He.ga K q.1.1) ∧ PySem.W.kitOne K (.ref (He.ga K q.1.1)) (.ref (He.ga K q.1.2)) = some q.2 := by
  unfold isCk at h
  simp only [Bool.and_eq_true, decide_eq_true_eq] at h
  obtain ⟨h1, h2, h3, h4, h5, h6, h7, h8, h9⟩ := h
  exact ⟨⟨He.eqO_ok h1, He.eqO_ok h2, h3, h4, He.eqO_ok h5, He.eqO_ok h6, h7, h8⟩, h9⟩
end VF
set_option Elab.async false
set_option linter.all false
set_option maxRecDepth 100000
/-! laying a small table anew -/
namespace VS
open PySem
def nx (m i : Nat) : Nat := (i * 5 + 1) % (m + 1)
def it (m : Nat) : Nat → Nat → Nat
  | 0, i => i
  | k + 1, i => it m k (nx m i)
theorem it_add {m : Nat} : ∀ (a b i : Nat), it m (a + b) i = it m b (it m a i)
  | 0, b, i => by rw [Nat.zero_add]; rfl
  | a + 1, b, i => by
    rw [show a + 1 + b = a + b + 1 by omega]
    exact it_add a b (nx m i)
theorem it_le {m : Nat} : ∀ (k : Nat) {i : Nat}, i ≤ m → it m k i ≤ m
  | 0, i, h => h
  | k + 1, i, _ => it_le k (Nat.le_of_lt_succ (Nat.mod_lt _ (Nat.succ_pos m)))
/-- the walk comes to every place -/
structure Mk (m : Nat) : Prop where
  all : ∀ j, j ≤ m → ∃ k, k ≤ m ∧ it m k 0 = j
  rnd : it m (m + 1) 0 = 0
theorem mk_of {m : Nat} (h : ((List.range (m + 1)).all fun j => (List.range (m + 1)).any fun k => it m k 0 == j) = true) (r : it m (m + 1) 0 = 0) : Mk m := by
  refine ⟨fun j hj => ?_, r⟩
  have q := List.all_eq_true.mp h j (List.mem_range.mpr (by omega))
  obtain ⟨k, hk, e⟩ := List.any_eq_true.mp q
  exact ⟨k, by have := List.mem_range.mp hk; omega, eq_of_beq e⟩
theorem mk7 : Mk 7 := mk_of (by decide +kernel) (by decide +kernel)
theorem mk15 : Mk 15 := mk_of (by decide +kernel) (by decide +kernel)
theorem mk31 : Mk 31 := mk_of (by decide +kernel) (by decide +kernel)
theorem mk63 : Mk 63 := mk_of (by decide +kernel) (by decide +kernel)
theorem mk127 : Mk 127 := mk_of (by decide +kernel) (by decide +kernel)
theorem Mk.cov {m : Nat} (M : Mk m) {i j : Nat} (hi : i ≤ m) (hj : j ≤ m) : ∃ k, k ≤ m ∧ it m k i = j := by
  obtain ⟨a, ha, ea⟩ := M.all i hi
  obtain ⟨b, hb, eb⟩ := M.all j hj
  by_cases q : a ≤ b
  · refine ⟨b - a, by omega, ?_⟩
    rw [← ea, ← it_add, show a + (b - a) = b by omega]
    exact eb
  · refine ⟨m + 1 - a + b, by omega, ?_⟩
    rw [← ea, ← it_add, show a + (m + 1 - a + b) = m + 1 + b by omega, it_add, M.rnd]
    exact eb
/-- a slot without owner -/
def Fr (o : Array (Option Nat)) (j : Nat) : Prop := o.getD j (some 0) = none
theorem fr_lt {o : Array (Option Nat)} {j : Nat} (h : Fr o j) : j < o.size := by
  unfold Fr at h
  rw [Array.getD_eq_getD_getElem?] at h
  by_cases q : j < o.size
  · exact q
  · rw [Array.getElem?_eq_none (by omega)] at h
    cases h
theorem run_ge {m i : Nat} (h : i ≤ m) : i ≤ SetTable.runEnd m i ∧ SetTable.runEnd m i ≤ m := by
  unfold SetTable.runEnd
  split <;> omega
open SetTable in
theorem free_at {m : Nat} {o : Array (Option Nat)} : ∀ (n i p : Nat), p < 32 → i ≤ m → (∃ k, k < n ∧ Fr o (it m k i)) → ∃ j, layClean.free m o n i p = some j ∧ j ≤ m ∧ Fr o j
  | 0, _, _, _, _, ⟨k, hk, _⟩ => by omega
  | n + 1, i, p, hp, hi, ⟨k, hk, hf⟩ => by
    obtain ⟨g1, g2⟩ := run_ge hi
    unfold layClean.free
    cases q : (List.range (runEnd m i + 1 - i)).find? fun k => (o.getD (i + k) (some 0)).isNone with
    | some d =>
      dsimp only
      have h1 := List.find?_some q
      have h2 := List.mem_range.mp (List.mem_of_find?_eq_some q)
      exact ⟨i + d, rfl, by omega, Option.isNone_iff_eq_none.mp h1⟩
    | none =>
      dsimp only
      have h1 := List.find?_eq_none.mp q 0 (List.mem_range.mpr (by omega))
      have k0 : k ≠ 0 := by
        rintro rfl
        apply h1
        have : Fr o i := hf
        rw [Nat.add_zero]
        unfold Fr at this
        rw [this]
        rfl
      obtain ⟨k', rfl⟩ : ∃ k', k = k' + 1 := ⟨k - 1, by omega⟩
      have el : leap m i p = (nx m i, 0) := by
        unfold leap nx
        rw [Nat.div_eq_of_lt hp, Nat.add_zero]
      rw [el]
      exact free_at n (nx m i) 0 (by decide) (Nat.le_of_lt_succ (Nat.mod_lt _ (Nat.succ_pos m))) ⟨k', by omega, hf⟩
/-- whose slots are taken, in the slots' sequence -/
def live (m : Nat) (o : Array (Option Nat)) : List Nat := (List.range (m + 1)).filterMap fun j => o.getD j none
theorem fm_congr {f g : Nat → Option Nat} : ∀ {l : List Nat}, (∀ x ∈ l, g x = f x) → l.filterMap g = l.filterMap f
  | [], _ => rfl
  | a :: l, h => by
    have ih := fm_congr (f := f) (g := g) (l := l) fun x hx => h x (List.mem_cons_of_mem _ hx)
    have ha := h a List.mem_cons_self
    cases q : f a with
    | none => rw [List.filterMap_cons_none (by rw [ha, q]), List.filterMap_cons_none q, ih]
    | some b => rw [List.filterMap_cons_some (by rw [ha, q]), List.filterMap_cons_some q, ih]
theorem fm_set {f g : Nat → Option Nat} {j k : Nat} (hf : f j = none) (hg : g j = some k) (ho : ∀ i, i ≠ j → g i = f i) : ∀ {l : List Nat}, l.Nodup → j ∈ l → (l.filterMap g).Perm (k :: l.filterMap f)
  | a :: l, nd, hj => by
    rw [List.nodup_cons] at nd
    by_cases e : a = j
    · subst e
      rw [List.filterMap_cons_some hg, List.filterMap_cons_none hf]
      have : l.filterMap g = l.filterMap f := fm_congr fun x hx => ho x fun z => nd.1 (z ▸ hx)
      rw [this]
    · have ih := fm_set hf hg ho nd.2 ((List.mem_cons.mp hj).resolve_left (Ne.symm e))
      have ea := ho a e
      cases q : f a with
      | none =>
        rw [q] at ea
        rw [List.filterMap_cons_none ea, List.filterMap_cons_none q]
        exact ih
      | some b =>
        rw [q] at ea
        rw [List.filterMap_cons_some ea, List.filterMap_cons_some q]
        exact (ih.cons b).trans (List.Perm.swap k b _)
theorem live_full {m : Nat} {o : Array (Option Nat)} (hs : o.size = m + 1) (h : ∀ j, j ≤ m → ¬ Fr o j) : (live m o).length = m + 1 := by
  unfold live
  have : ∀ l : List Nat, (∀ j ∈ l, j ≤ m) → (l.filterMap fun j => o.getD j none).length = l.length := by
    intro l
    induction l with
    | nil => intro _; rfl
    | cons a l ih =>
      intro hl
      have ha := hl a List.mem_cons_self
      have hn := h a ha
      have hlt : a < o.size := by omega
      unfold Fr at hn
      rw [Array.getD_eq_getD_getElem?, Array.getElem?_eq_getElem hlt] at hn
      cases q : o[a] with
      | none => rw [q] at hn; exact absurd rfl hn
      | some b =>
        have : o.getD a none = some b := by rw [Array.getD_eq_getD_getElem?, Array.getElem?_eq_getElem hlt, q]; rfl
        rw [List.filterMap_cons_some (f := fun j => o.getD j none) this, List.length_cons, List.length_cons, ih fun j hj => hl j (List.mem_cons_of_mem _ hj)]
  rw [this _ fun j hj => by have := List.mem_range.mp hj; omega, List.length_range]
theorem live_set {m k j : Nat} {o : Array (Option Nat)} (hs : o.size = m + 1) (hj : Fr o j) : (live m (o.setIfInBounds j (some k))).Perm (k :: live m o) := by
  have hlt := fr_lt hj
  have hn : o[j] = none := by
    unfold Fr at hj
    rw [Array.getD_eq_getD_getElem?, Array.getElem?_eq_getElem hlt] at hj
    exact hj
  refine fm_set (j := j) ?_ ?_ (fun i hi => ?_) List.nodup_range (List.mem_range.mpr (by omega))
  · rw [Array.getD_eq_getD_getElem?, Array.getElem?_eq_getElem hlt, hn]
    rfl
  · rw [Array.getD_eq_getD_getElem?, Array.getElem?_setIfInBounds_self_of_lt hlt]
    rfl
  · rw [Array.getD_eq_getD_getElem?, Array.getD_eq_getD_getElem?, Array.getElem?_setIfInBounds_ne (Ne.symm hi)]
/-! ### the whole table -/
open SetTable in
theorem lay_fold {m : Nat} (M : Mk m) : ∀ (hs : List Int) (o : Array (Option Nat)) (n : Nat), o.size = m + 1 → (live m o).Perm (List.range n) → n + hs.length ≤ m → (∀ h ∈ hs, 0 ≤ h ∧ h < 32) →
    ∃ o', (hs.foldl (init := some (o, n)) fun acc h => do
      let (owner, k) ← acc
      let j ← layClean.free m owner (turns m) (bits h % (m + 1)) (bits h)
      pure (owner.setIfInBounds j (some k), k + 1)) = some (o', n + hs.length) ∧ o'.size = m + 1 ∧ (live m o').Perm (List.range (n + hs.length))
  | [], o, n, h1, h2, _, _ => ⟨o, rfl, h1, h2⟩
  | h :: hs, o, n, h1, h2, h3, h4 => by
    obtain ⟨b0, b1⟩ := h4 h List.mem_cons_self
    have eb : bits h = h.toNat := by
      unfold bits
      rw [Int.emod_eq_of_lt b0 (by omega)]
    have hi : bits h % (m + 1) ≤ m := Nat.le_of_lt_succ (Nat.mod_lt _ (Nat.succ_pos m))
    rw [List.length_cons] at h3
    have some_free : ∃ j, j ≤ m ∧ Fr o j := by
      refine Classical.byContradiction fun z => ?_
      have := live_full h1 fun j hj hf => z ⟨j, hj, hf⟩
      rw [h2.length_eq, List.length_range] at this
      omega
    obtain ⟨j0, hj0, hf0⟩ := some_free
    obtain ⟨k, hk, ek⟩ := M.cov hi hj0
    obtain ⟨j, e1, e2, e3⟩ := free_at (turns m) (bits h % (m + 1)) (bits h) (by omega) hi ⟨k, by unfold turns; omega, by rw [ek]; exact hf0⟩
    have p1 := live_set (k := n) h1 e3
    have p2 : (live m (o.setIfInBounds j (some n))).Perm (List.range (n + 1)) := by
      rw [List.range_succ]
      exact p1.trans ((h2.cons n).trans (List.perm_append_singleton n _).symm)
    obtain ⟨o', f1, f2, f3⟩ := lay_fold M hs (o.setIfInBounds j (some n)) (n + 1) (by rw [Array.size_setIfInBounds]; exact h1) p2 (by omega) fun x hx => h4 x (List.mem_cons_of_mem _ hx)
    refine ⟨o', ?_, f2, ?_⟩
    · rw [List.foldl_cons]
      have : (do
          let (owner, k) ← some (o, n)
          let j ← layClean.free m owner (turns m) (bits h % (m + 1)) (bits h)
          pure (owner.setIfInBounds j (some k), k + 1)) = some (o.setIfInBounds j (some n), n + 1) := by
        show (layClean.free m o (turns m) (bits h % (m + 1)) (bits h)).bind (fun j => some (o.setIfInBounds j (some n), n + 1)) = _
        rw [e1]
        rfl
      rw [this, f1, List.length_cons]
      congr 2
      omega
    · rw [List.length_cons, show n + (hs.length + 1) = n + 1 + hs.length by omega]
      exact f3
theorem live_0 (m : Nat) : live m (Array.replicate (m + 1) none) = [] := by
  unfold live
  refine List.filterMap_eq_nil_iff.mpr fun j _ => ?_
  rw [Array.getD_eq_getD_getElem?]
  by_cases q : j < m + 1
  · rw [Array.getElem?_replicate, if_pos q]
    rfl
  · rw [Array.getElem?_replicate, if_neg q]
    rfl
theorem lay_ok {m : Nat} (M : Mk m) {hs : Array Int} (hn : hs.size ≤ m) (hb : ∀ h ∈ hs.toList, 0 ≤ h ∧ h < 32) : ∃ o, SetTable.layClean m hs = some o ∧ o.size = m + 1 ∧ (live m o).Perm (List.range hs.size) := by
  obtain ⟨o, e, h1, h2⟩ := lay_fold M hs.toList (Array.replicate (m + 1) none) 0 (by simp) (by rw [live_0]; exact List.Perm.refl _) (by simpa using hn) hb
  rw [Nat.zero_add, Array.length_toList] at e h2
  refine ⟨o, ?_, h1, h2⟩
  unfold SetTable.layClean
  rw [← Array.foldl_toList, e]
  rfl
end VS
set_option Elab.async false
set_option linter.all false
set_option maxRecDepth 100000
/-! sets of small whole numbers put together -/
namespace VS
open PySem PyProof.Rows L2
theorem laid_ok {m : Nat} (M : Mk m) {fg mv : Nat} {ld pl : Bool} {hs : Array Int} (hn : hs.size ≤ m) (hb : ∀ h ∈ hs.toList, 0 ≤ h ∧ h < 32) :
    ∃ t' order, SetTable.laid m fg mv ld pl hs = some (t', order) ∧ order.toList.Perm (List.range hs.size) ∧ Ris t'.place.toList ∧ t'.place.size = hs.size ∧ t'.mask = m ∧ t'.dummies = #[] ∧ t'.led = ld := by
  obtain ⟨o, e, h1, h2⟩ := lay_ok M hn hb
  refine ⟨{ mask := m, place := (((List.range (m + 1)).filterMap fun j => (o.getD j none).map (j, ·)).map (·.1)).toArray, dummies := #[], finger := fg, led := ld, moves := mv, plain := pl },
    (((List.range (m + 1)).filterMap fun j => (o.getD j none).map (j, ·)).map (·.2)).toArray, ?_, ?_, ?_, ?_, rfl, rfl, rfl⟩
  · unfold SetTable.laid
    rw [e]
    rfl
  · have : ((List.range (m + 1)).filterMap fun j => (o.getD j none).map (j, ·)).map (·.2) = live m o := by
      unfold live
      rw [List.map_filterMap]
      refine fm_congr fun j _ => ?_
      cases o.getD j none <;> rfl
    show (((List.range (m + 1)).filterMap fun j => (o.getD j none).map (j, ·)).map (·.2)).Perm _
    rw [this]
    exact h2
  · refine (ris_live (fun j => o.getD j none) (List.range (m + 1)) ?_).1
    unfold Ris
    first | exact List.pairwise_lt_range | exact List.pairwise_lt_range _
  · have : ((List.range (m + 1)).filterMap fun j => (o.getD j none).map (j, ·)).map (·.2) = live m o := by
      unfold live
      rw [List.map_filterMap]
      refine fm_congr fun j _ => ?_
      cases o.getD j none <;> rfl
    have q := congrArg List.length this
    rw [List.length_map, h2.length_eq, List.length_range] at q
    show (List.map _ _).toArray.size = _
    rw [List.size_toArray, List.length_map]
    exact q
theorem fm_range {es : Array (Int × Value)} : ∀ (n : Nat), n ≤ es.size → (List.range n).filterMap (fun i => es[i]?) = es.toList.take n
  | 0, _ => rfl
  | n + 1, h => by
    have hl : n < es.toList.length := by rw [Array.length_toList]; omega
    rw [List.range_succ, List.filterMap_append, fm_range n (by omega), List.take_succ, List.getElem?_eq_getElem hl]
    have e : es[n]? = some (es.toList[n]) := by rw [← Array.getElem?_toList, List.getElem?_eq_getElem hl]
    rw [List.filterMap_cons_some e]
    rfl
theorem order_perm {es : Array (Int × Value)} {order : Array Nat} (h : order.toList.Perm (List.range es.size)) : (order.filterMap (es[·]?)).toList.Perm es.toList := by
  have h1 : (order.filterMap (es[·]?)).toList = order.toList.filterMap (fun i => es[i]?) := by first | exact Array.toList_filterMap .. | simp
  rw [h1]
  have h2 := h.filterMap (fun i => es[i]?)
  rw [fm_range _ (Nat.le_refl _), ← Array.length_toList, List.take_length] at h2
  exact h2
/-- the numbers of a set are small -/
def Sm (S : Int → Bool) : Prop := ∀ k, S k = true → 0 ≤ k ∧ k < 32
theorem hash_small {k : Int} (h : 0 ≤ k ∧ k < 32) : hashInt k = k := by
  have : ∀ n : Nat, n < 32 → hashInt (n : Int) = (n : Int) := by decide +kernel
  have q := this k.toNat (by omega)
  rw [Int.toNat_of_nonneg h.1] at q
  exact q
section
variable {P : Program} {w : World} {A : Around} {E : Value → Shared → Prop} {s : Shared} {a b : Addr} {S S' : Int → Bool} {n n' : Nat}
/-- what SetR says, with the object named -/
structure At (w : World) (h : Heap) (a : Addr) (S : Int → Bool) (o : Obj) (es : Array (Int × Value)) (ep : Nat) (t : SetTable) : Prop where
  ho : h.get? a = some o
  ex : o.ExactSet
  hd : o.data = .set es ep t
  g : ∀ e ∈ es.toList, GoodE e
  nd : (es.toList.map keyOf).Nodup
  mem : ∀ k, S k = true ↔ k ∈ es.toList.map keyOf
  bd : es.size < scanBound
  fits : t.fits es.size = true
  ris : Ris t.place.toList
  led : w.params.followText "set-order" = true ∨ t.led = true
theorem at_of {h : Heap} (R : SetR w h a S n) : ∃ o es ep t, At w h a S o es ep t ∧ es.size = n := by
  obtain ⟨o, es, ep, t, h1, h2, h3, h4, h5, h6, h7, h8, h9, h10, h11⟩ := R
  exact ⟨o, es, ep, t, ⟨h1, h2, h3, h4, h5, h6, h7, h8, h10, h11⟩, h9⟩
theorem At.setR {h : Heap} {o : Obj} {es : Array (Int × Value)} {ep : Nat} {t : SetTable} (R : At w h a S o es ep t) : SetR w h a S es.size :=
  ⟨o, es, ep, t, R.ho, R.ex, R.hd, R.g, R.nd, R.mem, R.bd, R.fits, rfl, R.ris, R.led⟩
theorem At.hashes {h : Heap} {o : Obj} {es : Array (Int × Value)} {ep : Nat} {t : SetTable} (R : At w h a S o es ep t) (sm : Sm S) : ∀ x ∈ (es.map (·.1)).toList, 0 ≤ x ∧ x < 32 := fun x hx => by
  rw [Array.toList_map] at hx
  obtain ⟨e, he, rfl⟩ := List.mem_map.mp hx
  obtain ⟨k, tk, h1, h2⟩ := R.g e he
  have hk : k ∈ es.toList.map keyOf := List.mem_map.mpr ⟨e, he, by unfold keyOf; rw [h1]⟩
  have q := sm k ((R.mem k).mpr hk)
  rw [h2, hash_small q]
  exact q
/-- the same set with its entries in another sequence -/
theorem At.perm {h h' : Heap} {o o' : Obj} {es es' : Array (Int × Value)} {ep ep' : Nat} {t t' : SetTable} (R : At w h a S o es ep t) (pm : es'.toList.Perm es.toList) (ho : h'.get? b = some o') (ex : o'.ExactSet) (hd : o'.data = .set es' ep' t')
    (hf : t'.fits es'.size = true) (hr : Ris t'.place.toList) (hl : w.params.followText "set-order" = true ∨ t'.led = true) : At w h' b S o' es' ep' t' :=
  ⟨ho, ex, hd, fun e he => R.g e (pm.mem_iff.mp he), (pm.map keyOf).nodup_iff.mpr R.nd, fun k => (R.mem k).trans (pm.map keyOf).mem_iff.symm, by
    have := pm.length_eq
    rw [Array.length_toList, Array.length_toList] at this
    rw [this]
    exact R.bd, hf, hr, hl⟩
theorem fits_of {t : SetTable} {n : Nat} (h1 : t.place.size = n) (h2 : t.dummies = #[]) (h3 : n ≤ t.mask) : t.fits n = true := by
  unfold SetTable.fits SetTable.fill
  rw [h2, Bool.and_eq_true, beq_iff_eq, decide_eq_true_eq]
  exact ⟨h1, by rw [h1]; exact h3⟩
/-- laid anew -/
theorem relay {o : Obj} {es : Array (Int × Value)} {ep : Nat} {t : SetTable} {wanted m : Nat} (R : At w s.heap a S o es ep t) (sm : Sm S) (hw : SetTable.sizeAbove wanted - 1 = m) (M : Mk m) (hn : es.size ≤ m) (hz : SetTable.sizeAbove wanted ≤ 128) {Q : Unit → Shared → Prop}
    (hQ : ∀ h' o' es' ep' t', Heap.SameBut a s.heap h' → At w h' a S o' es' ep' t' → es'.size = es.size → t'.mask = m → t'.dummies = #[] → Q () { s with heap := h' }) : wpAny (model P w) A (setRelay a wanted) Q E s := by
  obtain ⟨t', order, e1, e2, e3, e4, e5, e6, e7⟩ := laid_ok M (fg := t.finger) (mv := t.movedTo m) (ld := t.led) (pl := t.plain) (hs := es.map (·.1)) (by rw [Array.size_map]; exact hn) (R.hashes sm)
  rw [Array.size_map] at e2 e4
  have pm := order_perm e2
  have hs : (order.filterMap (es[·]?)).size = es.size := by
    have := pm.length_eq
    rwa [Array.length_toList, Array.length_toList] at this
  have er : t.relaid (es.map (·.1)) wanted = some (t', order) := by
    unfold SetTable.relaid
    rw [hw]
    exact e1
  rw [setRelay_eq]
  refine wpAny_bind (wpAny_setState_of R.ho R.hd R.fits ?_)
  dsimp only
  refine wp_if_neg (by rw [sizeLine_eq]; omega) ?_
  try refine wpAny_bind (wpAny_pure ?_)
  rw [er]
  dsimp only
  refine wpAny_bind ?_
  refine wp_if_neg (by rw [hs]; simp) ?_
  try refine wpAny_bind (wpAny_pure ?_)
  refine wpAny_pure ?_
  dsimp only
  refine wpAny_storeSet_of R.ho R.hd ?_ (by rw [hs]; have := R.bd; unfold scanBound at this; rw [sizeLine_eq]; omega)
  refine hQ _ _ _ _ t' (Heap.SameBut.update ..) (R.perm pm (store_at R.ho R.hd) ⟨R.ex.1, R.ex.2.1, R.ex.2.2⟩ rfl ?_ e3 (R.led.imp id fun z => by rw [e7]; exact z)) hs e5 e6
  exact fits_of (by rw [e4, hs]) e6 (by rw [e5, hs]; exact hn)
end
end VS
set_option Elab.async false
set_option linter.all false
set_option maxRecDepth 100000
namespace VS
open PySem PyProof.Rows L2
theorem setMerge_eq (s o : Addr) (each : Sem Unit) : setMerge s o each = (do
    if s == o then return
    let (eo, epoch, to) ← setState o
    if eo.isEmpty then return
    setRoomFor s eo.size
    let (_, _, ts) ← setState s
    match ts.road to with
    | .slotForSlot => storeSet s eo { to with finger := ts.finger, led := ts.led && to.led, moves := ts.moves, plain := ts.plain && to.plain }
    | .clean =>
      let (es, t) ← (do
        let some (t, order) := (SetTable.laid ts.mask ts.finger ts.moves (led := ts.led && to.led) (plain := ts.plain && to.plain) (eo.map (·.1))) | unsupported "internal:set-table-without-room"
        let es' := order.filterMap (eo[·]?)
        if es'.size != eo.size then unsupported "internal:set-table-lost-an-element"
        pure (es', t) : Sem (Array (Int × Value) × SetTable))
      storeSet s es t
    | .oneByOne =>
      for (h, x) in ← setWalkUnseen o [s] (some s) do
        let _ ← holding [x] (setAddHashed s x h)
        each
        if (← setState o).2.1 != epoch then unsupported "set.changed-during-merge") := by rfl
theorem sizes : ∀ n : Nat, n < 62 → (SetTable.sizeAbove (n * 2) = 8 ∨ SetTable.sizeAbove (n * 2) = 16 ∨ SetTable.sizeAbove (n * 2) = 32 ∨ SetTable.sizeAbove (n * 2) = 64 ∨ SetTable.sizeAbove (n * 2) = 128) ∧ n + 1 ≤ SetTable.sizeAbove (n * 2) := by decide +kernel
theorem mk_size {n : Nat} (h : n < 62) : ∃ m, SetTable.sizeAbove (n * 2) - 1 = m ∧ Mk m ∧ n ≤ m ∧ SetTable.sizeAbove (n * 2) ≤ 128 := by
  obtain ⟨h1, h2⟩ := sizes n h
  refine ⟨_, rfl, ?_, by omega, by omega⟩
  rcases h1 with e | e | e | e | e <;> rw [e]
  · exact mk7
  · exact mk15
  · exact mk31
  · exact mk63
  · exact mk127
section
variable {P : Program} {w : World} {A : Around} {E : Value → Shared → Prop} {s : Shared} {a b : Addr} {S S' : Int → Bool} {n n' : Nat}
/-- room for more; the mask stays one of a walk that comes everywhere -/
theorem room {o : Obj} {es : Array (Int × Value)} {ep : Nat} {t : SetTable} {more : Nat} (R : At w s.heap a S o es ep t) (sm : Sm S) (hn : es.size + more < 62) {Q : Unit → Shared → Prop}
    (h0 : t.roomFor more = none → Q () s) (hQ : t.roomFor more ≠ none → ∀ h' o' es' ep' t', Heap.SameBut a s.heap h' → At w h' a S o' es' ep' t' → es'.size = es.size → Mk t'.mask → es.size + more ≤ t'.mask → t'.dummies = #[] → Q () { s with heap := h' }) :
    wpAny (model P w) A (setRoomFor a more) Q E s := by
  have pl : t.place.size = es.size := by
    have := R.fits
    unfold SetTable.fits at this
    rw [Bool.and_eq_true, beq_iff_eq] at this
    exact this.1
  unfold setRoomFor
  refine wpAny_bind (wpAny_setState_of R.ho R.hd R.fits ?_)
  dsimp only
  cases q : t.roomFor more with
  | none =>
    dsimp only
    exact wpAny_pure (h0 q)
  | some wanted =>
    dsimp only
    have ew : wanted = (es.size + more) * 2 := by
      unfold SetTable.roomFor at q
      split at q
      · rw [← Option.some.inj q, pl]
      · cases q
    subst ew
    obtain ⟨m, e1, e2, e3, e4⟩ := mk_size hn
    refine relay R sm e1 e2 (by omega) e4 fun h' o' es' ep' t' sb R' hs hm hd => ?_
    subst hm
    exact hQ (by rw [q]; simp) h' o' es' ep' t' sb R' hs e2 e3 hd
theorem At.other {h h' : Heap} {o : Obj} {es : Array (Int × Value)} {ep : Nat} {t : SetTable} (R : At w h b S o es ep t) (sb : Heap.SameBut a h h') (ne : b ≠ a) : At w h' b S o es ep t :=
  ⟨(sb.2 b ne).trans R.ho, R.ex, R.hd, R.g, R.nd, R.mem, R.bd, R.fits, R.ris, R.led⟩
theorem place_size {h : Heap} {o : Obj} {es : Array (Int × Value)} {ep : Nat} {t : SetTable} (R : At w h b S o es ep t) : t.place.size = es.size := by
  have := R.fits
  unfold SetTable.fits at this
  rw [Bool.and_eq_true, beq_iff_eq] at this
  exact this.1
theorem size_line {es : Array (Int × Value)} (h : es.size < scanBound) : es.size ≤ sizeLine := by
  unfold scanBound at h
  rw [sizeLine_eq]
  omega
/-- the last step, into a set that is empty and has room -/
theorem fill_fresh {o ob : Obj} {es eb : Array (Int × Value)} {ep pb : Nat} {t tb : SetTable} {ea : Sem Unit} (R : At w s.heap a S' o es ep t) (h0 : es.size = 0) (M : Mk t.mask) (hm : eb.size ≤ t.mask) (hd : t.dummies = #[]) (Rb : At w s.heap b S ob eb pb tb) (sm : Sm S)
    {Q : Unit → Shared → Prop} (hQ : ∀ h', Heap.SameBut a s.heap h' → SetR w h' a S eb.size → Q () { s with heap := h' }) :
    wpAny (model P w) A (match t.road tb with
    | .slotForSlot => storeSet a eb { tb with finger := t.finger, led := t.led && tb.led, moves := t.moves, plain := t.plain && tb.plain }
    | .clean => do
      let (es, t) ← (do
        let some (t, order) := (SetTable.laid t.mask t.finger t.moves (led := t.led && tb.led) (plain := t.plain && tb.plain) (eb.map (·.1))) | unsupported "internal:set-table-without-room"
        let es' := order.filterMap (eb[·]?)
        if es'.size != eb.size then unsupported "internal:set-table-lost-an-element"
        pure (es', t) : Sem (Array (Int × Value) × SetTable))
      storeSet a es t
    | .oneByOne => ea) Q E s := by
  have pl := place_size R
  have fl : t.fill = 0 := by unfold SetTable.fill; rw [pl, h0, hd]; rfl
  have ld : w.params.followText "set-order" = true ∨ (t.led && tb.led) = true := by
    rcases R.led with q | q
    · exact .inl q
    · rcases Rb.led with q2 | q2
      · exact .inl q2
      · exact .inr (by rw [q, q2]; rfl)
  unfold SetTable.road
  rw [if_neg (by rw [fl]; simp)]
  split
  · rename_i e
    split at e <;> first | (cases e; done) | skip
    rename_i c
    rw [Bool.and_eq_true, beq_iff_eq] at c
    refine wpAny_storeSet_of R.ho R.hd ?_ (size_line Rb.bd)
    exact hQ _ (Heap.SameBut.update ..) (Rb.perm (t' := { tb with finger := t.finger, led := t.led && tb.led, moves := t.moves, plain := t.plain && tb.plain }) (List.Perm.refl _) (store_at R.ho R.hd) ⟨R.ex.1, R.ex.2.1, R.ex.2.2⟩ rfl (by have := Rb.fits; exact this) Rb.ris ld).setR
  · obtain ⟨t', order, e1, e2, e3, e4, e5, e6, e7⟩ := laid_ok M (fg := t.finger) (mv := t.moves) (ld := t.led && tb.led) (pl := t.plain && tb.plain) (hs := eb.map (·.1)) (by rw [Array.size_map]; exact hm) (Rb.hashes sm)
    rw [Array.size_map] at e2 e4
    have pm := order_perm e2
    have hs : (order.filterMap (eb[·]?)).size = eb.size := by
      have := pm.length_eq
      rwa [Array.length_toList, Array.length_toList] at this
    refine wpAny_bind ?_
    rw [e1]
    dsimp only
    refine wp_if_neg (by rw [hs]; simp) ?_
    try refine wpAny_bind (wpAny_pure ?_)
    refine wpAny_pure ?_
    dsimp only
    refine wpAny_storeSet_of R.ho R.hd ?_ (size_line (by rw [hs]; exact Rb.bd))
    have q := (Rb.perm pm (store_at R.ho R.hd) ⟨R.ex.1, R.ex.2.1, R.ex.2.2⟩ rfl (fits_of (by rw [e4, hs]) e6 (by rw [e5, hs]; exact hm)) e3 (by rw [e7]; exact ld)).setR
    rw [hs] at q
    exact hQ _ (Heap.SameBut.update ..) q
  · rename_i e
    split at e <;> cases e
/-- into a new set -/
theorem merge_fresh {o ob : Obj} {eb : Array (Int × Value)} {ep pb : Nat} {t tb : SetTable} {ea : Sem Unit} (R : At w s.heap a (fun _ => false) o #[] ep t) (hm : t.mask = 7) (hd : t.dummies = #[]) (Rb : At w s.heap b S ob eb pb tb) (sm : Sm S) (ne : b ≠ a) (hn : eb.size < 62)
    {Q : Unit → Shared → Prop} (hQ : ∀ h', Heap.SameBut a s.heap h' → SetR w h' a S eb.size → Q () { s with heap := h' }) : wpAny (model P w) A (setMerge a b ea) Q E s := by
  rw [setMerge_eq]
  rw [if_neg (by rw [beq_iff_eq]; exact Ne.symm ne)]
  refine wpAny_bind (wpAny_setState_of Rb.ho Rb.hd Rb.fits ?_)
  dsimp only
  by_cases h0 : eb.isEmpty = true
  · rw [if_pos h0]
    have e0 : eb = #[] := by simpa using h0
    refine wpAny_pure ?_
    have q := hQ s.heap (Heap.SameBut.refl _ _)
    refine q ?_
    rw [e0]
    refine (SetR.congr R.setR fun k => ?_)
    have := Rb.mem k
    rw [e0] at this
    cases z : S k with
    | false => rfl
    | true => exact absurd (this.mp z) (by simp)
  rw [if_neg h0]
  have fl : t.fill = 0 := by unfold SetTable.fill; rw [place_size R, hd]; rfl
  refine wpAny_bind (room R (fun k z => by cases z) (by simpa using hn) (fun q => ?_) fun q h' o' es' ep' t' sb R' hs M' hm' hd' => ?_)
  · have h5 : eb.size < 5 := by
      unfold SetTable.roomFor at q
      split at q
      · cases q
      · rename_i c
        rw [fl, hm] at c
        omega
    refine wpAny_bind (wpAny_setState_of R.ho R.hd R.fits ?_)
    dsimp only
    exact fill_fresh R rfl (by rw [hm]; exact mk7) (by rw [hm]; omega) hd Rb sm hQ
  · refine wpAny_bind (wpAny_setState_of R'.ho R'.hd R'.fits ?_)
    dsimp only
    exact fill_fresh (s := { s with heap := h' }) R' (by rw [hs]; rfl) M' (by have : (#[] : Array (Int × Value)).size = 0 := rfl; omega) hd' (Rb.other sb ne) sm fun h2 sb2 r => hQ h2 (sb.trans sb2) r
end
end VS
set_option Elab.async false
set_option linter.all false
set_option maxRecDepth 100000
namespace VS
open PySem PyProof.Rows L2
theorem setWalk_eq (a : Addr) : setWalk a = (do
    let (es, epoch, t) ← setState a
    if ← setsByText then return pickOrder ((← ask).params.setOrder a epoch) es
    if (!t.plain && es.size > 1) then return (← drawOrder es.size es.toList).toArray
    (if !t.led && es.size > 1 then unsupported "set:maker-not-led" else pure ())
    return es) := by rfl
section
variable {P : Program} {w : World} {A : Around} {E : Value → Shared → Prop} {s : Shared} {a b : Addr} {S S' : Int → Bool} {n n' : Nat}
theorem walk_at {o : Obj} {es : Array (Int × Value)} {ep : Nat} {t : SetTable} (R : At w s.heap b S o es ep t) {Q : Array (Int × Value) → Shared → Prop} (hQ : ∀ es' d, es'.toList.Perm es.toList → Q es' { s with drawn := d }) : wpAny (model P w) A (setWalk b) Q E s := by
  rw [setWalk_eq]
  refine wpAny_bind (wpAny_setState_of R.ho R.hd R.fits ?_)
  dsimp only
  refine wpAny_bind (wpAny_byText ?_)
  cases hb : w.params.followText "set-order" with
  | true =>
    rw [if_pos rfl]
    refine wpAny_bind (wpAny_askSetting ?_)
    exact wpAny_pure (hQ _ s.drawn (pick_perm _ _))
  | false =>
    rw [if_neg (by simp)]
    have ld : t.led = true := by
      rcases R.led with q | q
      · rw [hb] at q; cases q
      · exact q
    split
    · refine wpAny_bind (drawOrder_at _ _ _ _ (by rw [Array.length_toList]; exact Nat.le_refl _) fun ys d p => ?_)
      exact wpAny_pure (hQ _ d (by simpa using p))
    · rw [ld]
      refine wpAny_bind ?_
      rw [if_neg (by simp)]
      exact wpAny_pure (wpAny_pure (hQ es s.drawn (List.Perm.refl _)))
theorem int_entry {e : Int × Value} (g : GoodE e) : ∃ k tk, e.2 = .int k tk := let ⟨k, tk, h, _⟩ := g; ⟨k, tk, h⟩
theorem quiet_at {l : List Addr} (h : ∀ c ∈ l, ∃ S o es ep t, At w s.heap c S o es ep t) {Q : Bool → Shared → Prop} (hQ : Q true s) : wpAny (model P w) A (setsQuiet l) Q E s := by
  unfold setsQuiet
  refine wpAny_bind (wpAny_forIn_list _ (fun rest (b : Option Bool × Unit) s' => b.1 = none ∧ s' = s ∧ ∀ c ∈ rest, ∃ S o es ep t, At w s.heap c S o es ep t) _ ?_ ?_ l _ ⟨rfl, rfl, h⟩)
  · rintro c rest b s' ⟨hb, rfl, hr⟩
    obtain ⟨S, o, es, ep, t, R⟩ := hr c List.mem_cons_self
    unfold setEntries
    refine wpAny_bind (wpAny_bind (wpAny_setState_of R.ho R.hd R.fits (wpAny_pure ?_)))
    refine wpAny_bind (wpAny_forIn_array' _ (fun rest (b : Option Bool × Unit) s2 => b.1 = none ∧ s2 = s' ∧ ∀ e ∈ rest, GoodE e) _ ?_ ?_ es _ ⟨rfl, rfl, R.g⟩)
    · rintro ⟨hh, x⟩ rest2 b2 s2 ⟨hb2, rfl, hr2⟩
      obtain ⟨k, tk, e⟩ := int_entry (hr2 _ List.mem_cons_self)
      dsimp only at e ⊢
      subst e
      dsimp only
      exact wpAny_pure ⟨rfl, rfl, fun e he => hr2 e (List.mem_cons_of_mem _ he)⟩
    · rintro ⟨b1, b2⟩ s2 ⟨hb2, rfl, _⟩
      dsimp only at hb2 ⊢
      subst hb2
      dsimp only
      exact wpAny_pure ⟨rfl, rfl, fun c hc => hr c (List.mem_cons_of_mem _ hc)⟩
  · rintro ⟨b1, b2⟩ s2 ⟨hb2, rfl, _⟩
    dsimp only at hb2 ⊢
    subst hb2
    dsimp only
    exact wpAny_pure hQ
/-- the walk of a set that nobody sees, a filled one marked -/
theorem unseen_at {o oa : Obj} {es ea : Array (Int × Value)} {ep pa : Nat} {t ta : SetTable} (R : At w s.heap b S o es ep t) (Ra : At w s.heap a S' oa ea pa ta) (ne : b ≠ a) {Q : Array (Int × Value) → Shared → Prop}
    (hQ : ∀ es' h' d, es'.toList.Perm es.toList → Heap.SameBut a s.heap h' → SetR w h' a S' ea.size → Q es' { s with heap := h', drawn := d }) : wpAny (model P w) A (setWalkUnseen b [a] (some a)) Q E s := by
  have byWalk : wpAny (model P w) A (setWalk b) Q E s := walk_at R fun es' d pm => hQ es' s.heap d pm (Heap.SameBut.refl _ _) Ra.setR
  unfold setWalkUnseen
  refine wpAny_bind (wpAny_setState_of R.ho R.hd R.fits ?_)
  dsimp only
  refine wpAny_bind (wpAny_byText ?_)
  split
  · exact byWalk
  · refine wpAny_bind (quiet_at (fun c hc => ?_) ?_)
    · simp only [List.mem_cons, List.not_mem_nil, or_false] at hc
      rcases hc with rfl | rfl
      · exact ⟨_, _, _, _, _, R⟩
      · exact ⟨_, _, _, _, _, Ra⟩
    · simp only [Bool.not_true, Bool.false_eq_true, if_false]
      refine wpAny_bind (wpAny_rule ?_)
      refine wpAny_bind (wpAny_setState_of Ra.ho Ra.hd Ra.fits ?_)
      dsimp only
      split
      · rename_i c
        refine wpAny_bind (wpAny_storeSet_of Ra.ho Ra.hd ?_ (size_line Ra.bd))
        refine wpAny_pure (hQ es _ s.drawn (List.Perm.refl _) (Heap.SameBut.update ..) ?_)
        refine (Ra.perm (t' := { ta with led := ta.led && t.led, plain := ta.plain && t.plain }) (List.Perm.refl _) (store_at Ra.ho Ra.hd) ⟨Ra.ex.1, Ra.ex.2.1, Ra.ex.2.2⟩ rfl Ra.fits Ra.ris ?_).setR
        rcases Ra.led with q | q
        · exact .inl q
        · rcases R.led with q2 | q2
          · exact .inl q2
          · exact .inr (by show (ta.led && t.led) = true; rw [q, q2]; rfl)
      · exact wpAny_pure (hQ es s.heap s.drawn (List.Perm.refl _) (Heap.SameBut.refl _ _) Ra.setR)
end
end VS
set_option Elab.async false
set_option linter.all false
set_option maxRecDepth 100000
namespace VS
open PySem PyProof.Rows L2
section
variable {P : Program} {w : World} {A : Around} {E : Value → Shared → Prop} {s : Shared} {a b : Addr} {S S' : Int → Bool} {n n' : Nat}
theorem unchanged_at {o : Obj} {es : Array (Int × Value)} {ep : Nat} {t : SetTable} {id : String} (R : At w s.heap b S o es ep t) {Q : Unit → Shared → Prop} (hQ : Q () s) : wpAny (model P w) A (Builtin.Frozenset.unchanged id b ep) Q E s := by
  unfold Builtin.Frozenset.unchanged setEpoch
  refine wpAny_bind (wpAny_bind (wpAny_setState_of R.ho R.hd R.fits (wpAny_pure ?_)))
  rw [if_neg (by simp)]
  exact wpAny_pure hQ
/-- what is put in from a walk -/
structure Into (w : World) (s : Shared) (a : Addr) (T : Int → Bool) (rest : List (Int × Value)) (s' : Shared) : Prop where
  ex : ∃ h' d S1 m, s' = { s with heap := h', drawn := d } ∧ Heap.SameBut a s.heap h' ∧ SetR w h' a S1 m ∧ (∀ k, (S1 k || decide (k ∈ rest.map keyOf)) = T k) ∧ m + rest.length < 200
  good : ∀ e ∈ rest, GoodE e
theorem merge_into {oa ob : Obj} {ea eb : Array (Int × Value)} {pa pb : Nat} {ta tb : SetTable} {id : String} (Ra : At w s.heap a S' oa ea pa ta) (h0 : 0 < ea.size) (sma : Sm S') (Rb : At w s.heap b S ob eb pb tb) (ne : b ≠ a) (hn : ea.size + eb.size < 62)
    {Q : Unit → Shared → Prop} (hQ : ∀ h' d S1 m, Heap.SameBut a s.heap h' → SetR w h' a S1 m → (∀ k, S1 k = (S' k || S k)) → m < 200 → Q () { s with heap := h', drawn := d }) : wpAny (model P w) A (setMerge a b (Builtin.Frozenset.unchanged id b pb)) Q E s := by
  rw [setMerge_eq]
  rw [if_neg (by rw [beq_iff_eq]; exact Ne.symm ne)]
  refine wpAny_bind (wpAny_setState_of Rb.ho Rb.hd Rb.fits ?_)
  dsimp only
  by_cases hb0 : eb.isEmpty = true
  · rw [if_pos hb0]
    have e0 : eb = #[] := by simpa using hb0
    refine wpAny_pure (hQ s.heap s.drawn S' ea.size (Heap.SameBut.refl _ _) Ra.setR (fun k => ?_) (by omega))
    have := Rb.mem k
    rw [e0] at this
    cases z : S k with
    | false => rw [Bool.or_false]
    | true => exact absurd (this.mp z) (by simp)
  rw [if_neg hb0]
  -- behind the making of room
  have go : ∀ {h' : Heap} {o' : Obj} {es' : Array (Int × Value)} {ep' : Nat} {t' : SetTable}, Heap.SameBut a s.heap h' → At w h' a S' o' es' ep' t' → es'.size = ea.size →
      wpAny (model P w) A (do
        let (_, _, ts) ← setState a
        match ts.road tb with
        | .slotForSlot => storeSet a eb { tb with finger := ts.finger, led := ts.led && tb.led, moves := ts.moves, plain := ts.plain && tb.plain }
        | .clean =>
          let (es, t) ← (do
            let some (t, order) := (SetTable.laid ts.mask ts.finger ts.moves (led := ts.led && tb.led) (plain := ts.plain && tb.plain) (eb.map (·.1))) | unsupported "internal:set-table-without-room"
            let es' := order.filterMap (eb[·]?)
            if es'.size != eb.size then unsupported "internal:set-table-lost-an-element"
            pure (es', t) : Sem (Array (Int × Value) × SetTable))
          storeSet a es t
        | .oneByOne =>
          for (h, x) in ← setWalkUnseen b [a] (some a) do
            let _ ← holding [x] (setAddHashed a x h)
            Builtin.Frozenset.unchanged id b pb
            if (← setState b).2.1 != pb then unsupported "set.changed-during-merge") Q E { s with heap := h' } := by
    intro h' o' es' ep' t' sb R' hs
    refine wpAny_bind (wpAny_setState_of R'.ho R'.hd R'.fits ?_)
    dsimp only
    have fl : t'.fill ≠ 0 := by unfold SetTable.fill; rw [place_size R', hs]; omega
    unfold SetTable.road
    rw [if_pos (by simpa using fl)]
    dsimp only
    have Rb' : At w h' b S ob eb pb tb := Rb.other sb ne
    refine wpAny_bind (unseen_at (s := { s with heap := h' }) Rb' R' ne fun es2 h2 d2 pm sb2 R2 => ?_)
    have lenE : es2.toList.length = eb.size := by rw [pm.length_eq, Array.length_toList]
    refine wpAny_bind (wpAny_mono (wpAny_forIn_array' _ (fun rest (_ : PUnit) s' => Into w s a (fun k => S' k || S k) rest s') (fun _ s' => Into w s a (fun k => S' k || S k) [] s') ?_ (fun _ _ q => q) es2 _ ⟨⟨h2, d2, S', es'.size, rfl, sb.trans sb2, R2, fun k => ?_, by rw [lenE]; omega⟩, fun e he => Rb.g e (pm.mem_iff.mp he)⟩) (fun _ s' q => ?_) (fun _ _ z => z))
    · rintro ⟨hh, x⟩ rest u s' ⟨⟨h3, d3, S1, m, rfl, sb3, R3, hT, hm⟩, hg⟩
      obtain ⟨k, tk, e1, e2⟩ := hg _ List.mem_cons_self
      dsimp only at e1 e2 ⊢
      subst e1 e2
      rw [List.length_cons] at hm
      refine wpAny_bind (wpAny_holding (setR_add_hashed (s := { s with heap := h3, drawn := d3 }) R3 (by unfold scanBound; omega) fun h4 sb4 R4 => ?_))
      have sb5 : Heap.SameBut a s.heap h4 := sb3.trans sb4
      have Rb4 : At w h4 b S ob eb pb tb := Rb.other sb5 ne
      refine wpAny_bind (unchanged_at (s := { s with heap := h4, drawn := d3 }) Rb4 ?_)
      refine wpAny_bind (wpAny_setState_of Rb4.ho Rb4.hd Rb4.fits ?_)
      dsimp only
      rw [if_neg (by simp)]
      refine wpAny_pure ⟨⟨h4, d3, _, _, rfl, sb5, R4, fun j => ?_, by split <;> omega⟩, fun e he => hg e (List.mem_cons_of_mem _ he)⟩
      have := hT j
      rw [List.map_cons] at this
      rw [← this]
      have ek : keyOf (hashInt k, Value.int k tk) = k := rfl
      have ek2 : keyOf ((intKind P w).hash k, Value.int k tk) = k := rfl
      by_cases q1 : j = k <;> by_cases q2 : j ∈ rest.map keyOf <;> simp [q1, q2, ek, ek2, List.mem_cons] <;> simp_all
    · have hk : decide (k ∈ es2.toList.map keyOf) = S k := by
        rw [Bool.eq_iff_iff, decide_eq_true_eq, Rb.mem k]
        exact (pm.map keyOf).mem_iff
      rw [hk]
    · obtain ⟨⟨h3, d3, S1, m, rfl, sb3, R3, hT, hm⟩, _⟩ := q
      exact wpAny_pure (hQ h3 d3 S1 m sb3 R3 (fun k => by have := hT k; simpa using this) (by simpa using hm))
  refine wpAny_bind (room Ra sma hn (fun _ => go (Heap.SameBut.refl _ _) Ra rfl) fun _ h' o' es' ep' t' sb R' hs _ _ _ => go sb R' hs)
end
end VS
set_option Elab.async false
set_option linter.all false
set_option maxRecDepth 100000
namespace VS
open PySem PyProof.Rows L2 Builtin.Frozenset
theorem entry_or : entryFor table "set.__or__" = some Builtin.«frozenset.__or__» :=
  entryFor_alias (id' := "frozenset.__or__") (by kernel_rfl) rfl (by decide +kernel) (by kernel_rfl)
theorem entry_xor : entryFor table "set.__xor__" = some Builtin.«frozenset.__xor__» :=
  entryFor_alias (id' := "frozenset.__xor__") (by kernel_rfl) rfl (by decide +kernel) (by kernel_rfl)
section
variable {P : Program} {w : World} {A : Around} {E : Value → Shared → Prop} {s : Shared} {a b : Addr} {S S' : Int → Bool} {n n' : Nat}
theorem SetR.ty {S : Int → Bool} (R : SetR w s.heap a S n) : s.TypeIs (.ref a) "set" := by
  obtain ⟨o, es, ep, t, ho, ex, _⟩ := R
  exact ⟨o, ho, ex.1⟩
theorem At.ty {o : Obj} {es : Array (Int × Value)} {ep : Nat} {t : SetTable} (R : At w s.heap a S o es ep t) : s.TypeIs (.ref a) "set" := ⟨o, R.ho, R.ex.1⟩
theorem isSet (ht : s.TypeIs (.ref a) "set") {Q : Bool → Shared → Prop} (h : Q true s) : wpAny (model P w) A (isInstance (.ref a) (.type "set")) Q E s := by
  unfold isInstance
  refine wpAny_bind (wpAny_typeOf ht ?_)
  exact wpAny_of_eq sub_set_self h
theorem anySet (ht : s.TypeIs (.ref a) "set") {Q : Bool → Shared → Prop} (h : Q true s) : wpAny (model P w) A (isAnySet (.ref a)) Q E s := by
  unfold isAnySet
  refine wpAny_bind (isSet ht ?_)
  exact wpAny_pure h
theorem base (ht : s.TypeIs (.ref a) "set") {Q : Value → Shared → Prop} (h : Q (.type "set") s) : wpAny (model P w) A (baseOf a) Q E s := by
  unfold baseOf
  refine wpAny_bind (isSet ht ?_)
  exact wpAny_pure h
theorem newAt (s : Shared) (w : World) (led : Bool) (hl : w.params.followText "set-order" = true ∨ led = true) : At w (s.heap.push { cls := .type "set", dict := none, data := .set #[] 0 (.fresh 0 0 led) }) s.heap.objs.size (fun _ => false) { cls := .type "set", dict := none, data := .set #[] 0 (.fresh 0 0 led) } #[] 0 (.fresh 0 0 led) :=
  ⟨Heap.get?_push_size _ rfl, ⟨rfl, rfl, rfl⟩, rfl, fun e he => by simp at he, by simp, fun k => by simp, by decide, by rfl, by simp [SetTable.fresh, Ris], hl⟩
/-- a new set -/
theorem fresh_set {Q : Value → Shared → Prop} (h : ∀ (hp : Heap) o t, (∀ (x : Addr) y, s.heap.get? x = some y → hp.get? x = some y) → At w hp s.heap.objs.size (fun _ => false) o #[] 0 t → t.mask = 7 → t.dummies = #[] → Q (.ref s.heap.objs.size) { s with heap := hp }) : wpAny (model P w) A (newSet (.type "set")) Q E s := by
  unfold newSet setsByText
  refine wpAny_bind (wpAny_bind (wpAny_askSetting (wpAny_pure ?_)))
  dsimp only
  simp only [newObj]
  refine wpAny_bind (wpAny_alloc (wpAny_pure ?_))
  refine h _ _ _ (fun x y e => ?_) (newAt s w _ ?_) rfl rfl
  · exact Heap.get?_push_of_some _ e
  · show _ ∨ (!w.params.followText "set-order") = true
    cases w.params.followText "set-order"
    · exact .inr rfl
    · exact .inl rfl
theorem At.keep {h h' : Heap} {S : Int → Bool} {o : Obj} {es : Array (Int × Value)} {ep : Nat} {t : SetTable} (R : At w h b S o es ep t) (k : ∀ (x : Addr) y, h.get? x = some y → h'.get? x = some y) : At w h' b S o es ep t :=
  ⟨k _ _ R.ho, R.ex, R.hd, R.g, R.nd, R.mem, R.bd, R.fits, R.ris, R.led⟩
/-- a copy -/
theorem copy_at {o : Obj} {es : Array (Int × Value)} {ep : Nat} {t : SetTable} (R : At w s.heap a S o es ep t) (sm : Sm S) (hn : es.size < 62) {Q : Value → Shared → Prop}
    (hQ : ∀ h', (∀ (x : Addr) y, s.heap.get? x = some y → h'.get? x = some y) → SetR w h' s.heap.objs.size S es.size → Q (.ref s.heap.objs.size) { s with heap := h' }) : wpAny (model P w) A (copyOf a) Q E s := by
  unfold copyOf
  refine wpAny_bind (base R.ty ?_)
  refine wpAny_bind (fresh_set fun hp o2 t2 kp R2 hm hd => ?_)
  refine wpAny_bind (wpAny_pure ?_)
  have lt : a < s.heap.objs.size := Heap.lt_size R.ho
  refine wpAny_bind (merge_fresh (s := { s with heap := hp }) R2 hm hd (R.keep kp) sm (Nat.ne_of_lt lt) hn fun h' sb r => ?_)
  exact wpAny_pure (hQ h' (fun x y e => by rw [sb.2 x (Nat.ne_of_lt (Heap.lt_size e))]; exact kp x y e) r)
/-- a copy of an empty set -/
theorem copy_empty {o : Obj} {es : Array (Int × Value)} {ep : Nat} {t : SetTable} (R : At w s.heap a S o es ep t) (h0 : es.size = 0) {Q : Value → Shared → Prop}
    (hQ : ∀ h' o' t', (∀ (x : Addr) y, s.heap.get? x = some y → h'.get? x = some y) → At w h' s.heap.objs.size (fun _ => false) o' #[] 0 t' → t'.mask = 7 → t'.dummies = #[] → Q (.ref s.heap.objs.size) { s with heap := h' }) : wpAny (model P w) A (copyOf a) Q E s := by
  unfold copyOf
  refine wpAny_bind (base R.ty ?_)
  refine wpAny_bind (fresh_set fun hp o2 t2 kp R2 hm hd => ?_)
  refine wpAny_bind (wpAny_pure ?_)
  have lt : a < s.heap.objs.size := Heap.lt_size R.ho
  have Rk := R.keep kp
  rw [setMerge_eq]
  rw [if_neg (by rw [beq_iff_eq]; exact Ne.symm (Nat.ne_of_lt lt))]
  refine wpAny_bind (wpAny_bind (wpAny_setState_of (s := { s with heap := hp }) Rk.ho Rk.hd Rk.fits ?_))
  dsimp only
  rw [if_pos (by simpa using h0)]
  refine wpAny_pure ?_
  exact wpAny_pure (hQ hp _ _ kp R2 hm hd)
theorem none_of_size {h : Heap} {n : Addr} (hn : h.objs.size ≤ n) : h.get? n = none := by
  cases q : h.get? n with
  | none => rfl
  | some o => exact absurd (Heap.lt_size q) (Nat.not_lt.mpr hn)
theorem not_of_zero {o : Obj} {es : Array (Int × Value)} {ep : Nat} {t : SetTable} {h : Heap} (R : At w h a S o es ep t) (h0 : es.size = 0) (k : Int) : S k = false := by
  have e0 : es = #[] := Array.eq_empty_of_size_eq_zero h0
  have := R.mem k
  rw [e0] at this
  cases z : S k with
  | false => rfl
  | true => exact absurd (this.mp z) (by simp)
theorem or_call {o o2 : Obj} {es es2 : Array (Int × Value)} {ep ep2 : Nat} {t t2 : SetTable} (R : At w s.heap a S o es ep t) (sm : Sm S) (R2 : At w s.heap b S' o2 es2 ep2 t2) (sm2 : Sm S') (ne : b ≠ a) (hn : es.size + es2.size < 62) {Q : Value → Shared → Prop}
    (hQ : ∀ h' d c T m, (∀ (x : Addr) y, s.heap.get? x = some y → h'.get? x = some y) → s.heap.get? c = none → SetR w h' c T m → (∀ k, T k = (S k || S' k)) → m < 200 → Q (.ref c) { s with heap := h', drawn := d }) :
    wpAny (model P w) A (call (.builtin "set.__or__") [.ref a, .ref b]) Q E s := by
  refine wpAny_call_entry F.slot_set_or R.ty entry_or ?_ (F.args_set_or_2 _ _)
  unfold Builtin.«frozenset.__or__»
  show wpAny _ _ (slot1 "__or__" ⟨[.ref a, .ref b], []⟩ >>= _) _ _ _
  unfold slot1 slotArgs
  simp only [List.isEmpty_nil, Bool.not_true, Bool.false_eq_true, ↓reduceIte, bind_assoc, List.length_nil, bne_self_eq_false]
  rw [if_neg (by simp)]
  refine wpAny_bind (wpAny_pure ?_)
  dsimp only
  refine wpAny_bind (wpAny_pure ?_)
  dsimp only
  refine wpAny_bind (wpAny_bind (anySet R.ty ?_))
  show wpAny _ _ (isAnySet (.ref b)) _ _ _
  refine anySet R2.ty ?_
  rw [if_neg (by simp)]
  refine wpAny_bind (wpAny_pure ?_)
  refine wpAny_bind ?_
  show wpAny _ _ (copyOf a >>= _) _ _ _
  by_cases h0 : es.size = 0
  · refine wpAny_bind (copy_empty R h0 fun h1 o1 t1 kp R1 hm hd => ?_)
    rw [if_pos (by simpa [bne_iff_ne] using ne)]
    refine wpAny_bind (wpAny_pure ?_)
    refine wpAny_bind (wpAny_holding ?_)
    have R2k := R2.keep kp
    unfold updateFrom
    refine wpAny_bind (anySet (s := { s with heap := h1 }) R2k.ty ?_)
    rw [if_pos rfl]
    refine wpAny_bind (wpAny_pure ?_)
    unfold merge setEpoch
    refine wpAny_bind (wpAny_bind (wpAny_setState_of (s := { s with heap := h1 }) R2k.ho R2k.hd R2k.fits (wpAny_pure ?_)))
    have lt : b < s.heap.objs.size := Heap.lt_size R2.ho
    refine merge_fresh (s := { s with heap := h1 }) R1 hm hd R2k sm2 (Nat.ne_of_lt lt) (by omega) fun h' sb r => ?_
    refine wpAny_pure ?_
    refine wpAny_pure ⟨_, rfl, hQ h' s.drawn _ S' _ (fun x y e => by rw [sb.2 x (Nat.ne_of_lt (Heap.lt_size e))]; exact kp x y e) (none_of_size (Nat.le_refl _)) r (fun k => ?_) (by omega)⟩
    rw [not_of_zero R h0 k]
    rfl
  · refine wpAny_bind (copy_at R sm (by omega) fun h1 kp r1 => ?_)
    obtain ⟨o1, es1, ep1, t1, R1, e1⟩ := at_of r1
    rw [if_pos (by simpa [bne_iff_ne] using ne)]
    refine wpAny_bind (wpAny_pure ?_)
    refine wpAny_bind (wpAny_holding ?_)
    have R2k := R2.keep kp
    unfold updateFrom
    refine wpAny_bind (anySet (s := { s with heap := h1 }) R2k.ty ?_)
    rw [if_pos rfl]
    refine wpAny_bind (wpAny_pure ?_)
    unfold merge setEpoch
    refine wpAny_bind (wpAny_bind (wpAny_setState_of (s := { s with heap := h1 }) R2k.ho R2k.hd R2k.fits (wpAny_pure ?_)))
    have lt : b < s.heap.objs.size := Heap.lt_size R2.ho
    refine merge_into (s := { s with heap := h1 }) R1 (by omega) sm R2k (Nat.ne_of_lt lt) (by omega) fun h' d T m sb r hT hm => ?_
    refine wpAny_pure ?_
    exact wpAny_pure ⟨_, rfl, hQ h' d _ T m (fun x y e => by rw [sb.2 x (Nat.ne_of_lt (Heap.lt_size e))]; exact kp x y e) (none_of_size (Nat.le_refl _)) r hT hm⟩
/-- set | set -/
theorem or_op {n n' : Nat} (R : SetR w s.heap a S n) (sm : Sm S) (R2 : SetR w s.heap b S' n') (sm2 : Sm S') (ne : b ≠ a) (hn : n + n' < 62) {Q : Value → Shared → Prop}
    (hQ : ∀ h' d c T m, (∀ (x : Addr) y, s.heap.get? x = some y → h'.get? x = some y) → s.heap.get? c = none → SetR w h' c T m → (∀ k, T k = (S k || S' k)) → m < 200 → Q (.ref c) { s with heap := h', drawn := d }) :
    wpAny (model P w) A (binaryOp .BitOr (.ref a) (.ref b)) Q E s := by
  obtain ⟨o, es, ep, t, Ra, rfl⟩ := at_of R
  obtain ⟨o2, es2, ep2, t2, Rb, rfl⟩ := at_of R2
  refine wpAny_binaryOp_same (op := .BitOr) (T := "set") Ra.ty Rb.ty F.fills_set_or F.slot_set_or ?_
  exact or_call Ra sm Rb sm2 ne hn fun h' d c T m k1 k2 k3 k4 k5 => ⟨by simp, hQ h' d c T m k1 k2 k3 k4 k5⟩
end
end VS
set_option Elab.async false
set_option linter.all false
set_option maxRecDepth 100000
namespace VS
open PySem PyProof.Rows L2 Builtin.Frozenset
theorem eraseAt_list {α : Type} (xs : Array α) (p : Nat) : (SetTable.eraseAt xs p).toList = xs.toList.eraseIdx p := by
  unfold SetTable.eraseAt
  rw [List.eraseIdx_eq_take_drop_succ]
  simp
  exact List.take_of_length_le (by simp)
theorem insertAt_size {α : Type} (xs : Array α) (p : Nat) (x : α) : (SetTable.insertAt xs p x).size = xs.size + 1 := by
  unfold SetTable.insertAt
  simp
  omega
theorem perm_eraseIdx {α : Type} : ∀ {l : List α} {i : Nat} (h : i < l.length), l.Perm (l[i] :: l.eraseIdx i)
  | x :: l, 0, _ => List.Perm.refl _
  | x :: l, i + 1, h => by
    have ih := perm_eraseIdx (l := l) (i := i) (by simpa using h)
    exact (ih.cons x).trans (List.Perm.swap _ _ _)
section
variable {P : Program} {w : World} {A : Around} {E : Value → Shared → Prop} {s : Shared} {a b : Addr} {S S' : Int → Bool} {n n' : Nat}
theorem drop_ok {t : SetTable} {n i : Nat} (hf : t.fits n = true) (hi : i < n) (r : Ris t.place.toList) : (t.drop i).fits (n - 1) = true ∧ Ris (t.drop i).place.toList ∧ (t.drop i).led = t.led := by
  unfold SetTable.fits at hf
  rw [Bool.and_eq_true, beq_iff_eq, decide_eq_true_eq] at hf
  obtain ⟨hp, hfl⟩ := hf
  unfold SetTable.fill at hfl
  have hi' : i < t.place.size := by omega
  unfold SetTable.drop
  rw [Array.getElem?_eq_getElem hi']
  dsimp only
  have e1 : (SetTable.eraseAt t.place i).size = n - 1 := by
    rw [← Array.length_toList, eraseAt_list, List.length_eraseIdx_of_lt (by simpa using hi'), Array.length_toList, hp]
  refine ⟨?_, ?_, rfl⟩
  · unfold SetTable.fits SetTable.fill
    rw [Bool.and_eq_true, beq_iff_eq, decide_eq_true_eq]
    refine ⟨e1, ?_⟩
    rw [e1, insertAt_size]
    show _ ≤ t.mask
    omega
  · rw [eraseAt_list]
    exact List.Pairwise.sublist (List.eraseIdx_sublist _ _) r
theorem discard_at {k : Int} {tk : Tok} {Q : Bool → Shared → Prop} (R0 : SetR w s.heap a S n) (hn : n < 4000)
    (hQ : ∀ h' m, Heap.SameBut a s.heap h' → SetR w h' a (fun j => S j && !decide (j = k)) m → m ≤ n → Q (S k) { s with heap := h' }) :
    wpAny (model P w) A (setDiscardHashed a (.int k tk) ((intKind P w).hash k)) Q E s := by
  obtain ⟨o, es, ep, t, R, rfl⟩ := at_of R0
  have hkey : (intKind P w).is k (.int k tk) = true := intKind_is P w k tk
  have hsc : (Value.int k tk).scannable = true := rfl
  have hel : ElemsOf (intKind P w) es.toList := good_elems R.g
  unfold setDiscardHashed setFind setFindIn
  refine wpAny_bind ?_
  refine wpAny_bind (wpAny_setState_of R.ho R.hd R.fits ?_)
  dsimp only
  rw [byScan_of hsc R.bd hel]
  simp only [↓reduceIte]
  refine wpAny_bind (wpAny_rule ?_)
  refine wpAny_bind (wpAny_setScan_of hkey R.ho R.hd R.fits hel ?_)
  cases hfi : List.findIdx? (fun e => (intKind P w).is k e.2) es.toList with
  | none =>
    dsimp only
    refine wpAny_pure ?_
    dsimp only
    have hnk : k ∉ es.toList.map keyOf := fun z => by
      obtain ⟨e, he, q⟩ := (good_mem (P := P) (w := w) R.g k).1 z
      have c := List.findIdx?_eq_none_iff.mp hfi e he
      rw [q] at c
      cases c
    have hSk : S k = false := by
      cases q : S k with
      | false => rfl
      | true => exact absurd ((R.mem k).1 q) hnk
    refine wpAny_pure ?_
    have q := hQ s.heap es.size (Heap.SameBut.refl _ _) (R.setR.congr fun j => ?_) (Nat.le_refl _)
    · rw [hSk] at q
      exact q
    · by_cases e : j = k
      · subst e; rw [hSk]; rfl
      · simp [e]
  | some j =>
    dsimp only
    obtain ⟨hj, pj, _⟩ := List.findIdx?_eq_some_iff_getElem.mp hfi
    have hkj : keyOf es.toList[j] = k := (good_is (P := P) (w := w) (R.g _ (List.getElem_mem hj)) k).1 pj
    have hSk : S k = true := (R.mem k).2 ((good_mem (P := P) (w := w) R.g k).2 ⟨es.toList[j], List.getElem_mem hj, pj⟩)
    refine wpAny_pure ?_
    dsimp only
    rw [Nat.zero_add]
    refine wpAny_bind (wpAny_setState_of R.ho R.hd R.fits ?_)
    dsimp only
    have hjs : j < es.size := by simpa using hj
    have esz : (SetTable.eraseAt es j).size = es.size - 1 := by
      rw [← Array.length_toList, eraseAt_list, List.length_eraseIdx_of_lt hj, Array.length_toList]
    obtain ⟨f1, f2, f3⟩ := drop_ok R.fits hjs R.ris
    have pm := perm_eraseIdx hj
    have pk := pm.map keyOf
    rw [List.map_cons, hkj] at pk
    have nd := pk.nodup_iff.mp R.nd
    rw [List.nodup_cons] at nd
    refine wpAny_bind (wpAny_storeSet_of R.ho R.hd ?_ (size_line (by rw [esz]; have := R.bd; omega)))
    refine wpAny_bind (wpAny_point ?_)
    refine wpAny_pure ?_
    have q := hQ _ (SetTable.eraseAt es j).size (Heap.SameBut.update ..) (At.setR (es := SetTable.eraseAt es j) (t := t.drop j) ⟨store_at R.ho R.hd, ⟨R.ex.1, R.ex.2.1, R.ex.2.2⟩, rfl, ?_, ?_, ?_, by rw [esz]; have := R.bd; omega, by rw [esz]; exact f1, f2, by rw [f3]; exact R.led⟩) (by rw [esz]; omega)
    · rw [hSk] at q
      exact q
    · intro e he
      rw [eraseAt_list] at he
      exact R.g e (List.mem_of_mem_eraseIdx he)
    · rw [eraseAt_list]
      exact nd.2
    · intro i
      rw [eraseAt_list, Bool.and_eq_true, R.mem i, pk.mem_iff, List.mem_cons]
      by_cases e : i = k
      · subst e
        simp [nd.1]
      · simp [e]
/-- what is turned over from a walk -/
structure Over (w : World) (s : Shared) (a : Addr) (T : Int → Bool) (rest : List (Int × Value)) (s' : Shared) : Prop where
  ex : ∃ h' d S1 m, s' = { s with heap := h', drawn := d } ∧ Heap.SameBut a s.heap h' ∧ SetR w h' a S1 m ∧ (∀ k, xor (S1 k) (decide (k ∈ rest.map keyOf)) = T k) ∧ m + rest.length < 200
  good : ∀ e ∈ rest, GoodE e
  nd : (rest.map keyOf).Nodup
theorem xor_call {o o2 : Obj} {es es2 : Array (Int × Value)} {ep ep2 : Nat} {t t2 : SetTable} (R : At w s.heap a S o es ep t) (R2 : At w s.heap b S' o2 es2 ep2 t2) (sm2 : Sm S') (hn : es.size + es2.size < 62) {Q : Value → Shared → Prop}
    (hQ : ∀ h' d c T m, (∀ (x : Addr) y, s.heap.get? x = some y → h'.get? x = some y) → s.heap.get? c = none → SetR w h' c T m → (∀ k, T k = xor (S k) (S' k)) → m < 200 → Q (.ref c) { s with heap := h', drawn := d }) :
    wpAny (model P w) A (call (.builtin "set.__xor__") [.ref a, .ref b]) Q E s := by
  refine wpAny_call_entry F.slot_set_xor R.ty entry_xor ?_ (F.args_set_xor_2 _ _)
  unfold Builtin.«frozenset.__xor__»
  show wpAny _ _ (slot1 "__xor__" ⟨[.ref a, .ref b], []⟩ >>= _) _ _ _
  unfold slot1 slotArgs
  simp only [List.isEmpty_nil, Bool.not_true, Bool.false_eq_true, ↓reduceIte, bind_assoc, List.length_nil, bne_self_eq_false]
  rw [if_neg (by simp)]
  refine wpAny_bind (wpAny_pure ?_)
  dsimp only
  refine wpAny_bind (wpAny_pure ?_)
  dsimp only
  refine wpAny_bind (wpAny_bind (anySet R.ty ?_))
  show wpAny _ _ (isAnySet (.ref b)) _ _ _
  refine anySet R2.ty ?_
  rw [if_neg (by simp)]
  refine wpAny_bind (wpAny_pure ?_)
  refine wpAny_bind ?_
  show wpAny _ _ (baseOf a >>= _) _ _ _
  refine wpAny_bind (base R.ty ?_)
  have la : a < s.heap.objs.size := Heap.lt_size R.ho
  have lb : b < s.heap.objs.size := Heap.lt_size R2.ho
  unfold newFrom
  refine wpAny_bind (wpAny_bind (fresh_set fun h1 o1 t1 kp R1 hm hd => ?_))
  refine wpAny_bind (wpAny_pure ?_)
  have R2k := R2.keep kp
  refine wpAny_bind (wpAny_holding ?_)
  unfold updateFrom
  refine wpAny_bind (anySet (s := { s with heap := h1 }) R2k.ty ?_)
  rw [if_pos rfl]
  refine wpAny_bind (wpAny_pure ?_)
  unfold merge setEpoch
  refine wpAny_bind (wpAny_bind (wpAny_setState_of (s := { s with heap := h1 }) R2k.ho R2k.hd R2k.fits (wpAny_pure ?_)))
  refine merge_fresh (s := { s with heap := h1 }) R1 hm hd R2k sm2 (Nat.ne_of_lt lb) (by omega) fun h2 sb2 r2 => ?_
  refine wpAny_pure ?_
  have kp2 : ∀ (x : Addr) y, s.heap.get? x = some y → h2.get? x = some y := fun x y e => by rw [sb2.2 x (Nat.ne_of_lt (Heap.lt_size e))]; exact kp x y e
  have Rk := R.keep kp2
  refine wpAny_bind (wpAny_pure ?_)
  refine wpAny_bind (wpAny_holding ?_)
  unfold symmetricDifferenceUpdate
  rw [if_neg (by rw [beq_iff_eq]; intro z; injection z with z; exact absurd z (Nat.ne_of_lt la))]
  dsimp only
  refine wpAny_bind (wpAny_typeOf (s := { s with heap := h2 }) Rk.ty ?_)
  rw [if_neg (by rw [beq_iff_eq]; intro z; injection z with z; exact absurd z (by decide))]
  refine wpAny_bind (anySet (s := { s with heap := h2 }) Rk.ty ?_)
  rw [if_pos rfl]
  refine wpAny_bind (wpAny_pure ?_)
  refine wpAny_bind (wpAny_pure ?_)
  unfold setEpoch
  refine wpAny_bind (wpAny_bind (wpAny_setState_of (s := { s with heap := h2 }) Rk.ho Rk.hd Rk.fits (wpAny_pure ?_)))
  refine wpAny_holding ?_
  obtain ⟨o3, es3, ep3, t3, R3, e3⟩ := at_of r2
  refine wpAny_bind (unseen_at (s := { s with heap := h2 }) Rk R3 (Nat.ne_of_lt la) fun es' h3 d3 pm sb3 r3 => ?_)
  have lenE : es'.toList.length = es.size := by rw [pm.length_eq, Array.length_toList]
  refine wpAny_bind (wpAny_mono (wpAny_forIn_array' _ (fun rest (_ : PUnit) s' => Over w { s with heap := h2 } s.heap.objs.size (fun k => xor (S k) (S' k)) rest s') (fun _ s' => Over w { s with heap := h2 } s.heap.objs.size (fun k => xor (S k) (S' k)) [] s') ?_ (fun _ _ q => q) es' _ ⟨⟨h3, d3, S', es3.size, rfl, sb3, r3, fun k => ?_, by rw [lenE]; omega⟩, fun e he => R.g e (pm.mem_iff.mp he), (pm.map keyOf).nodup_iff.mpr R.nd⟩) (fun _ s' q => ?_) (fun _ _ z => z))
  · rintro ⟨hh, x⟩ rest u s' ⟨⟨h4, d4, S1, m, rfl, sb4, R4, hT, hm⟩, hg, hnd⟩
    obtain ⟨k, tk, e1, e2⟩ := hg _ List.mem_cons_self
    dsimp only at e1 e2 ⊢
    subst e1 e2
    rw [List.length_cons] at hm
    rw [List.map_cons, List.nodup_cons] at hnd
    have ek : keyOf (hashInt k, Value.int k tk) = k := rfl
    rw [ek] at hnd
    refine wpAny_bind (wpAny_holding ?_)
    refine wpAny_bind (discard_at (s := { s with heap := h4, drawn := d4 }) R4 (by omega) fun h5 m5 sb5 R5 hm5 => ?_)
    have tail : ∀ h6 S6 m6, Heap.SameBut s.heap.objs.size h2 h6 → SetR w h6 s.heap.objs.size S6 m6 → (∀ j, S6 j = xor (S1 j) (decide (j = k))) → m6 + rest.length < 200 → ∀ (Q' : ForInStep PUnit → Shared → Prop), (∀ s', Over w { s with heap := h2 } s.heap.objs.size (fun k => xor (S k) (S' k)) rest s' → Q' (.yield PUnit.unit) s') →
        wpAny (model P w) A.in1 (do
          unchanged (toString "frozenset." ++ toString "__xor__") a ep
          pure (ForInStep.yield PUnit.unit)) Q' E { s with heap := h6, drawn := d4 } := by
      intro h6 S6 m6 sb6 R6 hS6 hm6 Q' hQ'
      have Rb6 : At w h6 a S o es ep t := Rk.other sb6 (Nat.ne_of_lt la)
      refine wpAny_bind (unchanged_at (s := { s with heap := h6, drawn := d4 }) Rb6 ?_)
      refine wpAny_pure (hQ' _ ⟨⟨h6, d4, S6, m6, rfl, sb6, R6, fun j => ?_, hm6⟩, fun e he => hg e (List.mem_cons_of_mem _ he), hnd.2⟩)
      have := hT j
      rw [List.map_cons, ek] at this
      rw [← this, hS6 j]
      by_cases q1 : j = k
      · subst q1
        have := hnd.1
        simp [this]
      · by_cases q2 : j ∈ rest.map keyOf
        · simp [q1, List.mem_cons]
        · simp [q1, List.mem_cons]
    have sb45 : Heap.SameBut s.heap.objs.size h2 h5 := sb4.trans sb5
    cases q : S1 k with
    | true =>
      rw [if_neg (by simp)]
      refine wpAny_pure ?_
      refine tail h5 _ m5 sb45 R5 (fun j => ?_) (by omega) _ (fun _ z => z)
      by_cases e : j = k
      · subst e; simp [q]
      · simp [e]
    | false =>
      rw [if_pos (by simp)]
      refine wpAny_bind (setR_add_hashed (s := { s with heap := h5, drawn := d4 }) R5 (by unfold scanBound; omega) fun h6 sb6 R6 => ?_)
      refine wpAny_pure ?_
      refine tail h6 _ _ (sb45.trans sb6) R6 (fun j => ?_) (by split <;> omega) _ (fun _ z => z)
      by_cases e : j = k
      · subst e; simp [q]
      · simp [e]
  · have hk : decide (k ∈ es'.toList.map keyOf) = S k := by
      rw [Bool.eq_iff_iff, decide_eq_true_eq, R.mem k]
      exact (pm.map keyOf).mem_iff
    rw [hk, Bool.xor_comm]
  · obtain ⟨⟨h4, d4, S1, m, rfl, sb4, R4, hT, hm⟩, _, _⟩ := q
    refine wpAny_pure ?_
    refine wpAny_pure ?_
    exact wpAny_pure ⟨_, rfl, hQ h4 d4 _ S1 m (fun x y e => by rw [sb4.2 x (Nat.ne_of_lt (Heap.lt_size e))]; exact kp2 x y e) (none_of_size (Nat.le_refl _)) R4 (fun k => by have := hT k; simpa using this) (by simpa using hm)⟩
/-- set ^ set -/
theorem xor_op {n n' : Nat} (R : SetR w s.heap a S n) (R2 : SetR w s.heap b S' n') (sm2 : Sm S') (hn : n + n' < 62) {Q : Value → Shared → Prop}
    (hQ : ∀ h' d c T m, (∀ (x : Addr) y, s.heap.get? x = some y → h'.get? x = some y) → s.heap.get? c = none → SetR w h' c T m → (∀ k, T k = xor (S k) (S' k)) → m < 200 → Q (.ref c) { s with heap := h', drawn := d }) :
    wpAny (model P w) A (binaryOp .BitXor (.ref a) (.ref b)) Q E s := by
  obtain ⟨o, es, ep, t, Ra, rfl⟩ := at_of R
  obtain ⟨o2, es2, ep2, t2, Rb, rfl⟩ := at_of R2
  refine wpAny_binaryOp_same (op := .BitXor) (T := "set") Ra.ty Rb.ty F.fills_set_xor F.slot_set_xor ?_
  exact xor_call Ra Rb sm2 hn fun h' d c T m k1 k2 k3 k4 k5 => ⟨by simp, hQ h' d c T m k1 k2 k3 k4 k5⟩
end
end VS
set_option Elab.async false
set_option maxRecDepth 100000
set_option maxHeartbeats 4000000
namespace VF
open PySem PySem.Spec PyProof.Rows L2

/-- a list that is read at a, apart from F -/
def RdL (K : PySem.W.Frag) (F : Addr → Prop) (H : Hp) (a : Addr) (vs : List V) : Prop :=
  (¬ F a ∧ Rd H a (.lst vs)) ∨ ∃ (o : Obj) (its : Array Value) (n : Nat), K.lookup a = some o ∧ o.cls = .type "list" ∧ o.dict = none ∧ o.data = .seq its n ∧ its.size ≤ sizeLine ∧ Vals vs its.toList
def RdT (K : PySem.W.Frag) (F : Addr → Prop) (H : Hp) (a : Addr) (vs : List V) : Prop :=
  (¬ F a ∧ ∃ o : Obj, o.dict = none ∧ H a = some (.frz o (.tup vs))) ∨ ∃ (o : Obj) (its : Array Value) (n : Nat), K.lookup a = some o ∧ o.cls = .type "tuple" ∧ o.dict = none ∧ o.data = .seq its n ∧ its.size ≤ sizeLine ∧ Vals vs its.toList
/-- a tracked list, apart from F -/
def TrL (F : Addr → Prop) (H : Hp) (a : Addr) (vs : List V) : Prop := ¬ F a ∧ H a = some (.lst vs)
theorem TrL.sq {K F H a vs} (h : TrL F H a vs) : SqL K H a vs := .inl (.inl h.2)
theorem RdL.sq {K F H a vs} (h : RdL K F H a vs) : SqL K H a vs := h.elim (fun z => .inl z.2) .inr
theorem RdT.sq {K F H a vs} (h : RdT K F H a vs) : SqT K H a vs := h.elim (fun ⟨_, o, _, z⟩ => .inl (.inr ⟨o, z⟩)) (fun ⟨o, its, n, h1, h2, _, h4⟩ => .inr ⟨o, its, n, h1, h2, h4⟩)

mutual
def Rep (K : PySem.W.Frag) (F : Addr → Prop) (H : Hp) : PyData → V → Prop
  | .none, v => v = .non
  | .bool b, v => v = .bl b
  | .int i, v => v = .int i
  | .str x, v => v = .str x
  | .list ds, v => ∃ a vs, v = .ref a ∧ TrL F H a vs ∧ Reps K F H ds vs
  | .tuple ds, v => ∃ a vs, v = .ref a ∧ RdT K F H a vs ∧ Reps K F H ds vs
  | .dict _, _ => False
def Reps (K : PySem.W.Frag) (F : Addr → Prop) (H : Hp) : List PyData → List V → Prop
  | [], vs => vs = []
  | d :: ds, vs => ∃ v r, vs = v :: r ∧ Rep K F H d v ∧ Reps K F H ds r
end

/-- all that stands apart from F stays, tables aside -/
def Nw (H : Hp) (a : Addr) : Prop := ∀ o, H a = some o → ∃ ps, o = .tbl ps
theorem Nw.of {H : Hp} {a : Addr} (h : H a = none) : Nw H a := fun o e => by rw [h] at e; cases e
def Keep (F : Addr → Prop) (H H' : Hp) : Prop := ∀ b o, H b = some o → ¬ F b → (∀ ps, o ≠ .tbl ps) → H' b = some o
def F0 : Addr → Prop := fun _ => False
theorem Keep.refl {F H} : Keep F H H := fun _ _ h _ _ => h
theorem Keep.trans {F H H1 H2} (a : Keep F H H1) (b : Keep F H1 H2) : Keep F H H2 := fun c o h n m => b c o (a c o h n m) n m
theorem Keep.mono {F F' : Addr → Prop} {H H'} (k : Keep F H H') (h : ∀ a, F a → F' a) : Keep F' H H' := fun b o e n m => k b o e (fun z => n (h b z)) m
theorem Keep.new {F H p o} (h : H p = none) : Keep F H (upd H p o) := fun b u e _ _ => by rw [upd_ne (ne_of_none e h)]; exact e
theorem Keep.put {F : Addr → Prop} {H p o} (h : F p) : Keep F H (upd H p o) := fun b u e n _ => by
  rw [upd_ne (fun z => n (by rw [z]; exact h))]; exact e

section
variable {K : PySem.W.Frag} {F F' : Addr → Prop} {H H' : Hp}
theorem Rd.keep {a : Addr} {u : HO} (r : Rd H a u) (nf : ¬ F a) (k : Keep F H H') (nt : ∀ ps, u ≠ .tbl ps) : Rd H' a u := by
  rcases r with r | ⟨o, r⟩
  · exact .inl (k a _ r nf nt)
  · exact .inr ⟨o, k a _ r nf (fun ps z => by cases z)⟩
theorem RdL.keep {a vs} (h : RdL K F H a vs) (k : Keep F H H') : RdL K F H' a vs := h.elim (fun z => .inl ⟨z.1, VF.Rd.keep z.2 z.1 k (fun ps z => by cases z)⟩) .inr
theorem RdT.keep {a vs} (h : RdT K F H a vs) (k : Keep F H H') : RdT K F H' a vs := h.elim (fun ⟨n, o, d, z⟩ => .inl ⟨n, o, d, k _ _ z n (fun ps z => by cases z)⟩) .inr
theorem RdL.weak {a vs} (h : RdL K F H a vs) (k : ∀ a, F' a → F a) : RdL K F' H a vs := h.elim (fun z => .inl ⟨fun q => z.1 (k a q), z.2⟩) .inr
theorem RdT.weak {a vs} (h : RdT K F H a vs) (k : ∀ a, F' a → F a) : RdT K F' H a vs := h.elim (fun z => .inl ⟨fun q => z.1 (k a q), z.2⟩) .inr
theorem Rd.ne {a p : Addr} {u : HO} (r : Rd H a u) (h : Nw H p) (nt : ∀ ps, u ≠ .tbl ps) : a ≠ p := by
  rintro rfl
  rcases r with r | ⟨o, r⟩
  · obtain ⟨ps, e⟩ := h _ r
    exact nt ps e
  · obtain ⟨ps, e⟩ := h _ r
    cases e
theorem TrL.keep {a vs} (h : TrL F H a vs) (k : Keep F H H') : TrL F H' a vs := ⟨h.1, k a _ h.2 h.1 (fun ps z => by cases z)⟩
theorem TrL.weak {a vs} (h : TrL F H a vs) (k : ∀ a, F' a → F a) : TrL F' H a vs := ⟨fun q => h.1 (k a q), h.2⟩
def Fadd (F : Addr → Prop) (p : Addr) : Addr → Prop := fun a => F a ∨ a = p
theorem RdL.add {a vs p} (h : RdL K F H a vs) (n : Nw H p) : RdL K (Fadd F p) H a vs := h.elim (fun z => .inl ⟨fun q => q.elim z.1 (VF.Rd.ne z.2 n (fun ps z => by cases z)), z.2⟩) .inr
theorem TrL.add {a vs p} (h : TrL F H a vs) (n : Nw H p) : TrL (Fadd F p) H a vs := ⟨fun q => q.elim h.1 (VF.Rd.ne (.inl h.2) n (fun ps z => by cases z)), h.2⟩
theorem RdT.add {a vs p} (h : RdT K F H a vs) (n : Nw H p) : RdT K (Fadd F p) H a vs := h.elim (fun ⟨m, o, d, z⟩ => .inl ⟨fun q => q.elim m (VF.Rd.ne (.inr ⟨o, z⟩) n (fun ps z => by cases z)), o, d, z⟩) .inr

mutual
theorem Rep.keep (k : Keep F H H') : ∀ (d : PyData) (v : V), Rep K F H d v → Rep K F H' d v
  | .none, _, h => h
  | .bool _, _, h => h
  | .int _, _, h => h
  | .str _, _, h => h
  | .list ds, v, h => by obtain ⟨a, vs, e, r, q⟩ := h; exact ⟨a, vs, e, r.keep k, Reps.keep k ds vs q⟩
  | .tuple ds, v, h => by obtain ⟨a, vs, e, r, q⟩ := h; exact ⟨a, vs, e, r.keep k, Reps.keep k ds vs q⟩
  | .dict _, _, h => h.elim
theorem Reps.keep (k : Keep F H H') : ∀ (ds : List PyData) (vs : List V), Reps K F H ds vs → Reps K F H' ds vs
  | [], _, h => h
  | d :: ds, vs, h => by obtain ⟨v, r, e, h1, h2⟩ := h; exact ⟨v, r, e, Rep.keep k d v h1, Reps.keep k ds r h2⟩
end
mutual
theorem Rep.weak (k : ∀ a, F' a → F a) : ∀ (d : PyData) (v : V), Rep K F H d v → Rep K F' H d v
  | .none, _, h => h
  | .bool _, _, h => h
  | .int _, _, h => h
  | .str _, _, h => h
  | .list ds, v, h => by obtain ⟨a, vs, e, r, q⟩ := h; exact ⟨a, vs, e, r.weak k, Reps.weak k ds vs q⟩
  | .tuple ds, v, h => by obtain ⟨a, vs, e, r, q⟩ := h; exact ⟨a, vs, e, r.weak k, Reps.weak k ds vs q⟩
  | .dict _, _, h => h.elim
theorem Reps.weak (k : ∀ a, F' a → F a) : ∀ (ds : List PyData) (vs : List V), Reps K F H ds vs → Reps K F' H ds vs
  | [], _, h => h
  | d :: ds, vs, h => by obtain ⟨v, r, e, h1, h2⟩ := h; exact ⟨v, r, e, Rep.weak k d v h1, Reps.weak k ds r h2⟩
end
mutual
theorem Rep.add {p : Addr} (n : Nw H p) : ∀ (d : PyData) (v : V), Rep K F H d v → Rep K (Fadd F p) H d v
  | .none, _, h => h
  | .bool _, _, h => h
  | .int _, _, h => h
  | .str _, _, h => h
  | .list ds, v, h => by obtain ⟨a, vs, e, r, q⟩ := h; exact ⟨a, vs, e, r.add n, Reps.add n ds vs q⟩
  | .tuple ds, v, h => by obtain ⟨a, vs, e, r, q⟩ := h; exact ⟨a, vs, e, r.add n, Reps.add n ds vs q⟩
  | .dict _, _, h => h.elim
theorem Reps.add {p : Addr} (n : Nw H p) : ∀ (ds : List PyData) (vs : List V), Reps K F H ds vs → Reps K (Fadd F p) H ds vs
  | [], _, h => h
  | d :: ds, vs, h => by obtain ⟨v, r, e, h1, h2⟩ := h; exact ⟨v, r, e, Rep.add n d v h1, Reps.add n ds r h2⟩
end
mutual
theorem Rep.dp : ∀ (d : PyData) (v : V), Rep K F H d v → Dp K H v d
  | .none, _, h => by cases h; exact .non
  | .bool _, _, h => by cases h; exact .bl _
  | .int _, _, h => by cases h; exact .int _
  | .str _, _, h => by cases h; exact .str _
  | .list ds, v, h => by obtain ⟨a, vs, e, r, q⟩ := h; subst e; exact .lst r.sq (Reps.dp ds vs q)
  | .tuple ds, v, h => by obtain ⟨a, vs, e, r, q⟩ := h; subst e; exact .tup r.sq (Reps.dp ds vs q)
  | .dict _, _, h => h.elim
theorem Reps.dp : ∀ (ds : List PyData) (vs : List V), Reps K F H ds vs → DpAll K H vs ds
  | [], _, h => by cases h; exact .nil
  | d :: ds, vs, h => by obtain ⟨v, r, e, h1, h2⟩ := h; subst e; exact .cons (Rep.dp d v h1) (Reps.dp ds r h2)
end
theorem Reps.len : ∀ {ds : List PyData} {vs : List V}, Reps K F H ds vs → vs.length = ds.length
  | [], _, h => by cases h; rfl
  | d :: ds, vs, h => by obtain ⟨v, r, e, h1, h2⟩ := h; subst e; simp [Reps.len h2]
theorem Reps.get : ∀ {ds : List PyData} {vs : List V} {i : Nat} {d : PyData}, Reps K F H ds vs → ds[i]? = some d → ∃ v, vs[i]? = some v ∧ Rep K F H d v
  | [], _, _, _, h, e => by simp at e
  | d :: ds, vs, 0, d', h, e => by obtain ⟨v, r, e2, h1, h2⟩ := h; subst e2; simp at e; subst e; exact ⟨v, by simp, h1⟩
  | d :: ds, vs, i + 1, d', h, e => by
    obtain ⟨v, r, e2, h1, h2⟩ := h; subst e2
    obtain ⟨w, h3, h4⟩ := Reps.get (i := i) h2 (by simpa using e)
    exact ⟨w, by simpa using h3, h4⟩
theorem Reps.get' : ∀ {ds : List PyData} {vs : List V} {i : Nat} {v : V}, Reps K F H ds vs → vs[i]? = some v → ∃ d, ds[i]? = some d ∧ Rep K F H d v
  | [], _, _, _, h, e => by cases h; simp at e
  | d :: ds, vs, 0, v', h, e => by obtain ⟨v, r, e2, h1, h2⟩ := h; subst e2; simp at e; subst e; exact ⟨d, by simp, h1⟩
  | d :: ds, vs, i + 1, v', h, e => by
    obtain ⟨v, r, e2, h1, h2⟩ := h; subst e2
    obtain ⟨w, h3, h4⟩ := Reps.get' (i := i) h2 (by simpa using e)
    exact ⟨w, by simpa using h3, h4⟩
theorem Reps.app : ∀ {ds es : List PyData} {vs ws : List V}, Reps K F H ds vs → Reps K F H es ws → Reps K F H (ds ++ es) (vs ++ ws)
  | [], _, _, _, h, g => by cases h; exact g
  | d :: ds, es, vs, ws, h, g => by obtain ⟨v, r, e, h1, h2⟩ := h; subst e; exact ⟨v, r ++ ws, rfl, h1, Reps.app h2 g⟩
theorem Reps.take : ∀ (n : Nat) {ds : List PyData} {vs : List V}, Reps K F H ds vs → Reps K F H (ds.take n) (vs.take n)
  | 0, _, _, _ => rfl
  | n + 1, [], _, h => by cases h; rfl
  | n + 1, d :: ds, vs, h => by obtain ⟨v, r, e, h1, h2⟩ := h; subst e; exact ⟨v, r.take n, rfl, h1, Reps.take n h2⟩
theorem Reps.drop : ∀ (n : Nat) {ds : List PyData} {vs : List V}, Reps K F H ds vs → Reps K F H (ds.drop n) (vs.drop n)
  | 0, _, _, h => h
  | n + 1, [], _, h => by cases h; rfl
  | n + 1, d :: ds, vs, h => by obtain ⟨v, r, e, h1, h2⟩ := h; subst e; exact Reps.drop n h2
theorem Reps.rev : ∀ {ds : List PyData} {vs : List V}, Reps K F H ds vs → Reps K F H ds.reverse vs.reverse
  | [], _, h => by cases h; rfl
  | d :: ds, vs, h => by
    obtain ⟨v, r, e, h1, h2⟩ := h; subst e
    rw [List.reverse_cons, List.reverse_cons]
    exact Reps.app (Reps.rev h2) ⟨v, [], rfl, h1, rfl⟩
theorem Reps.one {d : PyData} {v : V} (h : Rep K F H d v) : Reps K F H [d] [v] := ⟨v, [], rfl, h, rfl⟩
theorem Reps.set : ∀ {ds : List PyData} {vs : List V} {d : PyData} {v : V} (i : Nat), Reps K F H ds vs → Rep K F H d v → Reps K F H (ds.set i d) (vs.set i v)
  | [], _, _, _, _, h, _ => by cases h; rfl
  | d :: ds, vs, d', v', 0, h, g => by obtain ⟨v, r, e, h1, h2⟩ := h; subst e; exact ⟨v', r, rfl, g, h2⟩
  | d :: ds, vs, d', v', i + 1, h, g => by obtain ⟨v, r, e, h1, h2⟩ := h; subst e; exact ⟨v, r.set i v', rfl, h1, Reps.set i h2 g⟩
theorem Reps.eraseIdx : ∀ {ds : List PyData} {vs : List V} (i : Nat), Reps K F H ds vs → Reps K F H (ds.eraseIdx i) (vs.eraseIdx i)
  | [], _, _, h => by cases h; rfl
  | d :: ds, vs, 0, h => by obtain ⟨v, r, e, h1, h2⟩ := h; subst e; exact h2
  | d :: ds, vs, i + 1, h => by obtain ⟨v, r, e, h1, h2⟩ := h; subst e; exact ⟨v, r.eraseIdx i, rfl, h1, Reps.eraseIdx i h2⟩
theorem Reps.ints : ∀ {ns : List Int} {vs : List V}, Reps K F H (ns.map PyData.int) vs → vs = ns.map V.int
  | [], _, h => h
  | n :: ns, vs, h => by obtain ⟨v, r, e, h1, h2⟩ := h; cases h1; rw [e, Reps.ints h2]; rfl
theorem Reps.of_ints : ∀ (ns : List Int), Reps K F H (ns.map PyData.int) (ns.map V.int)
  | [] => rfl
  | n :: ns => ⟨_, _, rfl, rfl, Reps.of_ints ns⟩
end

/-! ### new tuples, known as objects -/
section
variable {X : Cx} {pins : List (Addr × Obj)} {σ : L2.St} {H : Hp} {s : Shared}
abbrev tupO (its : List Value) : Obj := { cls := .type "tuple", data := .seq its.toArray }
theorem frz_new {h : Heap} {its : List Value} {vs : List V} {P : Program} {w : World} (rv : Vals vs its) (hz : vs.length ≤ sizeLine) : ObjOk P w (upd H h.objs.size (.frz (tupO its) (.tup vs))) (h.push (tupO its)) h.objs.size (.frz (tupO its) (.tup vs)) :=
  ⟨Heap.get?_push_size _ rfl, hz, its, rv, IsTup.new _ _⟩
theorem Inv.tfz {its : List Value} {vs : List V} {t' : Nat} (I : Inv X pins σ H s) (rv : Vals vs its) (hz : vs.length ≤ sizeLine) :
    Inv X pins σ (upd H s.heap.objs.size (.frz (tupO its) (.tup vs))) { s with heap := s.heap.push (tupO its), toks := t' } :=
  I.laid (t' := t') (fun _ _ q => Heap.get?_push_of_some _ q) (Nat.le_refl _) (frz_new rv hz)
/-- a new tuple is handed on -/
def NewT (H : Hp) (vs : List V) (Q : VK) : Prop := ∀ p o, H p = none → o.dict = none → Q (.ref p) (upd H p (.frz o (.tup vs)))
def tTupF (t : TA) : TE := fun σ H Q => t σ H fun xs H1 => xs.length ≤ sizeLine ∧ NewT H1 xs Q
theorem pe_tupF {es : List Expr} {t : TA} {pos : Pos} {x1} (h : PA X es t) : PE X (.Tuple es x1 pos) (tTupF t) := by
  refine ⟨fun pins s σ H Q I hq => ?_⟩
  refine wpAny_Tuple_spliced (thn (h.run pos pins s σ H _ I hq) fun us s1 ⟨xs, H1, I1, r, z, q⟩ => ⟨by rw [← r.length]; exact z, ?_⟩)
  exact ⟨.ref s1.heap.objs.size, _, VF.Inv.tfz (t' := s1.toks) I1 r z, rfl, q _ _ (I1.hok.fresh (Nat.le_refl _)) rfl⟩
def rCatF (K : PySem.W.Frag) : R2 := fun x y H Q => ∃ a b xs ys, x = .ref a ∧ y = .ref b ∧ SqT K H a xs ∧ SqT K H b ys ∧ xs.length + ys.length ≤ sizeLine ∧
  (xs = [] → Q (.ref b) H) ∧ (xs ≠ [] → ys = [] → Q (.ref a) H) ∧ (xs ≠ [] → ys ≠ [] → NewT H (xs ++ ys) Q)
theorem op_catF : OpR X (binaryOp .Add) (rCatF X.K) := by
  intro pins s σ H x y v u Q I rx ry h
  obtain ⟨a, b, xs, ys, rfl, rfl, ha, hb, hz, q0, q1, q2⟩ := h
  cases rx
  cases ry
  obtain ⟨its, r1, p1, _⟩ := I.tuple ha
  obtain ⟨its2, r2, p2, _⟩ := I.tuple hb
  by_cases hx : xs = []
  · subst hx
    cases r1
    exact cat_tup0 p1 p2 ⟨.ref b, H, I, rfl, q0 rfl⟩
  · refine HT.cat_tup p1 p2 (fun z => hx (r1.nil_iff.mp z)) (fun z => ⟨.ref a, H, I, rfl, q1 hx (r2.nil_iff.mp z)⟩) (fun z => ?_) (by rw [← r1.length, ← r2.length]; exact hz)
    exact ⟨.ref s.heap.objs.size, _, VF.Inv.tfz (t' := s.toks) I (r1.append r2) (by rw [List.length_append]; exact hz), rfl, q2 hx (fun w => z (r2.nil_iff.mpr w)) _ _ (I.hok.fresh (Nat.le_refl _)) rfl⟩
def rSlF (K : PySem.W.Frag) : V → Option Int → Option Int → Hp → VK → Prop := fun x lo hi H Q => ∃ a xs, x = .ref a ∧ SqT K H a xs ∧
  (HT.sIx xs.length 0 lo = 0 ∧ HT.sIx xs.length xs.length hi = xs.length → Q (.ref a) H) ∧ (¬ (HT.sIx xs.length 0 lo = 0 ∧ HT.sIx xs.length xs.length hi = xs.length) → NewT H (cutV xs lo hi) Q)
theorem sl_tupF : SlR X (rSlF X.K) := by
  intro pins s σ H x v vl vu lo hi sl Q I rx hs pl pu h
  obtain ⟨a, xs, rfl, hx, q1, q2⟩ := h
  cases rx
  obtain ⟨its, r, ht, hz⟩ := I.tuple hx
  have hlen : its.toArray.size = xs.length := by rw [List.size_toArray]; exact r.length.symm
  refine ⟨"tuple", _, PyProof.Rows.slot_tuple_getitem.lookup, ht.typeIs, ?_⟩
  by_cases hw : HT.sIx xs.length 0 lo = 0 ∧ HT.sIx xs.length xs.length hi = xs.length
  · exact getItem_tuple_whole ht hs pl pu (by rw [hlen]; exact hw) ⟨.ref a, H, I, rfl, q1 hw⟩
  · refine HT.getItem_tuple_cut ht hs pl pu (by rw [hlen]; exact hw) ?_ (by rw [hlen]; exact hz)
    rw [hlen]
    exact ⟨.ref s.heap.objs.size, _, VF.Inv.tfz (t' := s.toks) I ((r.drop (HT.sIx xs.length 0 lo)).take (HT.sIx xs.length xs.length hi - HT.sIx xs.length 0 lo)) (Nat.le_trans (cutV_length xs lo hi) hz), rfl, q2 hw _ _ (I.hok.fresh (Nat.le_refl _)) rfl⟩
def kTupF (K : PySem.W.Frag) : V → Hp → VK → Prop := fun x H Q => (∃ p xs, x = .ref p ∧ SqL K H p xs ∧ NewT H xs Q) ∨ (∃ p xs, x = .ref p ∧ SqT K H p xs ∧ Q (.ref p) H)
theorem call_tupleF : CallR X (.type "tuple") (fun xs H Q => ∃ x, xs = [x] ∧ kTupF X.K x H Q) := by
  intro pins s σ H xs us Q I r h
  obtain ⟨x, rfl, h⟩ := h
  obtain ⟨v, rfl, r'⟩ := vals1 r
  rcases h with ⟨p, xs, rfl, hs, q⟩ | ⟨p, xs, rfl, hs, q⟩
  · obtain rfl : v = .ref p := r'
    obtain ⟨its, rv, pl, hz⟩ := I.list hs
    refine call_tuple_list pl.isList (fun h' hk => ?_) (by rw [List.size_toArray, ← rv.length]; exact hz)
    have I1 : Inv X pins σ H { s with heap := h' } := I.kept (t' := s.toks) hk
    exact ⟨.ref h'.objs.size, _, VF.Inv.tfz (t' := s.toks) I1 rv hz, rfl, q _ _ (I1.hok.fresh (Nat.le_refl _)) rfl⟩
  · obtain rfl : v = .ref p := r'
    obtain ⟨its, rv, pl, hz⟩ := I.tuple hs
    exact call_tuple_tup pl ⟨.ref p, H, I, rfl, q⟩
def tTupRgF (te : L2.St → Hp → (Int → Int → Hp → Prop) → Prop) : TE := fun σ H Q => te σ H fun a b H1 => RgOk a b ∧ NewT H1 (rgV a b) Q
theorem pe_tupRgF {e : Expr} {te : L2.St → Hp → (Int → Int → Hp → Prop) → Prop} {p pos : Pos} (hc : X.calm = true) (hg : Gl X "tuple") (hm : X.mg "tuple" = none) (he : PRg X e te) (na : starEach [e] X.env = (false, eval e X.env) :: starEach [] X.env) : PE X (.Call (.Name "tuple" p) [e] [] pos) (tTupRgF te) := by
  refine ⟨fun pins s σ H Q I h => ?_⟩
  refine Call_ (ld_blt I hg hm boot_tuple (PyProof.Rows.callWith_type1 (args_cons (thn (he pins s σ H _ I h) fun x s1 ⟨r, a, b, t, u, v, H1, ex, hr, I1, ok, q⟩ => args_nil ?_) na) na))
  subst ex
  obtain ⟨b1, b2, b3, b4, b5⟩ := ok
  refine call_tuple_range (n := (b - a).toNat) (I1.ok.hd hc) hr (small_one b1 b2 b3 b4) (rangeSize_nat a b) b5 fun h' tk acc hk hi => ?_
  have I2 : Inv X pins σ H1 { s1 with heap := h', toks := tk } := I1.kept hk
  have e1 : (h'.push { cls := .type "tuple", data := .seq acc }) = h'.push (tupO acc.toList) := by rw [tupO, Array.toArray_toList]
  refine ⟨.ref h'.objs.size, upd H1 h'.objs.size (.frz (tupO acc.toList) (.tup (rgV a b))), ?_, rfl, q _ _ (I2.hok.fresh (Nat.le_refl _)) rfl⟩
  rw [e1]
  exact VF.Inv.tfz (t' := tk) I2 (vals_rg hi) (by rw [rgV_length, sizeLine_eq]; omega)
end
end VF
set_option Elab.async false
set_option maxRecDepth 100000
set_option maxHeartbeats 4000000
namespace VF
open PySem L2

abbrev Env := List (Option PyData)
structure Exn where
  cls : Str
  fld : Option (Str × PyData)
inductive Out (α : Type) where
  | ok (a : α) (e : Env)
  | exc (x : Exn) (e : Env)
  | bad
inductive CRes where
  | ok (d : PyData) (rs : List PyData)
  | exc (x : Exn) (rs : List PyData)
  | bad
abbrev Calls := Str → List PyData → CRes
def Out.bind {α β : Type} (m : Out α) (f : α → Env → Out β) : Out β := match m with
  | .ok a e => f a e
  | .exc x e => .exc x e
  | .bad => .bad
def Out.nox {α : Type} : Out α → Out α
  | .exc _ _ => .bad
  | o => o
def lift {α : Type} (o : Option α) (e : Env) : Out α := match o with
  | some a => .ok a e
  | none => .bad

inductive BOp where
  | add | sub | mul | fdiv | mod | pow
inductive COp where
  | eq | ne | lt | le | gt | ge | isin | notin
inductive Cst where
  | non | tt | ff
inductive Tg where
  | n (i : Nat)
  | t (is : List Nat)
/-- built-in functions by what they do to values -/
inductive Bi where
  | len | int | sorted | maxl | minl | max2 | min2 | all | any | repr | str
  | isT (ts : List String) (single : Bool)
  | tyIs (t : String)
  | tyNo (t : String)
  | is1 (t : String)
  | lenset
mutual
inductive E where
  | v (i : Nat)
  | int (i : Int)
  | bl (b : Bool)
  | str (s : Str)
  | non
  | glob (x : Str)
  | tup (es : Es)
  | lst (es : Es)
  | bin (op : BOp) (a b : E)
  | neg (a : E)
  | cmp (op : COp) (a b : E)
  | isc (pos : Bool) (a : E) (c : Cst)
  | chain (op op' : COp) (a b c : E)
  | not (a : E)
  | one (o : Bool) (a : E)
  | bop (o : Bool) (a r : E)
  | ite (c a b : E)
  | idx (a i : E)
  | sl (a : E) (lo hi : Eo)
  | rev (a : E)
  | toL (it : It)
  | toT (it : It)
  | call (f : Str) (rs : List Nat) (es : Es)
  | callk (f : Str) (ks : List Str) (es : Es)
  | bi (b : Bi) (a : E)
  | bi2 (b : Bi) (a c : E)
  | pop (i : Nat) (e : E)
  | index (a b : E)
  | starts (a b : E)
  | setop (x : Bool) (a b : E)
  | sortset (a : E)
  | stake (n : Nat)
  | slen
  | shd
  | maxk (a : E) (r : Nat) (dflt : Bool)
  | comp (tg : Tg) (own : List Nat) (it : It) (c : Eo) (e : E)
  | fstr (es : Es)
inductive Eo where
  | no
  | y (e : E)
inductive It where
  | seq (e : E)
  | rng1 (a : E)
  | enum (a : E)
  | rng2 (a b : E)
inductive Es where
  | nil
  | cons (e : E) (es : Es)
end

/-! ### what operators do -/
def lim : Nat := 1000000
def binD (op : BOp) (x y : PyData) : Option PyData := match op, x, y with
  | .add, .int i, .int j => some (.int (i + j))
  | .sub, .int i, .int j => some (.int (i - j))
  | .mul, .int i, .int j => if i.natAbs.log2 + j.natAbs.log2 < 1000000 then some (.int (i * j)) else if i.natAbs.log2 + j.natAbs.log2 < 4000000 then some (.int (i * j)) else none
  | .fdiv, .int i, .int j => if 0 < j ∧ j.natAbs.log2 < 9000 then some (.int (i / j)) else none
  | .mod, .int i, .int j => if 0 < j then some (.int (i % j)) else none
  | .pow, .int i, .int j => if 0 ≤ j ∧ j ≤ 1000000 ∧ i.natAbs < 2 ^ 64 then some (.int (i ^ j.toNat)) else none
  | .add, .str a, .str b => if a.length + b.length ≤ lim then some (.str (a ++ b)) else none
  | .add, .list a, .list b => if a.length + b.length ≤ lim then some (.list (a ++ b)) else none
  | .add, .tuple a, .tuple b => if a.length + b.length ≤ lim then some (.tuple (a ++ b)) else none
  | .mul, .tuple a, .int k => if -100000 ≤ k ∧ k ≤ 100000 ∧ a.length * k.toNat ≤ 100000 then some (.tuple (List.replicate k.toNat a).flatten) else none
  | .mul, .list a, .int k => if -1000 ≤ k ∧ k ≤ 1000 ∧ a.length ≤ 1000 then some (.list (List.replicate k.toNat a).flatten) else none
  | _, _, _ => none
def shp (d : PyData) : Bool := SeqAt.shaped d
def flat : PyData → Bool
  | .none | .bool _ | .int _ | .str _ => true
  | _ => false
def cmpD (op : COp) (x y : PyData) : Option Bool := match op with
  | .eq => if shp x && shp y then some (PyData.eqv x y) else none
  | .ne => if shp x && shp y then some (!PyData.eqv x y) else none
  | .lt => (match x, y with | .int i, .int j => some (decide (i < j)) | _, _ => none)
  | .le => (match x, y with | .int i, .int j => some (decide (i ≤ j)) | _, _ => none)
  | .gt => (match x, y with | .int i, .int j => some (decide (j < i)) | _, _ => none)
  | .ge => (match x, y with | .int i, .int j => some (decide (j ≤ i)) | _, _ => none)
  | .isin => (match y with
    | .list ds => if shp x && shp (.list ds) then some (ds.any fun z => PyData.eqv z x) else none
    | .tuple ds => if flat x && ds.all flat then some (ds.any fun z => PyData.eqv z x) else if shp x && shp (.tuple ds) then some (ds.any fun z => PyData.eqv z x) else none
    | _ => none)
  | .notin => (match y with
    | .list ds => if shp x && shp (.list ds) then some (!ds.any fun z => PyData.eqv z x) else none
    | .tuple ds => if flat x && ds.all flat then some (!ds.any fun z => PyData.eqv z x) else if shp x && shp (.tuple ds) then some (!ds.any fun z => PyData.eqv z x) else none
    | _ => none)
def isC (x : PyData) (c : Cst) : Bool := match c, x with
  | .non, .none => true
  | .tt, .bool true => true
  | .ff, .bool false => true
  | _, _ => false
def tru : PyData → Option Bool
  | .none => some false
  | .bool b => some b
  | .int i => some (i != 0)
  | .str s => if s.length ≤ lim then some (s.length != 0) else none
  | .list ds => some (!ds.isEmpty)
  | .tuple ds => some (!ds.isEmpty)
  | .dict _ => none
def items : PyData → Option (List PyData)
  | .list ds => some ds
  | .tuple ds => some ds
  | _ => none
def idxD (x y : PyData) : Option PyData := match x, y with
  | .list ds, .int i => atI ds i
  | .tuple ds, .int i => atI ds i
  | _, _ => none
def cutD (ds : List PyData) (lo hi : Option Int) : List PyData := (ds.drop (HT.sIx ds.length 0 lo)).take (HT.sIx ds.length ds.length hi - HT.sIx ds.length 0 lo)
def slD (x : PyData) (lo hi : Option Int) : Option PyData := match x with
  | .list ds => some (.list (cutD ds lo hi))
  | .tuple ds => some (.tuple (cutD ds lo hi))
  | .str z => if z.length ≤ lim then some (.str (cutS z lo hi)) else none
  | _ => none
def intsOf : List PyData → Option (List Int)
  | [] => some []
  | .int i :: r => (intsOf r).map (i :: ·)
  | _ => none
def boolsOf : List PyData → Option (List Bool)
  | [] => some []
  | .bool i :: r => (boolsOf r).map (i :: ·)
  | _ => none
def pairsOf : List PyData → Option (List (Int × Int))
  | [] => some []
  | .tuple [.int i, .int j] :: r => (pairsOf r).map ((i, j) :: ·)
  | _ => none
def leI (a b : Int) : Bool := decide (a ≤ b)
def leP (a b : Int × Int) : Bool := decide (a.1 < b.1 ∨ (a.1 = b.1 ∧ a.2 ≤ b.2))
def sortD (ds : List PyData) : Option (List PyData) := match intsOf ds with
  | some ns => some ((ns.mergeSort leI).map .int)
  | none => match pairsOf ds with
    | some ps => some ((ps.mergeSort leP).map fun p => .tuple [.int p.1, .int p.2])
    | none => none
def dedI : List Int → List Int
  | [] => []
  | n :: ns => if n ∈ dedI ns then dedI ns else n :: dedI ns
/-- the built-in class of a value -/
def tyD : PyData → String
  | .none => "NoneType"
  | .bool _ => "bool"
  | .int _ => "int"
  | .str _ => "str"
  | .list _ => "list"
  | .tuple _ => "tuple"
  | .dict _ => "dict"
def isT1 (d : PyData) (t : String) : Bool := tyD d == t || (t == "int" && tyD d == "bool")
def maxI : List Int → Option Int
  | [] => none
  | i :: r => some (r.foldl (fun m j => if j > m then j else m) i)
def minI : List Int → Option Int
  | [] => none
  | i :: r => some (r.foldl (fun m j => if j < m then j else m) i)
def prD (p : Int × Int) : PyData := .tuple [.int p.1, .int p.2]
def ltP (a b : Int × Int) : Bool := decide (a.1 < b.1 ∨ (a.1 = b.1 ∧ a.2 < b.2))
/-- pairs, each once -/
def dedP : List (Int × Int) → List (Int × Int)
  | [] => []
  | p :: ps => if p ∈ dedP ps then dedP ps else p :: dedP ps
def smallP (ps : List (Int × Int)) : Bool := ps.all fun p => decide (0 ≤ p.1 ∧ p.1 < 64 ∧ 0 ≤ p.2 ∧ p.2 < 64)
/-- sorted(set(list of pairs)) -/
def sortsetD : PyData → Option PyData
  | .list ds => (pairsOf ds).bind fun ps => if smallP ps && decide ((dedP ps).length < 63) then some (.list (((dedP ps).mergeSort leP).map prD)) else none
  | _ => none
/-- the greatest pair -/
def maxP : List (Int × Int) → Option PyData
  | [] => none
  | p :: r => some (prD (r.foldl (fun m q => if ltP m q then q else m) p))
/-- what repr is told of: no dicts, not too deep, not too long -/
def okR (d : PyData) : Bool := (match d with
  | .dict _ => false
  | _ => true) && (d.showable && !d.hasDict && decide (d.depth ≤ 60) && decide (d.shown.length ≤ lim) && (PyData.str d.shown).canLay0)
/-! ### two sets of small whole numbers -/
def asc (p : Int → Bool) : List Int := ((List.range 32).map fun i : Nat => (i : Int)).filter p
def setB (x : Bool) (ns ms : List Int) : Int → Bool := fun k => if x then xor (decide (k ∈ ns)) (decide (k ∈ ms)) else decide (k ∈ ns) || decide (k ∈ ms)
def smallB (ns : List Int) : Bool := ns.all fun k => decide (0 ≤ k ∧ k < 32)
def tupInts : PyData → Option (List Int)
  | .tuple ds => (intsOf ds).bind fun ns => if smallB ns && decide (ns.length < 60) then some ns else none
  | .list ds => (intsOf ds).bind fun ns => if smallB ns && decide (ns.length < 60) then some ns else none
  | _ => none
def setD (x : Bool) (ns : List Int) (v : PyData) : Option PyData := (tupInts v).bind fun ms => if ns.length + ms.length < 60 then some (.list ((asc (setB x ns ms)).map .int)) else none
def insD : PyData → List PyData → Option PyData
  | .list ds, [.int k, d] => if 0 ≤ k ∧ k < 1000000 ∧ ds.length < lim then some (.list (ds.take k.toNat ++ [d] ++ ds.drop k.toNat)) else none
  | _, _ => none
def biD (b : Bi) (x : PyData) : Option PyData := match b with
  | .len => (match x with
    | .str s => if s.length ≤ lim then some (.int s.length) else none
    | .list ds => some (.int ds.length)
    | .tuple ds => some (.int ds.length)
    | _ => none)
  | .int => (match x with
    | .int i => some (.int i)
    | .bool c => some (.int (if c then 1 else 0))
    | _ => none)
  | .sorted => (match x with
    | .list ds => (sortD ds).map .list
    | .tuple ds => (sortD ds).map .list
    | _ => none)
  | .maxl => (match x with
    | .list ds => (match intsOf ds with
      | some ns => (maxI ns).map .int
      | none => (pairsOf ds).bind maxP)
    | .tuple ds => (match intsOf ds with
      | some ns => (maxI ns).map .int
      | none => (pairsOf ds).bind maxP)
    | _ => none)
  | .str => (match x with
    | .int i => if i.natAbs.log2 < 1920 then some (.str (toString i : Str)) else none
    | _ => none)
  | .minl => (match x with
    | .list ds => (intsOf ds).bind fun ns => (minI ns).map .int
    | .tuple ds => (intsOf ds).bind fun ns => (minI ns).map .int
    | _ => none)
  | .repr => if okR x then some (.str x.shown) else none
  | .all => (match x with
    | .list ds => (boolsOf ds).map fun bs => .bool (bs.all id)
    | _ => none)
  | .any => (match x with
    | .list ds => (boolsOf ds).map fun bs => .bool (bs.any id)
    | _ => none)
  | .isT ts _ => some (.bool (ts.any (isT1 x)))
  | .tyIs t => some (.bool (tyD x == t))
  | .tyNo t => some (.bool (!(tyD x == t)))
  | .is1 t => some (.bool (isT1 x t))
  | .lenset => (match x with
    | .tuple ds => (intsOf ds).bind fun ns => if ns.length ≤ 1000 then some (.int (dedI ns).length) else none
    | _ => none)
  | _ => none
def bi2D (b : Bi) (x y : PyData) : Option PyData := match b, x, y with
  | .max2, .int i, .int j => some (.int (if j > i then j else i))
  | .min2, .int i, .int j => some (.int (if j < i then j else i))
  | _, _, _ => none
/-- what a row of whole numbers tells of each key -/
def rksOf (rds : List PyData) : List Int → Option (List Int)
  | [] => some []
  | i :: r => (match atI rds i with
    | some (.int k) => some k
    | _ => none).bind fun k => (rksOf rds r).map (k :: ·)
/-- the first key with the greatest rank -/
def bestI (ns rs : List Int) : Int := ns.getD (argBest (fun i j => decide (rs.getD i 0 > rs.getD j 0)) (ns.length - 1)) 0
def maxkD (x : PyData) (rds : List PyData) (dflt : Bool) : Option PyData := (items x).bind fun ds => (intsOf ds).bind fun ns => (rksOf rds ns).bind fun rs => if ns.isEmpty then (if dflt then some .none else none) else some (.int (bestI ns rs))
def enumD : Nat → List PyData → List PyData
  | _, [] => []
  | i, d :: ds => .tuple [.int i, d] :: enumD (i + 1) ds
def enumI : PyData → Option (List PyData)
  | .list ds => some (enumD 0 ds)
  | _ => none
def rngD (a b : Int) : List PyData := (List.range (b - a).toNat).map fun i => .int (a + (i : Nat))
def rngOk (a b : Int) : Bool := decide (-1000000 ≤ a ∧ a ≤ 1000000 ∧ -1000000 ≤ b ∧ b ≤ 1000000)

/-! ### environments -/
def getV (env : Env) (i : Nat) : Option PyData := (env[i]?).join
def getI (env : Env) (i : Nat) : Option Int := match getV env i with
  | some (.int x) => some x
  | _ => none
/-- a list of plain items -/
def flatL : PyData → Bool
  | .list ds => ds.all flat
  | _ => false
def intD : PyData → Option Int
  | .int i => some i
  | _ => none
def augD (sub : Bool) (x : Int) (y : PyData) : Option PyData := match y with
  | .int b => some (.int (if sub then x - b else x + b))
  | _ => none
def tupV (env : Env) (i : Nat) : Option (List PyData) := (getV env i).bind fun d => match d with
  | .tuple ds => some ds
  | _ => none
def setV (env : Env) (i : Nat) (d : PyData) : Env := env.set i (some d)
def setsV : Env → List Nat → List PyData → Env
  | env, i :: is, d :: ds => setsV (setV env i d) is ds
  | env, _, _ => env
def getsV (env : Env) : List Nat → Option (List PyData)
  | [] => some []
  | i :: is => (getV env i).bind fun d => (getsV env is).map (d :: ·)
def wipeE (env : Env) : List Nat → Env
  | [] => env
  | i :: is => (wipeE env is).set i none
/-- env2, its slots at own as in env -/
def backE (env env2 : Env) : List Nat → Env
  | [] => env2
  | i :: is => (backE env env2 is).set i ((env[i]?).join)
def tgSet (tg : Tg) (d : PyData) (env : Env) : Option Env := match tg with
  | .n i => some (setV env i d)
  | .t is => (match d with
    | .tuple ds => if ds.length = is.length then some (setsV env is ds) else none
    | .list ds => if ds.length = is.length then some (setsV env is ds) else none
    | _ => none)
def compL (tg : Tg) (own : List Nat) (c : Env → Out Bool) (g : Env → Out PyData) (env0 : Env) : List PyData → Env → Out (List PyData)
  | [], env => .ok [] env
  | d :: ds, env => match tgSet tg d (wipeE env own) with
    | none => .bad
    | some e1 => match c e1 with
      | .ok true e2 => (match g e2 with
        | .ok y e3 => (compL tg own c g env0 ds (backE env0 e3 own)).bind fun ys e => .ok (y :: ys) e
        | _ => .bad)
      | .ok false e2 => compL tg own c g env0 ds (backE env0 e2 own)
      | _ => .bad
def strJoin : List PyData → Str → Option Str
  | [], acc => some acc
  | .str y :: r, acc => if (acc ++ y).length ≤ lim then strJoin r (acc ++ y) else none
  | .int i :: r, acc => if i.natAbs < 10 ^ 20 ∧ (acc ++ (toString i : Str)).length ≤ lim then strJoin r (acc ++ (toString i : Str)) else none
  | _, _ => none

structure Sig where
  ps : List Str
  nr : Nat
  fr : Bool
structure Cfg where
  sig : Str → Option Sig
  glob : Str → Option PyData
  exm : Str → Str → Option Bool
  scr : List Int

/-- keywords' values in the parameters' order -/
def pick {α : Type} : List Nat → List α → Option (List α)
  | [], _ => some []
  | i :: is, l => (l[i]?).bind fun x => (pick is l).map (x :: ·)
def kix (ps ks : List Str) : List Nat := ps.map fun p => ks.findIdx (· == p)
def kperm (ps ks : List Str) (ds : List PyData) : Option (List PyData) := if ps.length = ks.length ∧ ds.length = ks.length then pick (kix ps ks) ds else none
def callD (cs : Calls) (f : Str) (rs : List Nat) (ds : List PyData) (env : Env) : Out PyData := match getsV env rs with
  | none => .bad
  | some xs => match cs f (xs ++ ds) with
    | .ok d ys => .ok d (setsV env rs ys)
    | .exc x ys => .exc x (setsV env rs ys)
    | .bad => .bad
def callS (sig : Str → Option Sig) (cs : Calls) (f : Str) (rs : List Nat) (ds : List PyData) (env : Env) : Out PyData := match sig f with
  | some s => if rs.length = s.nr ∧ rs.length + ds.length = s.ps.length then callD cs f rs ds env else .bad
  | none => .bad
def optI : PyData → Option Int
  | .int i => some i
  | _ => none
mutual
def ev (C : Cfg) (cs : Calls) : E → Env → Out PyData
  | .v i, env => lift (getV env i) env
  | .int i, env => .ok (.int i) env
  | .bl b, env => .ok (.bool b) env
  | .str s, env => .ok (.str s) env
  | .non, env => .ok .none env
  | .glob x, env => lift (C.glob x) env
  | .tup es, env => (evs C cs es env).bind fun ds e => if ds.length ≤ lim then .ok (.tuple ds) e else .bad
  | .lst es, env => (evs C cs es env).bind fun ds e => if ds.length ≤ lim then .ok (.list ds) e else .bad
  | .bin op a b, env => (ev C cs a env).bind fun x e1 => (ev C cs b e1).bind fun y e2 => lift (binD op x y) e2
  | .neg a, env => (ev C cs a env).bind fun x e1 => (match x with | .int i => .ok (.int (-i)) e1 | _ => .bad)
  | .cmp op a b, env => (ev C cs a env).bind fun x e1 => (ev C cs b e1).bind fun y e2 => (lift (cmpD op x y) e2).bind fun k e => .ok (.bool k) e
  | .isc p a c, env => (ev C cs a env).bind fun x e1 => .ok (.bool (if p then isC x c else !isC x c)) e1
  | .chain op op' a b c, env => (ev C cs a env).bind fun x e1 => (ev C cs b e1).bind fun y e2 => (lift (cmpD op x y) e2).bind fun k e =>
      if k then (ev C cs c e).bind fun z e3 => (lift (cmpD op' y z) e3).bind fun k e => .ok (.bool k) e else .ok (.bool false) e
  | .not a, env => (ev C cs a env).bind fun x e1 => (lift (tru x) e1).bind fun k e => .ok (.bool (!k)) e
  | .one _ a, env => ev C cs a env
  | .bop o a r, env => (ev C cs a env).bind fun x e1 => (lift (tru x) e1).bind fun k e => if k = o then ev C cs r e else .ok x e
  | .ite c a b, env => (ev C cs c env).bind fun x e1 => (lift (tru x) e1).bind fun k e => if k then ev C cs a e else ev C cs b e
  | .idx a i, env => (ev C cs a env).bind fun x e1 => (ev C cs i e1).bind fun y e2 => lift (idxD x y) e2
  | .sl a lo hi, env => (ev C cs a env).bind fun x e1 => (evO C cs lo e1).bind fun l e2 => (evO C cs hi e2).bind fun h e3 => lift (slD x l h) e3
  | .rev a, env => (ev C cs a env).bind fun x e1 => (match x with | .list ds => .ok (.list ds.reverse) e1 | _ => .bad)
  | .toL it, env => (evIt C cs it env).bind fun ds e => .ok (.list ds) e
  | .toT it, env => (evIt C cs it env).bind fun ds e => .ok (.tuple ds) e
  | .call f rs es, env => (lift (getsV env rs) env).bind fun _ e0 => (evs C cs es e0).bind fun ds e => callS C.sig cs f rs ds e
  | .callk f ks es, env => (evs C cs es env).bind fun ds e => (match C.sig f with
    | some s => (match kperm s.ps ks ds with
      | some xs => callS C.sig cs f [] xs e
      | none => .bad)
    | none => .bad)
  | .bi b a, env => (ev C cs a env).bind fun x e1 => lift (biD b x) e1
  | .bi2 b a c, env => (ev C cs a env).bind fun x e1 => (ev C cs c e1).bind fun y e2 => lift (bi2D b x y) e2
  | .pop i a, env => (lift (getV env i) env).bind fun _ e0 => (ev C cs a e0).bind fun x e1 => (match getV e1 i, x with
    | some (.list ds), .int k => (match ixN ds.length k with
      | some j => (match ds[j]? with
        | some y => if ds.length ≤ lim then .ok y (setV e1 i (.list (ds.eraseIdx j))) else .bad
        | none => .bad)
      | none => .bad)
    | _, _ => .bad)
  | .index a b, env => (ev C cs a env).bind fun x e1 => (lift ((items x).bind intsOf) e1).bind fun ns e1 => (ev C cs b e1).bind fun y e2 => (match y with
    | .int k => if k ∈ ns then .ok (.int (ns.idxOf k : Nat)) e2 else .bad
    | _ => .bad)
  | .setop x a b, env => (ev C cs a env).bind fun u e1 => (lift (tupInts u) e1).bind fun ns e1 => (ev C cs b e1).bind fun v e2 => lift (setD x ns v) e2
  | .starts a b, env => (ev C cs a env).bind fun x e1 => (ev C cs b e1).bind fun y e2 => (match x, y with
    | .str s, .str t => .ok (.bool (Txt.startswith s t)) e2
    | _, _ => .bad)
  | .sortset a, env => (ev C cs a env).bind fun x e1 => lift (sortsetD x) e1
  | .stake n, env => .ok (.list ((C.scr.take n).map .int)) env
  | .shd, env => .ok (.int (C.scr.headD 0)) env
  | .slen, env => .ok (.int C.scr.length) env
  | .maxk a r df, env => (lift (tupV env r) env).bind fun rds e0 => (ev C cs a e0).bind fun x e1 => lift (maxkD x rds df) e1
  | .comp tg own it c g, env => (evIt C cs it env).bind fun ds e1 => (compL tg own (fun e => evC C cs c e) (fun e => ev C cs g e) e1 ds e1).bind fun ys e => if ys.length ≤ lim then .ok (.list ys) e else .bad
  | .fstr es, env => (evs C cs es env).nox.bind fun ds e => (lift (strJoin ds Str.empty) e).bind fun s e => .ok (.str s) e
def evO (C : Cfg) (cs : Calls) : Eo → Env → Out (Option Int)
  | .no, env => .ok none env
  | .y e, env => (ev C cs e env).bind fun x e1 => (lift (optI x) e1).bind fun i e => .ok (some i) e
def evC (C : Cfg) (cs : Calls) : Eo → Env → Out Bool
  | .no, env => .ok true env
  | .y e, env => (ev C cs e env).bind fun x e1 => lift (tru x) e1
def evIt (C : Cfg) (cs : Calls) : It → Env → Out (List PyData)
  | .enum a, env => (ev C cs a env).bind fun x e1 => lift (enumI x) e1
  | .rng1 a, env => (ev C cs a env).bind fun x e1 => (match x with | .int n => if rngOk 0 n then .ok (rngD 0 n) e1 else .bad | _ => .bad)
  | .rng2 a b, env => (ev C cs a env).bind fun x e1 => (ev C cs b e1).bind fun y e2 => (match x, y with | .int i, .int j => if rngOk i j then .ok (rngD i j) e2 else .bad | _, _ => .bad)
  | .seq e, env => (ev C cs e env).bind fun x e1 => lift (items x) e1
def evs (C : Cfg) (cs : Calls) : Es → Env → Out (List PyData)
  | .nil, env => .ok [] env
  | .cons a es, env => (ev C cs a env).bind fun x e1 => (evs C cs es e1).bind fun xs e2 => .ok (x :: xs) e2
end

/-! ### statements -/
def tgI : Tg → List Nat
  | .n i => [i]
  | .t is => is
mutual
def muE : E → List Nat
  | .v _ | .int _ | .bl _ | .str _ | .non | .glob _ | .stake _ | .shd | .slen => []
  | .tup es | .lst es | .fstr es => muEs es
  | .bin _ a b | .cmp _ a b | .idx a b | .bi2 _ a b | .index a b | .starts a b | .setop _ a b | .bop _ a b => muE a ++ muE b
  | .neg a | .isc _ a _ | .not a | .one _ a | .rev a | .bi _ a | .sortset a | .maxk a _ _ => muE a
  | .chain _ _ a b c | .ite a b c => muE a ++ (muE b ++ muE c)
  | .sl a lo hi => muE a ++ (muO lo ++ muO hi)
  | .toL it | .toT it => muI it
  | .call _ rs es => rs ++ muEs es
  | .callk _ _ es => muEs es
  | .pop i a => i :: muE a
  | .comp tg own it c g => muI it ++ (muO c ++ (muE g ++ (tgI tg).filter fun i => !own.contains i))
def muO : Eo → List Nat
  | .no => []
  | .y e => muE e
def muI : It → List Nat
  | .seq e | .rng1 e | .enum e => muE e
  | .rng2 a b => muE a ++ muE b
def muEs : Es → List Nat
  | .nil => []
  | .cons a es => muE a ++ muEs es
end
def flatAt (env : Env) (i : Nat) : Bool := match getV env i with
  | some (.list ds) => ds.all flat
  | _ => false
mutual
inductive S where
  | asg (i : Nat) (m : Bool) (e : E)
  | asgT (is : List Nat) (e : E)
  | par (is : List Nat) (es : Es)
  | parL (i j : Nat) (e : E)
  | seti (i : Nat) (ix e : E)
  | app (i : Nat) (e : E)
  | ins (i : Nat) (es : Es)
  | augI (sub : Bool) (i : Nat) (e : E)
  | parN (i j : Nat) (e : E)
  | aug (i : Nat) (op : BOp) (e : E)
  | asgf (i : Nat) (m : Bool) (e : E)
  | ext (i : Nat) (e : E)
  | seta (sub : Bool) (i : Nat) (ix e : E)
  | ex (e : E)
  | ret (e : E)
  | ret0
  | ifs (c : E) (a b : Ss)
  | «for» (tg : Tg) (it : It) (b : Ss)
  | whl (n : Nat) (c : E) (b : Ss)
  | «try» (b : Ss) (hs : Hs)
  | tryas (b : Ss) (hc : Str) (i : Nat) (t : Cls)
  | trym (b : Ss) (hs : Hm)
  | raise (cls : Str)
  | raisef (cls fld : Str) (a : E)
  | pass
inductive Ss where
  | nil
  | cons (s : S) (r : Ss)
inductive Hs where
  | nil
  | cons (cls : Str) (b : Ss) (r : Hs)
inductive Cls where
  | nil
  | cons (cls : Str) (b : Ss) (r : Cls)
inductive Hm where
  | nil
  | cons (hc : Str) (i : Nat) (t : Cls) (r : Hm)
end
inductive Flw where
  | nx
  | ret (d : PyData)
def forL (tg : Tg) (b : Env → Out Flw) : List PyData → Env → Out Flw
  | [], env => .ok .nx env
  | d :: ds, env => match tgSet tg d env with
    | none => .bad
    | some e1 => (b e1).bind fun f e2 => match f with
      | .nx => forL tg b ds e2
      | .ret d => .ok (.ret d) e2
def whlL (c : Env → Out Bool) (b : Env → Out Flw) : Nat → Env → Out Flw
  | 0, _ => .bad
  | n + 1, env => (c env).bind fun k e1 => if k then (b e1).bind fun f e2 => (match f with
      | .nx => whlL c b n e2
      | .ret d => .ok (.ret d) e2) else .ok .nx e1
/-- a suite's end: the exception's name is gone -/
def endN (i : Nat) : Out Flw → Out Flw
  | .ok f e => .ok f (e.set i none)
  | _ => .bad
mutual
def ex (C : Cfg) (cs : Calls) : S → Env → Out Flw
  | .asg i m e, env => (ev C cs e env).bind fun d e1 => if m then (match d with
    | .list _ => if (muE e).all (flatAt e1) then .ok .nx (setV e1 i d) else .bad
    | _ => .bad) else .ok .nx (setV e1 i d)
  | .asgf i m e, env => ((ev C cs e env).bind fun d e1 => if flatL d then .ok d e1 else .bad).bind fun d e1 => if m then (match d with
    | .list _ => if (muE e).all (flatAt e1) then .ok .nx (setV e1 i d) else .bad
    | _ => .bad) else .ok .nx (setV e1 i d)
  | .asgT is e, env => (ev C cs e env).bind fun d e1 => (match tgSet (.t is) d e1 with | some e2 => .ok .nx e2 | none => .bad)
  | .par is es, env => (evs C cs es env).bind fun ds e1 => if ds.length = is.length then .ok .nx (setsV e1 is ds) else .bad
  | .parL i j e, env => (ev C cs e env).bind fun d e1 => (match d with
    | .list _ => if (muE e).all (flatAt e1) then .ok .nx (setV (setV e1 i d) j (.list [])) else .bad
    | _ => .bad)
  | .seti i ix e, env => (ev C cs e env).bind fun d e1 => (lift (getV e1 i) e1).bind fun _ e1 => (ev C cs ix e1).bind fun k e2 => (match getV e2 i, k with
    | some (.list ds), .int k => (match ixN ds.length k with
      | some j => .ok .nx (setV e2 i (.list (ds.set j d)))
      | none => .bad)
    | _, _ => .bad)
  | .augI sub i e, env => (lift (getI env i) env).bind fun x e0 => (ev C cs e e0).bind fun y e1 => (lift (augD sub x y) e1).bind fun z e2 => .ok .nx (setV e2 i z)
  | .ins i es, env => (lift (getV env i) env).bind fun _ e0 => (evs C cs es e0).bind fun us e1 => (lift ((getV e1 i).bind fun x => insD x us) e1).bind fun y e1 => .ok .nx (setV e1 i y)
  | .parN i j e, env => (ev C cs e env).bind fun d e1 => .ok .nx (setV (setV e1 i d) j (.list []))
  | .app i e, env => (lift (getV env i) env).bind fun _ e0 => (ev C cs e e0).bind fun d e1 => (match getV e1 i with
    | some (.list ds) => if ds.length < lim then .ok .nx (setV e1 i (.list (ds ++ [d]))) else .bad
    | _ => .bad)
  | .aug i op e, env => (match getV env i with
    | some x => (ev C cs e env).bind fun y e1 => (lift (binD op x y) e1).bind fun z e2 => .ok .nx (setV e2 i z)
    | none => .bad)
  | .ext i e, env => (lift (getV env i) env).bind fun _ e0 => (ev C cs e e0).bind fun d e1 => (match getV e1 i, d with
    | some (.list ds), .list es => if ds.length + es.length ≤ lim then .ok .nx (setV e1 i (.list (ds ++ es))) else .bad
    | _, _ => .bad)
  | .seta sub i ix e, env => (lift (getV env i) env).bind fun _ e0 => (ev C cs ix e0).bind fun k e1 => (lift (((getV e1 i).bind fun x => idxD x k).bind intD) e1).bind fun a e1 => (ev C cs e e1).bind fun y e2 => (lift (augD sub a y) e2).bind fun z e3 => (match getV e3 i, k with
    | some (.list ds), .int k => (match ixN ds.length k with
      | some j => .ok .nx (setV e3 i (.list (ds.set j z)))
      | none => .bad)
    | _, _ => .bad)
  | .ex e, env => (ev C cs e env).bind fun _ e1 => .ok .nx e1
  | .ret e, env => (ev C cs e env).bind fun d e1 => .ok (.ret d) e1
  | .ret0, env => .ok (.ret .none) env
  | .ifs c a b, env => (ev C cs c env).bind fun x e1 => (lift (tru x) e1).bind fun k e => if k then exs C cs a e else exs C cs b e
  | .for tg it b, env => (evIt C cs it env).bind fun ds e => forL tg (fun e => exs C cs b e) ds e
  | .whl n c b, env => whlL (fun e => (ev C cs c e).bind fun x e1 => lift (tru x) e1) (fun e => exs C cs b e) n env
  | .try b hs, env => (match exs C cs b env with
    | .ok f e => .ok f e
    | .exc x e => exh C cs x hs e
    | .bad => .bad)
  | .tryas b hc i t, env => (match exs C cs b env with
    | .ok f e => .ok f e
    | .exc x e => (match C.exm x.cls hc with
      | some true => (match x.fld with
        | none => if i < e.length then endN i (exq C cs x.cls t (e.set i none)) else .bad
        | some _ => .bad)
      | some false => .exc x e
      | none => .bad)
    | .bad => .bad)
  | .trym b hs, env => (match exs C cs b env with
    | .ok f e => .ok f e
    | .exc x e => exm C cs x hs e
    | .bad => .bad)
  | .raise cls, env => .exc ⟨cls, none⟩ env
  | .raisef cls fld a, env => (ev C cs a env).bind fun d e => .exc ⟨cls, some (fld, d)⟩ e
  | .pass, env => .ok .nx env
def exs (C : Cfg) (cs : Calls) : Ss → Env → Out Flw
  | .nil, env => .ok .nx env
  | .cons s r, env => (ex C cs s env).bind fun f e => (match f with
    | .nx => exs C cs r e
    | .ret d => .ok (.ret d) e)
def exh (C : Cfg) (cs : Calls) (x : Exn) : Hs → Env → Out Flw
  | .nil, env => .exc x env
  | .cons cls b r, env => (match C.exm x.cls cls with
    | some true => (exs C cs b env).nox
    | some false => exh C cs x r env
    | none => .bad)
def exq (C : Cfg) (cs : Calls) (c : Str) : Cls → Env → Out Flw
  | .nil, _ => .bad
  | .cons cls b r, env => if cls = c then exs C cs b env else exq C cs c r env
def exm (C : Cfg) (cs : Calls) (x : Exn) : Hm → Env → Out Flw
  | .nil, env => .exc x env
  | .cons hc i t r, env => (match C.exm x.cls hc with
    | some true => (match x.fld with
      | none => if i < env.length then endN i (exq C cs x.cls t (env.set i none)) else .bad
      | some _ => .bad)
    | some false => exm C cs x r env
    | none => .bad)
end
/-- a def: its parameters stand in the first slots, its names are n in all -/
structure Df where
  n : Nat
  np : Nat
  nr : Nat
  body : Ss
def run1 (C : Cfg) (cs : Calls) (d : Df) (ds : List PyData) : CRes :=
  if ds.length = d.np then
    match exs C cs d.body (ds.map some ++ List.replicate (d.n - d.np) none) with
    | .ok (.ret v) e => (match getsV e (List.range d.nr) with
      | some rs => .ok v rs
      | none => .bad)
    | .ok .nx e => (match getsV e (List.range d.nr) with
      | some rs => .ok .none rs
      | none => .bad)
    | .exc x e => (match getsV e (List.range d.nr) with
      | some rs => .exc x rs
      | none => .bad)
    | .bad => .bad
  else .bad
/-- calls k deep -/
def calls (C : Cfg) (tab : Str → Option Df) : Nat → Calls
  | 0, _, _ => .bad
  | k + 1, f, ds => match tab f with
    | some d => run1 C (calls C tab k) d ds
    | none => .bad
end VF
set_option Elab.async false
set_option maxRecDepth 100000
set_option maxHeartbeats 4000000
namespace VF
open PySem L2

structure Sys where
  P : Program
  w : World
  K : PySem.W.Frag
  mg : Str → Option Value
  base : Heap
  T : List (Addr × Str)
  kl : List (Str × List Str)
structure Kp (T : List (Addr × Str)) (F : Addr → Prop) (H H' : Hp) : Prop where
  keep : Keep F H H'
  tabs : LamX.Tabs T H → LamX.Tabs T H'
theorem Kp.refl {T F H} : Kp T F H H := ⟨.refl, id⟩
theorem Kp.trans {T F H H1 H2} (a : Kp T F H H1) (b : Kp T F H1 H2) : Kp T F H H2 := ⟨a.keep.trans b.keep, fun t => b.tabs (a.tabs t)⟩
theorem Kp.mono {T} {F F' : Addr → Prop} {H H'} (k : Kp T F H H') (h : ∀ a, F a → F' a) : Kp T F' H H' := ⟨k.keep.mono h, k.tabs⟩
theorem Kp.new {T F H p o} (h : H p = none) : Kp T F H (upd H p o) := ⟨.new h, fun t => t.ext fun b u e => by rw [upd_ne (ne_of_none e h)]; exact e⟩
theorem Kp.put {T} {F : Addr → Prop} {H p o xs} (h : F p) (hp : H p = some (.lst xs)) : Kp T F H (upd H p o) := by
  refine ⟨.put h, fun t q hq => ?_⟩
  obtain ⟨ps, h1, h2, h3⟩ := t q hq
  have e : ∀ b u, H b = some u → (∀ ys, u ≠ .lst ys) → upd H p o b = some u := fun b u e n => by
    rw [upd_ne (fun z => by subst z; rw [hp] at e; cases e; exact n xs rfl)]; exact e
  refine ⟨ps, e _ _ h1 (fun ys z => by cases z), h2, fun pos cv hc => ?_⟩
  obtain ⟨c, e1, e2⟩ := h3 pos cv hc
  exact ⟨c, e1, e _ _ e2 (fun ys z => by unfold LamX.CodeO at z; cases z)⟩

/-- the slots that own a list; g: lists of others, out of reach -/
structure MM where
  m : Nat → Bool
  g : Addr → Prop
instance : CoeFun MM (fun _ => Nat → Bool) := ⟨MM.m⟩
def FX (M : MM) (o : List Nat) (σ : L2.St) (a : Addr) : Prop := M.g a ∨ ∃ i, M i = true ∧ i ∉ o ∧ σ[i]? = some (some (.ref a))
def FL (l : List Nat) (σ : L2.St) (a : Addr) : Prop := ∃ i, i ∈ l ∧ σ[i]? = some (some (.ref a))
theorem FL.sub {l l' : List Nat} {σ a} (h : FL l σ a) (s : ∀ i, i ∈ l → i ∈ l') : FL l' σ a := let ⟨i, h1, h2⟩ := h; ⟨i, s i h1, h2⟩
theorem FX.sub {M o o' σ a} (h : FX M o' σ a) (s : ∀ i, i ∈ o → i ∈ o') : FX M o σ a := h.elim .inl fun ⟨i, h1, h2, h3⟩ => .inr ⟨i, h1, fun z => h2 (s i z), h3⟩

/-- what stands fast: the script's cells, the caught exception's slot -/
structure SC where
  ns : Option (List Int)
  x : Option (Nat × Addr)
def fx (sc : SC) (i : Nat) : Prop := (sc.ns ≠ none ∧ i = 0) ∨ ∃ a, sc.x = some (i, a)
structure Fi (K : PySem.W.Frag) (M : MM) (sc : SC) (σ : L2.St) (H : Hp) (env : Env) : Prop where
  len : env.length = σ.length
  val : ∀ i d, env[i]? = some (some d) → M i = false → ∃ v, σ[i]? = some (some v) ∧ Rep K (FX M [] σ) H d v
  mt : ∀ i d, env[i]? = some (some d) → M i = true → ∃ a vs xs, σ[i]? = some (some (.ref a)) ∧ d = .list xs ∧ H a = some (.lst vs) ∧ Reps K (FX M [] σ) H xs vs
  un : ∀ i, M i = true → env[i]? = some none → σ[i]? = some none
  inj : ∀ i j a, M i = true → M j = true → σ[i]? = some (some (.ref a)) → σ[j]? = some (some (.ref a)) → i = j
  gin : ∀ a, M.g a → ∃ vs, H a = some (.lst vs)
  gno : ∀ i a, M i = true → σ[i]? = some (some (.ref a)) → ¬ M.g a
  scr : ∀ ns, sc.ns = some ns → ∃ a, σ[0]? = some (some (.ref a)) ∧ RdL K (FX M [] σ) H a (ns.map V.int) ∧ M 0 = false
  exn : ∀ i a, sc.x = some (i, a) → σ[i]? = some (some (.ref a)) ∧ M i = false

section
variable {K : PySem.W.Frag} {M : MM} {sc : SC} {σ : L2.St} {H H' : Hp} {env : Env}
/-- new objects alone -/
theorem Fi.grow (F : Fi K M sc σ H env) (k : Keep F0 H H') : Fi K M sc σ H' env where
  len := F.len
  val := fun i d e m => let ⟨v, h1, h2⟩ := F.val i d e m; ⟨v, h1, Rep.keep (k.mono fun _ z => z.elim) _ _ h2⟩
  mt := fun i d e m => let ⟨a, vs, xs, h1, h2, h3, h4⟩ := F.mt i d e m; ⟨a, vs, xs, h1, h2, k a _ h3 (fun z => z) (fun ps z => by cases z), Reps.keep (k.mono fun _ z => z.elim) _ _ h4⟩
  un := F.un
  inj := F.inj
  gin := fun a g => let ⟨vs, h⟩ := F.gin a g; ⟨vs, k a _ h (fun z => z) (fun ps z => by cases z)⟩
  gno := F.gno
  scr := fun ns e => let ⟨a, h1, h2, h3⟩ := F.scr ns e; ⟨a, h1, h2.keep (k.mono fun _ z => z.elim), h3⟩
  exn := F.exn

structure ExRo (Y : Sys) (x : Exn) (cls : Value) (dd : Option Addr) (H : Hp) : Prop where
  cls : ∃ C, Y.mg x.cls = some (.ref C) ∧ cls = .ref C
  fld : ∀ f d, x.fld = some (f, d) → ∃ a v, dd = some a ∧ H a = some (.xd [(f, v)]) ∧ Rep Y.K F0 H d v
  nof : x.fld = none → dd = none

def PO (Y : Sys) (M : MM) (sc : SC) (W : WX) (mu : List Nat) (σ : L2.St) (H : Hp) {α : Type} (P : α → Env → Prop) : Out α → Prop
  | .bad => False
  | .ok a e => P a e
  | .exc x e => ∀ cls dd H', Fi Y.K M sc σ H' e → Kp Y.T (FL mu σ) H H' → ExRo Y x cls dd H' → W cls dd σ H'
end
section
variable {Y : Sys} {M : MM} {sc : SC} {W : WX} {mu mu' : List Nat} {σ : L2.St} {H H1 : Hp} {α β : Type}
theorem PO.bind {P : β → Env → Prop} {m : Out α} {f : α → Env → Out β} (h : PO Y M sc W mu σ H P (m.bind f)) : PO Y M sc W mu σ H (fun a e => PO Y M sc W mu σ H P (f a e)) m := by
  cases m <;> exact h
theorem PO.imp {P Q : α → Env → Prop} {m : Out α} (h : PO Y M sc W mu σ H P m) (k : ∀ a e, P a e → Q a e) : PO Y M sc W mu σ H Q m := by
  cases m with
  | ok a e => exact k a e h
  | exc x e => exact h
  | bad => exact h
theorem PO.to {P : α → Env → Prop} {m : Out α} (h : PO Y M sc W mu σ H P m) (s : ∀ i, i ∈ mu' → i ∈ mu) (k : Kp Y.T (FL mu σ) H H1) : PO Y M sc W mu' σ H1 P m := by
  cases m with
  | ok a e => exact h
  | exc x e => exact fun cls dd H' F k' r => h cls dd H' F (k.trans (k'.mono fun a z => z.sub s)) r
  | bad => exact h
theorem PO.lift {P : α → Env → Prop} {o : Option α} {e : Env} (h : PO Y M sc W mu σ H P (VF.lift o e)) : ∃ a, o = some a ∧ P a e := by
  cases o with
  | none => exact h.elim
  | some a => exact ⟨a, rfl, h⟩

end
/-- top by F, its items by G -/
def Rp (K : PySem.W.Frag) (F G : Addr → Prop) (H : Hp) (d : PyData) (v : V) : Prop := match d with
  | .list ds => ∃ a vs, v = .ref a ∧ TrL F H a vs ∧ Reps K G H ds vs
  | .tuple ds => ∃ a vs, v = .ref a ∧ RdT K G H a vs ∧ Reps K G H ds vs
  | d => Rep K F H d v
section
variable {K : PySem.W.Frag} {F G : Addr → Prop} {H H' : Hp} {d : PyData} {v : V}
theorem Rp.of (h : Rep K F H d v) : Rp K F F H d v := by cases d <;> exact h
theorem Rp.rep (h : Rp K F G H d v) (s : ∀ a, F a → G a) : Rep K F H d v := by
  cases d with
  | list ds => obtain ⟨a, vs, e, r, q⟩ := h; exact ⟨a, vs, e, r, Reps.weak s _ _ q⟩
  | tuple ds => obtain ⟨a, vs, e, r, q⟩ := h; exact ⟨a, vs, e, r.weak s, Reps.weak s _ _ q⟩
  | _ => exact h
theorem Rp.keep {F' : Addr → Prop} (h : Rp K F G H d v) (k : Keep F' H H') (s : ∀ a, F' a → F a) (s' : ∀ a, F' a → G a) : Rp K F G H' d v := by
  cases d with
  | list ds => obtain ⟨a, vs, e, r, q⟩ := h; exact ⟨a, vs, e, r.keep (k.mono s), Reps.keep (k.mono s') _ _ q⟩
  | tuple ds => obtain ⟨a, vs, e, r, q⟩ := h; exact ⟨a, vs, e, r.keep (k.mono s'), Reps.keep (k.mono s') _ _ q⟩
  | dict _ => exact h
  | none => exact h
  | bool _ => exact h
  | int _ => exact h
  | str _ => exact h
theorem Rp.items {ds : List PyData} (h : Rp K F G H d v) (e : items d = some ds) : ∃ a vs, v = .ref a ∧ (SqL K H a vs ∨ SqT K H a vs) ∧ Reps K G H ds vs := by
  cases d with
  | list xs => obtain ⟨a, vs, e1, r, q⟩ := h; cases e; exact ⟨a, vs, e1, .inl r.sq, q⟩
  | tuple xs => obtain ⟨a, vs, e1, r, q⟩ := h; cases e; exact ⟨a, vs, e1, .inr r.sq, q⟩
  | _ => cases e
theorem Rp.dp (h : Rp K F G H d v) : Dp K H v d := by
  cases d with
  | list xs => obtain ⟨a, vs, e1, r, q⟩ := h; subst e1; exact .lst r.sq (Reps.dp _ _ q)
  | tuple xs => obtain ⟨a, vs, e1, r, q⟩ := h; subst e1; exact .tup r.sq (Reps.dp _ _ q)
  | none => exact Rep.dp (F := F) _ _ h
  | bool _ => exact Rep.dp (F := F) _ _ h
  | int _ => exact Rep.dp (F := F) _ _ h
  | str _ => exact Rep.dp (F := F) _ _ h
  | dict _ => exact Rep.dp (F := F) _ _ h
end
/-- a new list of its own -/
def Frs (K : PySem.W.Frag) (F : Addr → Prop) (H H' : Hp) (d : PyData) (v : V) : Prop := ∀ xs, d = .list xs → ∃ a vs, v = .ref a ∧ Nw H a ∧ H' a = some (.lst vs) ∧ Reps K (Fadd F a) H' xs vs
/-- what is known of an expression: the slots that it changes, those that its value, its value's items may reach, whether a list is new -/
structure St where
  mu : List Nat
  oc : List Nat
  oi : List Nat
  fr : Bool
def VP (Y : Sys) (M : MM) (sc : SC) (z : St) (σ : L2.St) (H : Hp) (Q : VK) : PyData → Env → Prop := fun d env' =>
  ∀ v H', Fi Y.K M sc σ H' env' → Kp Y.T (FL z.mu σ) H H' → Rp Y.K (FX M z.oc σ) (FX M z.oi σ) H' d v → (z.fr = true → Frs Y.K (FX M z.oi σ) H H' d v) → Q v H'
section
variable (Y : Sys) (M : MM) (sc : SC) (W : WX) (X : Cx)
/-- an expression does what f says -/
def JEt (t : TE) (f : Env → Out PyData) (z : St) : Prop :=
  ∀ σ H env Q, Fi Y.K M sc σ H env → LamX.Tabs Y.T H → PO Y M sc W z.mu σ H (VP Y M sc z σ H Q) (f env) → t σ H Q
def JE (e : Expr) (f : Env → Out PyData) (z : St) : Prop := (∀ i ∈ z.mu, M i = true) ∧ ∃ t, PE X e t ∧ JEt Y M sc W t f z
def JTt (t : TT) (f : Env → Out PyData) (mu : List Nat) : Prop :=
  ∀ σ H env Q, Fi Y.K M sc σ H env → LamX.Tabs Y.T H → PO Y M sc W mu σ H (fun d env' => ∃ k, tru d = some k ∧ ∀ H', Fi Y.K M sc σ H' env' → Kp Y.T (FL mu σ) H H' → Q k H') (f env) → t σ H Q
def JT (e : Expr) (f : Env → Out PyData) (mu : List Nat) : Prop := (∀ i ∈ mu, M i = true) ∧ ∃ t, PT X e t ∧ JTt Y M sc W t f mu
def JW (e : Expr) (f : Env → Out PyData) (mu : List Nat) : Prop := (∀ i ∈ mu, M i = true) ∧ ∃ t, PW X e t ∧ JTt Y M sc W t f mu
def JAt (t : TA) (f : Env → Out (List PyData)) (mu oc : List Nat) : Prop :=
  ∀ σ H env Q, Fi Y.K M sc σ H env → LamX.Tabs Y.T H → PO Y M sc W mu σ H (fun ds env' =>
    ∀ vs H', Fi Y.K M sc σ H' env' → Kp Y.T (FL mu σ) H H' → Reps Y.K (FX M oc σ) H' ds vs → Q vs H') (f env) → t σ H Q
def JA (es : List Expr) (f : Env → Out (List PyData)) (mu oc : List Nat) : Prop := (∀ i ∈ mu, M i = true) ∧ ∃ t, PA X es t ∧ JAt Y M sc W t f mu oc
end
def sep (M : Nat → Bool) (l o : List Nat) : Bool := l.all fun i => M i && !o.contains i
def subl (l o : List Nat) : Bool := l.all fun i => o.contains i
theorem subl_mem {l o : List Nat} (h : subl l o = true) : ∀ i, i ∈ l → i ∈ o := fun i hi => by
  have q := List.all_eq_true.mp h i hi
  simpa using q
section
variable {Y : Sys} {M : MM} {sc : SC} {W : WX} {X : Cx} {σ : L2.St} {H H1 : Hp}
theorem sep_FL {l o : List Nat} (h : sep M.m l o = true) {a : Addr} (z : FL l σ a) : FX M o σ a := by
  obtain ⟨i, h1, h2⟩ := z
  have q := List.all_eq_true.mp h i h1
  simp only [Bool.and_eq_true, Bool.not_eq_true', List.contains_eq_mem, decide_eq_false_iff_not] at q
  exact .inr ⟨i, q.1, q.2, h2⟩
theorem mem_l {l l' : List Nat} : ∀ i, i ∈ l → i ∈ l ++ l' := fun _ h => List.mem_append_left _ h
theorem mem_r {l l' : List Nat} : ∀ i, i ∈ l' → i ∈ l ++ l' := fun _ h => List.mem_append_right _ h
variable {e a b c : Expr} {f g h : Env → Out PyData} {za zb zc : St} {pos : Pos}
abbrev s0 : St := ⟨[], [], [], false⟩

/-! ### names and constants -/
theorem getV_some {env : Env} {i : Nat} {d : PyData} (h : getV env i = some d) : env[i]? = some (some d) := by
  unfold getV at h
  cases q : env[i]? with
  | none => rw [q] at h; cases h
  | some o => rw [q] at h; cases o with
    | none => cases h
    | some d' => cases h; rfl
theorem je_var {i : Nat} {x : Str} (hN : X.N[i]? = some x) (hv : Vis X.env.scope x) (hd : (x == ("__debug__" : Str)) = false) (hcd : (x == ("__classdict__" : Str)) = false) :
    JE Y M sc W X (.Name x pos) (fun env => VF.lift (getV env i) env) ⟨[], if M i then [i] else [], [], false⟩ := by
  refine ⟨by simp, _, pe_var hN hv hd hcd, fun σ H env Q F Tb h => ?_⟩
  obtain ⟨d, e1, h⟩ := PO.lift h
  have e2 := getV_some e1
  cases m : M i with
  | false =>
    obtain ⟨v, h1, h2⟩ := F.val i d e2 m
    exact ⟨v, h1, h v H F .refl (by simpa [m] using Rp.of h2) (fun z => by cases z)⟩
  | true =>
    obtain ⟨p, vs, xs, h1, h2, h3, h4⟩ := F.mt i d e2 m
    subst h2
    refine ⟨_, h1, h _ H F .refl ?_ (fun z => by cases z)⟩
    simp only [m, if_true]
    refine ⟨p, vs, rfl, ⟨?_, h3⟩, h4⟩
    rintro (g | ⟨j, k1, k2, k3⟩)
    · exact F.gno i p m h1 g
    · exact k2 (by rw [F.inj i j p m k1 h1 k3]; simp)
theorem je_const {d : PyData} {v : V} (hp : PE X e (tC v)) (hr : ∀ F H, Rep Y.K F H d v) : JE Y M sc W X e (fun env => .ok d env) s0 := by
  refine ⟨by simp, _, hp, fun σ H env Q F Tb h => ?_⟩
  exact h v H F .refl (Rp.of (hr _ _)) (fun z => by cases z)

/-! ### two operands -/
theorem two {σ : L2.St} {H : Hp} {env : Env} {Q : V → V → Hp → Prop} {ta tb : TE} (ja : JEt Y M sc W ta f za) (jb : JEt Y M sc W tb g zb)
    (s : sep M.m zb.mu za.oc = true) (s' : sep M.m zb.mu za.oi = true) (F : Fi Y.K M sc σ H env) (Tb : LamX.Tabs Y.T H)
    (h : PO Y M sc W (za.mu ++ zb.mu) σ H (fun x e1 => PO Y M sc W (za.mu ++ zb.mu) σ H (fun y e2 =>
      ∀ u v H2, Fi Y.K M sc σ H2 e2 → Kp Y.T (FL (za.mu ++ zb.mu) σ) H H2 → Rp Y.K (FX M za.oc σ) (FX M za.oi σ) H2 x u → Rp Y.K (FX M zb.oc σ) (FX M zb.oi σ) H2 y v → Q u v H2) (g e1)) (f env)) :
    ta σ H fun x H1 => tb σ H1 fun y H2 => Q x y H2 := by
  refine ja σ H env _ F Tb ((h.to mem_l .refl).imp fun x e1 h1 u H1 F1 k1 r1 _ => ?_)
  have k1' : Kp Y.T (FL (za.mu ++ zb.mu) σ) H H1 := k1.mono fun a z => z.sub mem_l
  refine jb σ H1 e1 _ F1 (k1.tabs Tb) ((h1.to mem_r k1').imp fun y e2 h2 v H2 F2 k2 r2 _ => ?_)
  exact h2 u v H2 F2 (k1'.trans (k2.mono fun a z => z.sub mem_r)) (r1.keep k2.keep (fun a z => sep_FL s z) (fun a z => sep_FL s' z)) r2
/-- an operator's rule r does what o says: a value of its own, in a heap that has grown -/
def OpD (Y : Sys) (r : R2) (o : PyData → PyData → Option PyData) : Prop := ∀ x y z u v H Q (F1 G1 F2 G2 F : Addr → Prop), o x y = some z → Rp Y.K F1 G1 H x u → Rp Y.K F2 G2 H y v → (∀ a, F a → G1 a) → (∀ a, F a → G2 a) → (∀ p, H p = none → ¬ F p) →
  (∀ w H', Kp Y.T F0 H H' → Rep Y.K F H' z w → Frs Y.K F H H' z w → Q w H') → r u v H Q
theorem Nw.back {env : Env} {mu : List Nat} {p : Addr} (n : Nw H1 p) (F : Fi Y.K M sc σ H1 env) (k : Kp Y.T (FL mu σ) H H1) (m : ∀ i ∈ mu, M i = true) : Nw H p := fun o ho => by
  by_cases hf : FL mu σ p
  · obtain ⟨i, hi, e⟩ := hf
    have hl : i < env.length := by
      rw [F.len]
      exact (List.getElem?_eq_some_iff.mp e).1
    cases q : env[i]? with
    | none => rw [List.getElem?_eq_none_iff] at q; omega
    | some d => cases d with
      | none => rw [F.un i (m i hi) q] at e; cases e
      | some d =>
        obtain ⟨a, vs, xs, h1, h2, h3, _⟩ := F.mt i d q (m i hi)
        rw [e] at h1
        cases h1
        obtain ⟨ps, z⟩ := n _ h3
        cases z
  · by_cases ht : ∃ ps, o = .tbl ps
    · exact ht
    · exact n o (k.keep p o ho hf fun ps z => ht ⟨ps, z⟩)
/-- no slot's list stands at a new place -/
theorem Fi.out {env : Env} {p : Addr} {o : List Nat} (F : Fi Y.K M sc σ H env) (hp : H p = none) : ¬ FX M o σ p := fun z => by
  obtain g | ⟨i, h2, h3, h4⟩ := z
  · obtain ⟨vs, h⟩ := F.gin p g
    rw [hp] at h; cases h
  have hl2 : i < env.length := by rw [F.len]; exact (List.getElem?_eq_some_iff.mp h4).1
  cases q : env[i]? with
  | none => rw [List.getElem?_eq_none_iff] at q; omega
  | some d => cases d with
    | none => rw [F.un i h2 q] at h4; cases h4
    | some d =>
      obtain ⟨a, vs, xs, g1, g2, g3, _⟩ := F.mt i d q h2
      rw [h4] at g1; cases g1
      rw [hp] at g3; cases g3
theorem app_M {l l' : List Nat} (h : ∀ i ∈ l, M i = true) (h' : ∀ i ∈ l', M i = true) : ∀ i ∈ l ++ l', M i = true := fun i hi => (List.mem_append.mp hi).elim (h i) (h' i)
theorem Kp.grow {T} {F : Addr → Prop} {H H'} (k : Kp T F0 H H') : Kp T F H H' := k.mono fun _ z => z.elim
theorem FX_app {o o' : List Nat} {a : Addr} (z : FX M (o ++ o') σ a) : FX M o σ a ∧ FX M o' σ a := by
  obtain g | ⟨i, h1, h2, h3⟩ := z
  · exact ⟨.inl g, .inl g⟩
  exact ⟨.inr ⟨i, h1, fun q => h2 (List.mem_append_left _ q), h3⟩, .inr ⟨i, h1, fun q => h2 (List.mem_append_right _ q), h3⟩⟩
theorem je_op {op : Operator} {r : R2} {o : PyData → PyData → Option PyData} (ho : OpR X (binaryOp op) r) (hr : OpD Y r o) (ja : JE Y M sc W X a f za) (jb : JE Y M sc W X b g zb) (s : sep M.m zb.mu za.oc = true) (s' : sep M.m zb.mu za.oi = true) :
    JE Y M sc W X (.BinOp a op b pos) (fun env => (f env).bind fun x e1 => (g e1).bind fun y e2 => VF.lift (o x y) e2) ⟨za.mu ++ zb.mu, za.oi ++ zb.oi, za.oi ++ zb.oi, true⟩ := by
  obtain ⟨am, ta, pa, ja⟩ := ja
  obtain ⟨bm, tb, pb, jb⟩ := jb
  refine ⟨app_M am bm, _, pe_op ho pa pb, fun σ H env Q F Tb h => ?_⟩
  refine two ja jb s s' F Tb (h.bind.imp fun x e1 h1 => h1.bind.imp fun y e2 h2 u v H2 F2 k2 r1 r2 => ?_)
  obtain ⟨z, ez, h3⟩ := PO.lift h2
  refine hr x y z u v H2 _ _ _ _ _ (FX M (za.oi ++ zb.oi) σ) ez r1 r2 (fun a q => (FX_app q).1) (fun a q => (FX_app q).2) (fun p hp => F2.out hp) fun w H3 k3 rz fz => ?_
  refine h3 w H3 (F2.grow k3.keep) (k2.trans k3.grow) (Rp.of rz) fun _ xs ex => ?_
  obtain ⟨p, vs, e1, e2, e3, e4⟩ := fz xs ex
  exact ⟨p, vs, e1, Nw.back e2 F2 k2 (app_M am bm), e3, e4⟩
end
end VF
set_option Elab.async false
set_option maxRecDepth 100000
set_option maxHeartbeats 4000000
namespace VF
open PySem PySem.Spec PyProof.Rows L2
/-! ### a tuple once, or not at all -/
theorem tuple_mul1 (l : Addr) (items : Array Value) (n : Nat) (dd : Option Addr) (sl : Array (Option Value)) (x : Int) (u : Tok) (c0 : (decide (x < -(2 ^ 63)) || decide (x ≥ 2 ^ 63)) = false) (c1 : (items.isEmpty || x == 1) = true) :
    Meets (Builtin.«tuple.__mul__» ⟨[.ref l, .int x u], []⟩) (fun _ R s => s.heap.get? l = some { cls := .type "tuple", dict := dd, data := .seq items n, slots := sl } ∧ R (.ok (.ret (.ref l))) s) :=
  .of_wp fun prog w A R s h => by
    obtain ⟨hp, g, d, tk, os⟩ := s
    obtain ⟨hl, h⟩ := h
    have f1 := AutoSeq1.idx_int
    wp_walk using wpAny_loadPart' hl
    repeat (first
      | (refine wpAny_ite_false (decide_eq_false (by rw [c0]; exact Bool.false_ne_true)) ?_; wp_walk using wpAny_loadPart' hl)
      | (refine wpAny_ite_true (decide_eq_true (by rw [c1])) ?_; wp_walk using wpAny_loadPart' hl))
    exact ⟨_, rfl, h⟩
theorem tuple_mul0 (l : Addr) (items : Array Value) (n : Nat) (dd : Option Addr) (sl : Array (Option Value)) (x : Int) (u : Tok) (c0 : (decide (x < -(2 ^ 63)) || decide (x ≥ 2 ^ 63)) = false) (c1 : (items.isEmpty || x == 1) = false) (c2 : (decide (x ≤ 0) || items.isEmpty) = true) :
    Meets (Builtin.«tuple.__mul__» ⟨[.ref l, .int x u], []⟩) (fun _ R s => s.heap.get? l = some { cls := .type "tuple", dict := dd, data := .seq items n, slots := sl } ∧
      R (.ok (.ret (Value.ref s.heap.objs.size))) { s with heap := s.heap.push { cls := Value.type "tuple", data := Data.seq #[] }, toks := s.toks }) :=
  .of_wp fun prog w A R s h => by
    obtain ⟨hp, g, d, tk, os⟩ := s
    obtain ⟨hl, h⟩ := h
    have f1 := AutoSeq1.idx_int
    wp_walk using wpAny_loadPart' hl
    repeat (first
      | (refine wpAny_ite_false (decide_eq_false (by rw [c0]; exact Bool.false_ne_true)) ?_; wp_walk using wpAny_loadPart' hl)
      | (refine wpAny_ite_false (decide_eq_false (by rw [c1]; exact Bool.false_ne_true)) ?_; wp_walk using wpAny_loadPart' hl)
      | (refine wpAny_ite_true (decide_eq_true (by rw [c2])) ?_; wp_walk using wpAny_loadPart' hl))
    exact ⟨_, rfl, h⟩
end VF
set_option Elab.async false
set_option maxRecDepth 100000
set_option maxHeartbeats 4000000
namespace VF
open PySem L2
theorem lim_line {n : Nat} (h : n ≤ lim) : n ≤ sizeLine := by rw [sizeLine_eq]; unfold lim at h; omega
section
variable {Y : Sys} {M : MM} {sc : SC} {W : WX} {X : Cx} {σ : L2.St} {H H1 : Hp}
variable {e a b c : Expr} {f g h : Env → Out PyData} {fs : Env → Out (List PyData)} {za zb zc : St} {pos : Pos} {ma mb oa ob : List Nat}

/-! ### arguments, displays -/
theorem ja_nil : JA Y M sc W X [] (fun env => .ok [] env) [] [] := ⟨by simp, _, pa_nil, fun σ H env Q F Tb h => h [] H F .refl rfl⟩
theorem ja_cons {es : List Expr} (hs : starEach (e :: es) X.env = (false, eval e X.env) :: starEach es X.env) (ja : JE Y M sc W X e f za) (jb : JA Y M sc W X es fs mb ob) (s : sep M.m mb za.oc = true) (s' : sep M.m mb za.oi = true) :
    JA Y M sc W X (e :: es) (fun env => (f env).bind fun x e1 => (fs e1).bind fun xs e2 => .ok (x :: xs) e2) (za.mu ++ mb) (za.oc ++ za.oi ++ ob) := by
  obtain ⟨am, ta, pa, ja⟩ := ja
  obtain ⟨bm, tb, pb, jb⟩ := jb
  refine ⟨app_M am bm, _, pa_cons pa pb hs, fun σ H env Q F Tb h => ?_⟩
  refine ja σ H env _ F Tb ((h.bind.to mem_l .refl).imp fun x e1 h1 u H1 F1 k1 r1 _ => ?_)
  have k1' : Kp Y.T (FL (za.mu ++ mb) σ) H H1 := k1.mono fun a z => z.sub mem_l
  refine jb σ H1 e1 _ F1 (k1.tabs Tb) ((h1.bind.to mem_r k1').imp fun ys e2 h2 vs H2 F2 k2 r2 => ?_)
  have r3 := r1.keep k2.keep (fun a z => sep_FL s z) (fun a z => sep_FL s' z)
  refine h2 (u :: vs) H2 F2 (k1'.trans (k2.mono fun a z => z.sub mem_r)) ⟨u, vs, rfl, ?_, Reps.weak (fun a z => (FX_app z).2) _ _ r2⟩
  have r4 : Rep Y.K (FX M (za.oc ++ za.oi) σ) H2 x u := by
    cases x with
    | list ds => obtain ⟨a, vs, e, r, q⟩ := r3; exact ⟨a, vs, e, r.weak fun a z => (FX_app z).1, Reps.weak (fun a z => (FX_app z).2) _ _ q⟩
    | tuple ds => obtain ⟨a, vs, e, r, q⟩ := r3; exact ⟨a, vs, e, r.weak fun a z => (FX_app z).2, Reps.weak (fun a z => (FX_app z).2) _ _ q⟩
    | none => exact r3
    | bool _ => exact r3
    | int _ => exact r3
    | str _ => exact r3
    | dict _ => exact r3
  exact Rep.weak (fun a z => (FX_app z).1) _ _ r4
theorem je_tup {es : List Expr} {k : Nat} (ja : JA Y M sc W X es fs ma oa) :
    JE Y M sc W X (.Tuple es k pos) (fun env => (fs env).bind fun ds e => if ds.length ≤ lim then .ok (.tuple ds) e else .bad) ⟨ma, oa, oa, true⟩ := by
  obtain ⟨am, ta, pa, ja⟩ := ja
  refine ⟨am, _, pe_tupF pa, fun σ H env Q F Tb h => ?_⟩
  refine ja σ H env _ F Tb (h.bind.imp fun ds e1 h1 vs H1 F1 k1 r1 => ?_)
  by_cases hl : ds.length ≤ lim
  · rw [if_pos hl] at h1
    refine ⟨by rw [r1.len]; exact lim_line hl, fun p o hp hd => ?_⟩
    have k2 : Kp Y.T F0 H1 (upd H1 p (.frz o (.tup vs))) := .new hp
    have h1 : VP Y M sc ⟨ma, oa, oa, true⟩ σ H Q (.tuple ds) e1 := h1
    exact h1 (.ref p) _ (F1.grow k2.keep) (k1.trans k2.grow) ⟨p, vs, rfl, .inl ⟨F1.out hp, o, hd, upd_same⟩, Reps.keep (k2.keep.mono fun _ z => z.elim) _ _ r1⟩ (fun _ xs e => by cases e)
  · rw [if_neg hl] at h1
    exact h1.elim
/-- a new list is handed on -/
theorem new_list {Q : VK} {z : St} {env : Env} {ds : List PyData} {vs : List V} {p : Addr} (zm : ∀ i ∈ z.mu, M i = true) (h : VP Y M sc z σ H Q (.list ds) env) (F1 : Fi Y.K M sc σ H1 env) (k1 : Kp Y.T (FL z.mu σ) H H1)
    (r : Reps Y.K (FX M z.oi σ) H1 ds vs) (hp : H1 p = none) : Q (.ref p) (upd H1 p (.lst vs)) := by
  have k2 : Kp Y.T F0 H1 (upd H1 p (.lst vs)) := .new hp
  have r2 := Reps.keep (k2.keep.mono fun _ z => z.elim) _ _ r
  exact h (.ref p) _ (F1.grow k2.keep) (k1.trans k2.grow) ⟨p, vs, rfl, ⟨F1.out hp, upd_same⟩, r2⟩
    (fun _ xs e => by cases e; exact ⟨p, vs, rfl, Nw.back (Nw.of hp) F1 k1 zm, upd_same, Reps.keep (k2.keep.mono fun _ z => z.elim) _ _ (Reps.add (Nw.of hp) _ _ r)⟩)
theorem new_tup {Q : VK} {z : St} {env : Env} {ds : List PyData} {vs : List V} (h : VP Y M sc z σ H Q (.tuple ds) env) (F1 : Fi Y.K M sc σ H1 env) (k1 : Kp Y.T (FL z.mu σ) H H1)
    (r : Reps Y.K (FX M z.oi σ) H1 ds vs) : NewT H1 vs Q := fun p o hp hd => by
  have k2 : Kp Y.T F0 H1 (upd H1 p (.frz o (.tup vs))) := .new hp
  have r2 := Reps.keep (k2.keep.mono fun _ z => z.elim) _ _ r
  exact h (.ref p) _ (F1.grow k2.keep) (k1.trans k2.grow) ⟨p, vs, rfl, .inl ⟨F1.out hp, o, hd, upd_same⟩, r2⟩ (fun _ xs e => by cases e)
theorem je_lst {es : List Expr} (ja : JA Y M sc W X es fs ma oa) :
    JE Y M sc W X (.List es pos) (fun env => (fs env).bind fun ds e => if ds.length ≤ lim then .ok (.list ds) e else .bad) ⟨ma, oa, oa, true⟩ := by
  obtain ⟨am, ta, pa, ja⟩ := ja
  refine ⟨am, _, pe_lst pa, fun σ H env Q F Tb h => ?_⟩
  refine ja σ H env _ F Tb (h.bind.imp fun ds e1 h1 vs H1 F1 k1 r1 => ?_)
  by_cases hl : ds.length ≤ lim
  · rw [if_pos hl] at h1
    exact ⟨by rw [r1.len]; exact lim_line hl, fun p hp => new_list (z := ⟨ma, oa, oa, true⟩) am h1 F1 k1 r1 hp⟩
  · rw [if_neg hl] at h1
    exact h1.elim

/-! ### operators -/
theorem rp_int {F G : Addr → Prop} {i : Int} {v : V} (h : Rp Y.K F G H (.int i) v) : v = .int i := h
theorem rp_str {F G : Addr → Prop} {i : Str} {v : V} (h : Rp Y.K F G H (.str i) v) : v = .str i := h
theorem rp_bool {F G : Addr → Prop} {i : Bool} {v : V} (h : Rp Y.K F G H (.bool i) v) : v = .bl i := h
/-- a new list, a new tuple as an operator's answer -/
theorem opd_list {Q : VK} {F : Addr → Prop} {ds : List PyData} {vs : List V} {p : Addr} (h : ∀ w H', Kp Y.T F0 H H' → Rep Y.K F H' (.list ds) w → Frs Y.K F H H' (.list ds) w → Q w H') (r : Reps Y.K F H ds vs) (o : ∀ p, H p = none → ¬ F p) (hn : H p = none) : Q (.ref p) (upd H p (.lst vs)) := by
  have k : Kp Y.T F0 H (upd H p (.lst vs)) := .new hn
  have r2 := Reps.keep (k.keep.mono fun _ z => z.elim) _ _ r
  exact h _ _ k ⟨p, vs, rfl, ⟨o p hn, upd_same⟩, r2⟩ fun xs e => by cases e; exact ⟨p, _, rfl, Nw.of hn, upd_same, Reps.keep (k.keep.mono fun _ z => z.elim) _ _ (Reps.add (Nw.of hn) _ _ r)⟩
theorem opd_tup {Q : VK} {F : Addr → Prop} {ds : List PyData} {vs : List V} (h : ∀ w H', Kp Y.T F0 H H' → Rep Y.K F H' (.tuple ds) w → Frs Y.K F H H' (.tuple ds) w → Q w H') (r : Reps Y.K F H ds vs) (o : ∀ p, H p = none → ¬ F p) : NewT H vs Q := fun p ob hn hd => by
  have k : Kp Y.T F0 H (upd H p (.frz ob (.tup vs))) := .new hn
  exact h _ _ k ⟨p, vs, rfl, .inl ⟨o p hn, ob, hd, upd_same⟩, Reps.keep (k.keep.mono fun _ z => z.elim) _ _ r⟩ fun xs e => by cases e
abbrev rAddA (K : PySem.W.Frag) : R2 := fun x y H Q => (rI0 (fun i j => .int (i + j)) x y H Q) ∨ (∃ i j, x = .str i ∧ y = .str j ∧ i.length + j.length ≤ sizeLine ∧ Q (.str (i ++ j)) H) ∨ rCat x y H Q ∨ rCatF K x y H Q
theorem op_addA : OpR X (binaryOp .Add) (rAddA X.K) := op_add.or (op_add_str.or (op_cat.or op_catF))
theorem opd_add : OpD Y (rAddA Y.K) (binD .add) := by
  intro x y z u v H Q F1 G1 F2 G2 F e r1 r2 s1 s2 o h
  cases x <;> cases y <;> simp only [binD] at e <;> try (cases e; done)
  · cases e; cases rp_int r1; cases rp_int r2
    exact .inl ⟨_, _, rfl, rfl, h _ H .refl rfl (fun xs e => by cases e)⟩
  · split at e <;> cases e
    rename_i hl
    cases rp_str r1; cases rp_str r2
    exact .inr (.inl ⟨_, _, rfl, rfl, lim_line hl, h _ H .refl rfl (fun xs e => by cases e)⟩)
  · split at e <;> cases e
    rename_i hl
    obtain ⟨p, vs, rfl, t1, q1⟩ := r1
    obtain ⟨q, ws, rfl, t2, q2⟩ := r2
    exact .inr (.inr (.inl ⟨p, q, vs, ws, rfl, rfl, t1.2, t2.2, by rw [q1.len, q2.len]; exact lim_line hl, fun n hn => opd_list h (Reps.app (Reps.weak s1 _ _ q1) (Reps.weak s2 _ _ q2)) o hn⟩))
  · split at e <;> cases e
    rename_i hl
    obtain ⟨p, vs, rfl, t1, q1⟩ := r1
    obtain ⟨q, ws, rfl, t2, q2⟩ := r2
    have rr := Reps.app (Reps.weak s1 _ _ q1) (Reps.weak s2 _ _ q2)
    refine .inr (.inr (.inr ⟨p, q, vs, ws, rfl, rfl, t1.sq, t2.sq, by rw [q1.len, q2.len]; exact lim_line hl, fun e => ?_, fun e1 e2 => ?_, fun _ _ => opd_tup h rr o⟩))
    · subst e
      exact h _ H .refl ⟨q, ws, rfl, t2.weak s2, rr⟩ fun xs e => by cases e
    · subst e2
      exact h _ H .refl ⟨p, vs, rfl, t1.weak s1, by simpa using rr⟩ fun xs e => by cases e
theorem opd_sub : OpD Y (rI0 fun i j => .int (i - j)) (binD .sub) := by
  intro x y z u v H Q F1 G1 F2 G2 F e r1 r2 s1 s2 o h
  cases x <;> cases y <;> simp only [binD] at e <;> try (cases e; done)
  cases e; cases rp_int r1; cases rp_int r2
  exact ⟨_, _, rfl, rfl, h _ H .refl rfl (fun xs e => by cases e)⟩
def rRepF (K : PySem.W.Frag) : R2 := fun x y H Q => ∃ (l : Addr) (k : Int) (xs : List V), x = .ref l ∧ y = .int k ∧ SqT K H l xs ∧ -100000 ≤ k ∧ k ≤ 100000 ∧ xs.length * k.toNat ≤ 100000 ∧
  (xs = [] ∨ k = 1 → Q (.ref l) H) ∧ (¬ (xs = [] ∨ k = 1) → NewT H (List.replicate k.toNat xs).flatten Q)
theorem op_repF : OpR X (binaryOp .Mult) (rRepF X.K) := fun pins s σ H x y v u Q I rx ry h => by
  obtain ⟨l, k, xs, rfl, rfl, hT, k1, k2, hz, q1, q⟩ := h
  cases rx
  obtain ⟨tk, rfl⟩ := ry
  obtain ⟨its, r, ⟨⟨cls, dd, data, sl⟩, ho, hc, n, hd⟩, _⟩ := I.tuple hT
  simp only at hc hd
  subst hc hd
  have len : its.length = xs.length := r.length.symm
  have b1 : (decide (k < -(2 ^ 63)) || decide (k ≥ 2 ^ 63)) = false := by
    rw [decide_eq_false (by omega : ¬ k < -(2 ^ 63)), decide_eq_false (by omega : ¬ k ≥ 2 ^ 63)]
    rfl
  have m1 := int_rmul_tuple k tk l its.toArray n dd sl
  refine wpAny_binaryOp_repeat_ref (T := "tuple") (U := "int") (by decide) ⟨_, ho, rfl⟩ (fun s' => typeIs_int s' k tk) noFill_tuple_mul F.fills_int_mul F.slot_int_rmul repeat_tuple F.slot_int_index.lookup ?_
  refine call_meets F.slot_int_rmul (typeIs_int s k tk) F.entry_int_rmul (F.args_int_rmul_2 _ _) m1 ⟨ho, rfl, ⟨_, ho, rfl⟩, ?_⟩
  by_cases one : xs = [] ∨ k = 1
  · have b2 : (its.toArray.isEmpty || k == 1) = true := by
      rcases one with e | e
      · rw [e] at len
        rw [List.eq_nil_of_length_eq_zero len]
        rfl
      · rw [e]; simp
    exact call_meets F.slot_tuple_mul ⟨_, ho, rfl⟩ F.entry_tuple_mul (F.args_tuple_mul_2 _ _) (tuple_mul1 l its.toArray n dd sl k tk b1 b2) ⟨ho, .ref l, H, I, rfl, q1 one⟩
  have hne : xs ≠ [] := fun z => one (.inl z)
  have hk1 : k ≠ 1 := fun z => one (.inr z)
  have q := q one
  have emp : its.toArray.isEmpty = false := by
    cases its with
    | nil => exact absurd (List.eq_nil_of_length_eq_zero len.symm) hne
    | cons _ _ => rfl
  have b2 : (its.toArray.isEmpty || k == 1) = false := by
    rw [emp, Bool.false_or, beq_eq_false_iff_ne]
    omega
  by_cases k0 : k ≤ 0
  · have b3 : (decide (k ≤ 0) || its.toArray.isEmpty) = true := by rw [decide_eq_true k0]; rfl
    have e0 : k.toNat = 0 := by omega
    rw [e0] at q
    refine call_meets F.slot_tuple_mul ⟨_, ho, rfl⟩ F.entry_tuple_mul (F.args_tuple_mul_2 _ _) (tuple_mul0 l its.toArray n dd sl k tk b1 b2 b3) ⟨ho, ?_⟩
    exact ⟨.ref s.heap.objs.size, _, VF.Inv.tfz (t' := s.toks) (its := []) I .nil (by decide), rfl, q _ _ (I.hok.fresh (Nat.le_refl _)) rfl⟩
  have szi : ((its.toArray.size : Nat) : Int) * k ≤ 100000 := by
    rw [List.size_toArray, len]
    have e : ((xs.length * k.toNat : Nat) : Int) = ((xs.length : Nat) : Int) * k := by rw [Int.natCast_mul, Int.toNat_of_nonneg (by omega)]
    rw [← e]
    omega
  have flen : (List.replicate k.toNat its).flatten.length ≤ sizeLine := by
    rw [PyProof.Rows.lm_len_rep_flat, len, sizeLine_eq, Nat.mul_comm]
    omega
  have xlen : (List.replicate k.toNat xs).flatten.length ≤ sizeLine := by
    rw [PyProof.Rows.lm_len_rep_flat, sizeLine_eq, Nat.mul_comm]
    omega
  have b3 : (decide (k ≤ 0) || its.toArray.isEmpty) = false := by
    rw [emp, Bool.or_false, decide_eq_false (by omega : ¬ k ≤ 0)]
  have b4 : Builtin.Tuple.tupleTooMany (((its.toArray.size : Nat) : Int) * k) = false := by
    unfold Builtin.Tuple.tupleTooMany
    rw [sizeLine_eq, decide_eq_false (by omega)]
  have m2 := tuple_mulW l its.toArray n dd sl k tk b1 b2 b3 (by omega) b4 (by rw [size_rep, List.size_toArray]; exact flen)
  refine call_meets F.slot_tuple_mul ⟨_, ho, rfl⟩ F.entry_tuple_mul (F.args_tuple_mul_2 _ _) m2 ⟨ho, ?_⟩
  rw [size_rep]
  exact ⟨.ref s.heap.objs.size, _, VF.Inv.tfz (t' := s.toks) I (r.rep k.toNat) xlen, rfl, q _ _ (I.hok.fresh (Nat.le_refl _)) rfl⟩
/-- * of two factors of together less than four million bits -/
def CMulG (i j : Int) : Prop := i.natAbs.log2 + j.natAbs.log2 < 4000000
theorem CMulG.ok {i j : Int} (h : CMulG i j) : IntMulOk i j := by
  have b : ∀ x : Int, Builtin.Int.intBits x ≤ x.natAbs.log2 + 1 := fun x => by
    unfold Builtin.Int.intBits
    split <;> omega
  have h1 := b i
  have h2 := b j
  have h3 : i.natAbs.log2 + j.natAbs.log2 < 4000000 := h
  have e : bitsLine = 134217728 := by decide
  unfold IntMulOk
  rw [Bool.and_eq_true]
  rintro ⟨_, z⟩
  unfold Builtin.Int.intTooBig at z
  rw [decide_eq_true_eq, e] at z
  omega
theorem op_mulG {X : Cx} : OpR X (binaryOp .Mult) (rI CMulG fun i j => .int (i * j)) := opI fun _ _ _ _ _ _ _ hc q => PyProof.Rows.mul_int q hc.ok
abbrev rMulA (K : PySem.W.Frag) : R2 := fun x y H Q => (rI CMulG (fun i j => .int (i * j)) x y H Q) ∨ rRep x y H Q ∨ rRepF K x y H Q
theorem op_mulA : OpR X (binaryOp .Mult) (rMulA X.K) := op_mulG.or (op_rep.or op_repF)
theorem Reps.flat {K : PySem.W.Frag} {F : Addr → Prop} {H : Hp} {ds : List PyData} {vs : List V} (r : Reps K F H ds vs) : ∀ n : Nat, Reps K F H (List.replicate n ds).flatten (List.replicate n vs).flatten
  | 0 => rfl
  | n + 1 => by rw [List.replicate_succ, List.replicate_succ, List.flatten_cons, List.flatten_cons]; exact Reps.app r (Reps.flat r n)
theorem opd_mul : OpD Y (rMulA Y.K) (binD .mul) := by
  intro x y z u v H Q F1 G1 F2 G2 F e r1 r2 s1 s2 o h
  cases x <;> cases y <;> simp only [binD] at e <;> try (cases e; done)
  · rename_i i j
    have hc : CMulG i j ∧ z = .int (i * j) := by
      split at e
      · rename_i hl
        cases e
        exact ⟨show _ < 4000000 by omega, rfl⟩
      · split at e <;> cases e
        rename_i hl
        exact ⟨hl, rfl⟩
    obtain ⟨hl, rfl⟩ := hc
    cases rp_int r1; cases rp_int r2
    exact .inl ⟨_, _, rfl, rfl, hl, h _ H .refl rfl (fun xs e => by cases e)⟩
  · split at e <;> cases e
    rename_i ds k hl
    obtain ⟨p, vs, rfl, t1, q1⟩ := r1
    cases rp_int r2
    refine .inr (.inl ⟨p, _, vs, rfl, rfl, t1.2, by omega, by omega, ?_, fun n hn => opd_list h (Reps.flat (Reps.weak s1 _ _ q1) _) o hn⟩)
    rw [q1.len]
    have h1 : ds.length * k.toNat ≤ 1000 * 1000 := Nat.mul_le_mul hl.2.2 (by omega)
    exact lim_line (Nat.le_trans h1 (by decide))
  · split at e <;> cases e
    rename_i ds k hl
    obtain ⟨p, vs, rfl, t1, q1⟩ := r1
    cases rp_int r2
    have ln := q1.len
    have rr := Reps.flat (Reps.weak s1 _ _ q1) k.toNat
    refine .inr (.inr ⟨p, _, vs, rfl, rfl, t1.sq, hl.1, hl.2.1, by rw [ln]; exact hl.2.2, fun one => ?_, fun _ => opd_tup h rr o⟩)
    have e : (List.replicate k.toNat vs).flatten = vs := by
      rcases one with e | e
      · subst e
        have hf : ∀ n : Nat, (List.replicate n ([] : List V)).flatten = [] := fun n => by simp
        exact hf _
      · subst e
        show (List.replicate 1 vs).flatten = vs
        simp
    rw [e] at rr
    exact h _ H .refl ⟨p, vs, rfl, t1.weak s1, rr⟩ fun xs e => by cases e
theorem opd_fdiv : OpD Y (rI CDivW fun i j => .int (i / j)) (binD .fdiv) := by
  intro x y z u v H Q F1 G1 F2 G2 F e r1 r2 s1 s2 o h
  cases x <;> cases y <;> simp only [binD] at e <;> try (cases e; done)
  split at e <;> cases e
  rename_i hl
  cases rp_int r1; cases rp_int r2
  exact ⟨_, _, rfl, rfl, hl, h _ H .refl rfl (fun xs e => by cases e)⟩
theorem opd_mod : OpD Y (rI (fun _ j => 0 < j) fun i j => .int (i % j)) (binD .mod) := by
  intro x y z u v H Q F1 G1 F2 G2 F e r1 r2 s1 s2 o h
  cases x <;> cases y <;> simp only [binD] at e <;> try (cases e; done)
  split at e <;> cases e
  rename_i hl
  cases rp_int r1; cases rp_int r2
  exact ⟨_, _, rfl, rfl, hl, h _ H .refl rfl (fun xs e => by cases e)⟩
theorem opd_pow : OpD Y (rI CPow fun i j => .int (i ^ j.toNat)) (binD .pow) := by
  intro x y z u v H Q F1 G1 F2 G2 F e r1 r2 s1 s2 o h
  cases x <;> cases y <;> simp only [binD] at e <;> try (cases e; done)
  split at e <;> cases e
  rename_i hl
  cases rp_int r1; cases rp_int r2
  exact ⟨_, _, rfl, rfl, hl, h _ H .refl rfl (fun xs e => by cases e)⟩
def opOf : BOp → Operator
  | .add => .Add | .sub => .Sub | .mul => .Mult | .fdiv => .FloorDiv | .mod => .Mod | .pow => .Pow
theorem je_bin (op : BOp) (ja : JE Y M sc W X a f za) (jb : JE Y M sc W X b g zb) (s : sep M.m zb.mu za.oc = true) (s' : sep M.m zb.mu za.oi = true) (hK : X.K = Y.K) :
    JE Y M sc W X (.BinOp a (opOf op) b pos) (fun env => (f env).bind fun x e1 => (g e1).bind fun y e2 => VF.lift (binD op x y) e2) ⟨za.mu ++ zb.mu, za.oi ++ zb.oi, za.oi ++ zb.oi, true⟩ := by
  cases op with
  | add => exact je_op (hK ▸ op_addA) opd_add ja jb s s'
  | sub => exact je_op op_sub opd_sub ja jb s s'
  | mul => exact je_op (hK ▸ op_mulA) opd_mul ja jb s s'
  | fdiv => exact je_op op_fdivW opd_fdiv ja jb s s'
  | mod => exact je_op op_mod opd_mod ja jb s s'
  | pow => exact je_op op_pow opd_pow ja jb s s'
theorem je_neg (ja : JE Y M sc W X a f za) : JE Y M sc W X (.UnaryOp .USub a pos) (fun env => (f env).bind fun x e1 => (match x with | .int i => .ok (.int (-i)) e1 | _ => .bad)) ⟨za.mu, [], [], false⟩ := by
  obtain ⟨am, ta, pa, ja⟩ := ja
  refine ⟨am, _, pe_un un_neg pa, fun σ H env Q F Tb h => ?_⟩
  refine ja σ H env _ F Tb (h.bind.imp fun x e1 h1 u H1 F1 k1 r1 _ => ?_)
  cases x <;> try exact h1.elim
  cases rp_int r1
  exact ⟨_, rfl, h1 _ H1 F1 k1 (Rp.of (F := FX M [] σ) (d := .int _) rfl) (fun z => by cases z)⟩

/-! ### comparisons -/
def CmD (Y : Sys) (r : R2) (o : PyData → PyData → Option Bool) : Prop := ∀ x y k u v H Q (F1 G1 F2 G2 : Addr → Prop), o x y = some k → Rp Y.K F1 G1 H x u → Rp Y.K F2 G2 H y v → Q (.bl k) H → r u v H Q
theorem cmd_eq : CmD Y (rEqD Y.K) (cmpD .eq) := by
  intro x y k u v H Q F1 G1 F2 G2 e r1 r2 h
  simp only [cmpD] at e
  split at e <;> cases e
  rename_i hs
  rw [Bool.and_eq_true] at hs
  exact ⟨x, y, r1.dp, r2.dp, hs.1, hs.2, h⟩
theorem cmd_ne : CmD Y (rNeD Y.K) (cmpD .ne) := by
  intro x y k u v H Q F1 G1 F2 G2 e r1 r2 h
  simp only [cmpD] at e
  split at e <;> cases e
  rename_i hs
  rw [Bool.and_eq_true] at hs
  exact ⟨x, y, r1.dp, r2.dp, hs.1, hs.2, h⟩
theorem cmd_lt : CmD Y (rI0 fun i j => .bl (decide (i < j))) (cmpD .lt) := by
  intro x y k u v H Q F1 G1 F2 G2 e r1 r2 h
  cases x <;> cases y <;> simp only [cmpD] at e <;> try (cases e; done)
  cases e; cases rp_int r1; cases rp_int r2
  exact ⟨_, _, rfl, rfl, h⟩
theorem cmd_le : CmD Y (rI0 fun i j => .bl (decide (i ≤ j))) (cmpD .le) := by
  intro x y k u v H Q F1 G1 F2 G2 e r1 r2 h
  cases x <;> cases y <;> simp only [cmpD] at e <;> try (cases e; done)
  cases e; cases rp_int r1; cases rp_int r2
  exact ⟨_, _, rfl, rfl, h⟩
theorem cmd_gt : CmD Y (rI0 fun i j => .bl (decide (j < i))) (cmpD .gt) := by
  intro x y k u v H Q F1 G1 F2 G2 e r1 r2 h
  cases x <;> cases y <;> simp only [cmpD] at e <;> try (cases e; done)
  cases e; cases rp_int r1; cases rp_int r2
  exact ⟨_, _, rfl, rfl, h⟩
theorem cmd_ge : CmD Y (rI0 fun i j => .bl (decide (j ≤ i))) (cmpD .ge) := by
  intro x y k u v H Q F1 G1 F2 G2 e r1 r2 h
  cases x <;> cases y <;> simp only [cmpD] at e <;> try (cases e; done)
  cases e; cases rp_int r1; cases rp_int r2
  exact ⟨_, _, rfl, rfl, h⟩
theorem flat_V {F : Addr → Prop} {d : PyData} {v : V} (h : flat d = true) (r : Rep Y.K F H d v) : flatV v = true := by
  cases d <;> first | (cases r; rfl) | cases h
theorem flat_eq {F G : Addr → Prop} {d e : PyData} {v u : V} (h : flat d = true) (h' : flat e = true) (r : Rep Y.K F H d v) (r' : Rep Y.K G H e u) : eqV v u = PyData.eqv d e := by
  cases d <;> first | cases h; done | skip
  all_goals cases e <;> first | cases h'; done | skip
  all_goals (cases r; cases r'; rfl)
theorem flat_all {F : Addr → Prop} : ∀ {ds : List PyData} {vs : List V}, ds.all flat = true → Reps Y.K F H ds vs → vs.all flatV = true
  | [], _, _, r => by cases r; rfl
  | d :: ds, vs, h, r => by
    obtain ⟨v, w, e, r1, r2⟩ := r; subst e
    rw [List.all_cons, Bool.and_eq_true] at h ⊢
    exact ⟨flat_V h.1 r1, flat_all h.2 r2⟩
theorem flat_any {F G : Addr → Prop} {x : PyData} {u : V} (hx : flat x = true) (rx : Rep Y.K G H x u) : ∀ {ds : List PyData} {vs : List V}, ds.all flat = true → Reps Y.K F H ds vs → inV u vs = ds.any fun z => PyData.eqv z x
  | [], _, _, r => by cases r; rfl
  | d :: ds, vs, h, r => by
    obtain ⟨v, w, e, r1, r2⟩ := r; subst e
    rw [List.all_cons, Bool.and_eq_true] at h
    have ih := flat_any hx rx h.2 r2
    unfold inV at ih ⊢
    rw [List.any_cons, List.any_cons, ih, flat_eq h.1 hx r1 rx]
theorem rp_flat {F G : Addr → Prop} {d : PyData} {v : V} (h : flat d = true) (r : Rp Y.K F G H d v) : Rep Y.K F H d v := by
  cases d <;> first | exact r | cases h
def rInT (K : PySem.W.Frag) (neg : Bool) : R2 := fun x y H Q => ∃ d ds, Dp K H x d ∧ Dp K H y (.tuple ds) ∧ SeqAt.shaped d = true ∧ SeqAt.shaped (.tuple ds) = true ∧ Q (.bl (if neg then !ds.any fun z => PyData.eqv z d else ds.any fun z => PyData.eqv z d)) H
theorem op_inT {X : Cx} (hu : X.A.units + 65 < cLine) : OpR X (compareOp .In) (rInT X.K false) := by
  intro pins s σ H x y v u Q I rx ry h
  obtain ⟨d, ds, hd, he, sd, se, q⟩ := h
  obtain ⟨as, r1⟩ := Dp.reads I d x v hd rx
  obtain ⟨bs, r2⟩ := Dp.reads I (.tuple ds) y u he ry
  exact SeqAt.in_tuple_reads r2 r1 (SeqAt.canLay_of_shaped se) (SeqAt.canLay_of_shaped sd) (PyProof.Rows.room_in_shaped sd hu) ⟨.bl _, H, I, rfl, q⟩
theorem op_notInT {X : Cx} (hu : X.A.units + 65 < cLine) : OpR X (compareOp .NotIn) (rInT X.K true) := by
  intro pins s σ H x y v u Q I rx ry h
  obtain ⟨d, ds, hd, he, sd, se, q⟩ := h
  obtain ⟨as, r1⟩ := Dp.reads I d x v hd rx
  obtain ⟨bs, r2⟩ := Dp.reads I (.tuple ds) y u he ry
  exact SeqAt.notIn_tuple_reads r2 r1 (SeqAt.canLay_of_shaped se) (SeqAt.canLay_of_shaped sd) (PyProof.Rows.room_in_shaped sd hu) ⟨.bl _, H, I, rfl, q⟩
abbrev rInA (K : PySem.W.Frag) : R2 := fun x y H Q => (rInD K x y H Q ∨ rIn K false x y H Q) ∨ rInT K false x y H Q
abbrev rNotInA (K : PySem.W.Frag) : R2 := fun x y H Q => (rNotInD K x y H Q ∨ rIn K true x y H Q) ∨ rInT K true x y H Q
theorem cmd_in : CmD Y (rInA Y.K) (cmpD .isin) := by
  intro x y k u v H Q F1 G1 F2 G2 e r1 r2 h
  cases y <;> simp only [cmpD] at e <;> try (cases e; done)
  · split at e <;> cases e
    rename_i hs
    rw [Bool.and_eq_true] at hs
    exact .inl (.inl ⟨x, _, r1.dp, r2.dp, hs.1, hs.2, h⟩)
  · split at e
    · cases e
      rename_i hs
      rw [Bool.and_eq_true] at hs
      obtain ⟨p, vs, rfl, t, q⟩ := r2
      refine .inl (.inr ⟨p, vs, rfl, .inr t.sq, flat_V hs.1 (rp_flat hs.1 r1), flat_all hs.2 q, ?_⟩)
      rw [flat_any hs.1 (rp_flat hs.1 r1) hs.2 q]
      exact h
    · split at e <;> cases e
      rename_i hs
      rw [Bool.and_eq_true] at hs
      exact .inr ⟨x, _, r1.dp, r2.dp, hs.1, hs.2, h⟩
theorem cmd_notin : CmD Y (rNotInA Y.K) (cmpD .notin) := by
  intro x y k u v H Q F1 G1 F2 G2 e r1 r2 h
  cases y <;> simp only [cmpD] at e <;> try (cases e; done)
  · split at e <;> cases e
    rename_i hs
    rw [Bool.and_eq_true] at hs
    exact .inl (.inl ⟨x, _, r1.dp, r2.dp, hs.1, hs.2, h⟩)
  · split at e
    · cases e
      rename_i hs
      rw [Bool.and_eq_true] at hs
      obtain ⟨p, vs, rfl, t, q⟩ := r2
      refine .inl (.inr ⟨p, vs, rfl, .inr t.sq, flat_V hs.1 (rp_flat hs.1 r1), flat_all hs.2 q, ?_⟩)
      rw [flat_any hs.1 (rp_flat hs.1 r1) hs.2 q]
      exact h
    · split at e <;> cases e
      rename_i hs
      rw [Bool.and_eq_true] at hs
      exact .inr ⟨x, _, r1.dp, r2.dp, hs.1, hs.2, h⟩
def copOf : COp → CmpOp
  | .eq => .Eq | .ne => .NotEq | .lt => .Lt | .le => .LtE | .gt => .Gt | .ge => .GtE | .isin => .In | .notin => .NotIn
/-- the rule of each comparison -/
theorem cmp_rule (op : COp) (hK : X.K = Y.K) (hu : X.A.units + 65 < cLine) : ∃ r, OpR X (compareOp (copOf op)) r ∧ CmD Y r (cmpD op) := by
  cases op with
  | eq => exact ⟨_, hK ▸ op_eqD (by omega), cmd_eq⟩
  | ne => exact ⟨_, hK ▸ op_neD (by omega), cmd_ne⟩
  | lt => exact ⟨_, op_lt, cmd_lt⟩
  | le => exact ⟨_, op_le, cmd_le⟩
  | gt => exact ⟨_, op_gt, cmd_gt⟩
  | ge => exact ⟨_, op_ge, cmd_ge⟩
  | isin => exact ⟨_, hK ▸ ((op_inD hu).or op_in_seq).or (op_inT hu), cmd_in⟩
  | notin => exact ⟨_, hK ▸ ((op_notInD hu).or op_notIn_seq).or (op_notInT hu), cmd_notin⟩
theorem jet_cmp {r : R2} {o : PyData → PyData → Option Bool} {ta tb : TE} (hr : CmD Y r o) (ja : JEt Y M sc W ta f za) (jb : JEt Y M sc W tb g zb) (s : sep M.m zb.mu za.oc = true) (s' : sep M.m zb.mu za.oi = true) {σ : L2.St} {H : Hp} {env : Env} {Q : VK}
    (F : Fi Y.K M sc σ H env) (Tb : LamX.Tabs Y.T H) (h : PO Y M sc W (za.mu ++ zb.mu) σ H (fun (k : Bool) e => ∀ H', Fi Y.K M sc σ H' e → Kp Y.T (FL (za.mu ++ zb.mu) σ) H H' → Q (.bl k) H') ((f env).bind fun x e1 => (g e1).bind fun y e2 => VF.lift (o x y) e2)) : tOp r ta tb σ H Q := by
  refine two ja jb s s' F Tb (h.bind.imp fun x e1 h1 => h1.bind.imp fun y e2 h2 u v H2 F2 k2 r1 r2 => ?_)
  obtain ⟨k, ek, h3⟩ := PO.lift h2
  exact hr x y k u v H2 _ _ _ _ _ ek r1 r2 (h3 H2 F2 k2)
def evCmp (o : PyData → PyData → Option Bool) (f g : Env → Out PyData) (env : Env) : Out PyData := (f env).bind fun x e1 => (g e1).bind fun y e2 => (VF.lift (o x y) e2).bind fun k e => .ok (.bool k) e
theorem bind_assoc {α β γ : Type} (m : Out α) (f : α → Env → Out β) (g : β → Env → Out γ) : (m.bind f).bind g = m.bind fun a e => (f a e).bind g := by cases m <;> rfl
theorem je_cmp (op : COp) (hK : X.K = Y.K) (hu : X.A.units + 65 < cLine) (hm : behindInMarks (copOf op) b = false) (ja : JE Y M sc W X a f za) (jb : JE Y M sc W X b g zb) (s : sep M.m zb.mu za.oc = true) (s' : sep M.m zb.mu za.oi = true) :
    JE Y M sc W X (.Compare a [copOf op] [b] pos) (evCmp (cmpD op) f g) ⟨za.mu ++ zb.mu, [], [], false⟩ := by
  obtain ⟨r, ho, hr⟩ := cmp_rule (Y := Y) op hK hu
  obtain ⟨am, ta, pa, ja⟩ := ja
  obtain ⟨bm, tb, pb, jb⟩ := jb
  refine ⟨app_M am bm, _, pe_cmpR ho pa pb hm, fun σ H env Q F Tb h => ?_⟩
  refine jet_cmp hr ja jb s s' F Tb ?_
  have h' : PO Y M sc W (za.mu ++ zb.mu) σ H (VP Y M sc ⟨za.mu ++ zb.mu, [], [], false⟩ σ H Q) (((f env).bind fun x e1 => (g e1).bind fun y e2 => VF.lift (cmpD op x y) e2).bind fun k e => .ok (.bool k) e) := by
    rw [bind_assoc]; simp only [bind_assoc]; exact h
  exact h'.bind.imp fun k e h1 H' F' k' => h1 _ H' F' k' rfl (fun z => by cases z)
theorem jt_cmp (op : COp) (hK : X.K = Y.K) (hu : X.A.units + 65 < cLine) (hm : behindInMarks (copOf op) b = false) (ja : JE Y M sc W X a f za) (jb : JE Y M sc W X b g zb) (s : sep M.m zb.mu za.oc = true) (s' : sep M.m zb.mu za.oi = true) :
    JT Y M sc W X (.Compare a [copOf op] [b] pos) (evCmp (cmpD op) f g) (za.mu ++ zb.mu) := by
  obtain ⟨r, ho, hr⟩ := cmp_rule (Y := Y) op hK hu
  obtain ⟨am, ta, pa, ja⟩ := ja
  obtain ⟨bm, tb, pb, jb⟩ := jb
  refine ⟨app_M am bm, _, pt_cmpR ho pa pb hm, fun σ H env Q F Tb h => ?_⟩
  refine jet_cmp hr ja jb s s' F Tb (Q := fun x H' => ∃ k, x = .bl k ∧ Q k H') ?_
  have h' : PO Y M sc W (za.mu ++ zb.mu) σ H (fun d env' => ∃ k, tru d = some k ∧ ∀ H', Fi Y.K M sc σ H' env' → Kp Y.T (FL (za.mu ++ zb.mu) σ) H H' → Q k H') (((f env).bind fun x e1 => (g e1).bind fun y e2 => VF.lift (cmpD op x y) e2).bind fun k e => .ok (.bool k) e) := by
    rw [bind_assoc]; simp only [bind_assoc]; exact h
  refine h'.bind.imp fun k e h1 H' F' k' => ⟨k, rfl, ?_⟩
  obtain ⟨k2, e2, h2⟩ := h1
  cases e2
  exact h2 H' F' k'
end
end VF
set_option Elab.async false
set_option maxRecDepth 100000
set_option maxHeartbeats 4000000
namespace VF
open PySem L2
section
variable {Y : Sys} {M : MM} {sc : SC} {W : WX} {X : Cx} {σ : L2.St} {H H1 : Hp}
variable {e a b c : Expr} {f g h : Env → Out PyData} {fs : Env → Out (List PyData)} {za zb zc : St} {pos : Pos} {ma mb mc oa ob : List Nat}

/-! ### truth -/
theorem tru_v {F G : Addr → Prop} {d : PyData} {v : V} {k : Bool} (e : tru d = some k) (r : Rp Y.K F G H d v) : TruV Y.K v H k := by
  cases d with
  | none => cases rp_flat (F := F) (G := G) (d := .none) rfl r; cases e; rfl
  | bool b => cases rp_bool r; cases e; rfl
  | int i => cases rp_int r; cases e; rfl
  | str s =>
    cases rp_str r
    simp only [tru] at e
    split at e <;> cases e
    rename_i hl
    exact ⟨lim_line hl, by simp only [bne]; congr 1; rw [Bool.eq_iff_iff]; simp⟩
  | list ds =>
    obtain ⟨p, vs, rfl, t, q⟩ := r
    cases e
    refine .inl ⟨vs, t.sq, ?_⟩
    have := q.len
    cases ds <;> cases vs <;> simp_all
  | tuple ds =>
    obtain ⟨p, vs, rfl, t, q⟩ := r
    cases e
    refine .inr (.inl ⟨vs, t.sq, ?_⟩)
    have := q.len
    cases ds <;> cases vs <;> simp_all
  | dict _ => cases e
theorem jt_of (hK : X.K = Y.K) (ja : JE Y M sc W X a f za) (he : ∀ whole, isTrue a X.env whole = (do let v ← whole; standAt a.pos; holding [v] (truthy v))) : JT Y M sc W X a f za.mu := by
  obtain ⟨am, ta, pa, ja⟩ := ja
  refine ⟨am, _, pt_truth pa he, fun σ H env Q F Tb h => ?_⟩
  refine ja σ H env _ F Tb (h.imp fun d e1 h1 v H1 F1 k1 r1 _ => ?_)
  obtain ⟨k, ek, h2⟩ := h1
  exact ⟨k, hK ▸ tru_v ek r1, h2 H1 F1 k1⟩
def evNot (f : Env → Out PyData) (env : Env) : Out PyData := (f env).bind fun x e1 => (VF.lift (tru x) e1).bind fun k e => .ok (.bool (!k)) e
theorem jt_not (ja : JT Y M sc W X a f ma) : JT Y M sc W X (.UnaryOp .Not a pos) (evNot f) ma := by
  obtain ⟨am, ta, pa, ja⟩ := ja
  refine ⟨am, _, pt_not pa, fun σ H env Q F Tb h => ?_⟩
  refine ja σ H env _ F Tb (h.bind.imp fun d e1 h1 => ?_)
  obtain ⟨k, ek, k2, e2, h2⟩ := PO.lift (o := tru d) (e := e1) (P := fun k e => ∃ k2, tru (.bool (!k)) = some k2 ∧ ∀ H', Fi Y.K M sc σ H' e → Kp Y.T (FL ma σ) H H' → Q k2 H') (by
    have q := h1.bind
    exact q)
  cases e2
  exact ⟨k, ek, h2⟩
theorem je_not (hK : X.K = Y.K) (ja : JE Y M sc W X a f za) : JE Y M sc W X (.UnaryOp .Not a pos) (evNot f) ⟨za.mu, [], [], false⟩ := by
  obtain ⟨am, ta, pa, ja⟩ := ja
  refine ⟨am, _, pe_notT pa, fun σ H env Q F Tb h => ?_⟩
  refine ja σ H env _ F Tb (h.bind.imp fun d e1 h1 v H1 F1 k1 r1 _ => ?_)
  obtain ⟨k, ek, h2⟩ := PO.lift h1.bind
  exact ⟨k, hK ▸ tru_v ek r1, h2 _ H1 F1 k1 rfl (fun z => by cases z)⟩
def evBop (o : Bool) (f g : Env → Out PyData) (env : Env) : Out PyData := (f env).bind fun x e1 => (VF.lift (tru x) e1).bind fun k e => if k = o then g e else .ok x e
/-- the end of a row of and, or -/
theorem je_one {op : PySem.BoolOp} (ja : JE Y M sc W X a f za) : JE Y M sc W X (.BoolOp op [a] pos) f za := by
  obtain ⟨am, ta, pa, ja⟩ := ja
  exact ⟨am, _, pe_one pa, ja⟩
theorem Rp.mono {K : PySem.W.Frag} {F G F' G' : Addr → Prop} {H : Hp} {d : PyData} {v : V} (h : Rp K F G H d v) (s : ∀ a, F' a → F a) (s' : ∀ a, G' a → G a) : Rp K F' G' H d v := by
  cases d with
  | list ds => obtain ⟨a, vs, e, r, q⟩ := h; exact ⟨a, vs, e, r.weak s, Reps.weak s' _ _ q⟩
  | tuple ds => obtain ⟨a, vs, e, r, q⟩ := h; exact ⟨a, vs, e, r.weak s', Reps.weak s' _ _ q⟩
  | none => exact h
  | bool _ => exact h
  | int _ => exact h
  | str _ => exact h
  | dict _ => exact h
def St.or (a b : St) : St := ⟨a.mu ++ b.mu, a.oc ++ b.oc, a.oi ++ b.oi, false⟩
theorem je_bop {o : Bool} {r : List Expr} (hK : X.K = Y.K) (ja : JE Y M sc W X a f za) (jb : JE Y M sc W X (.BoolOp (if o then .And else .Or) (b :: r) pos) g zb) :
    JE Y M sc W X (.BoolOp (if o then .And else .Or) (a :: b :: r) pos) (evBop o f g) (za.or zb) := by
  obtain ⟨am, ta, pa, ja⟩ := ja
  obtain ⟨bm, tb, pb, jb⟩ := jb
  have key : ∀ σ H env Q, Fi Y.K M sc σ H env → LamX.Tabs Y.T H → PO Y M sc W (za.or zb).mu σ H (VP Y M sc (za.or zb) σ H Q) (evBop o f g env) → ta σ H fun x H1 => ∃ k, TruV X.K x H1 k ∧ if k = o then tb σ H1 Q else Q x H1 := by
    intro σ H env Q F Tb h
    refine ja σ H env _ F Tb ((h.bind.to mem_l .refl).imp fun d e1 h1 v H1 F1 k1 r1 _ => ?_)
    obtain ⟨k, ek, h2⟩ := PO.lift h1.bind
    refine ⟨k, hK ▸ tru_v ek r1, ?_⟩
    have k1' : Kp Y.T (FL (za.or zb).mu σ) H H1 := k1.mono fun a z => z.sub mem_l
    by_cases c : k = o
    · rw [if_pos c] at h2 ⊢
      refine jb σ H1 e1 _ F1 (k1.tabs Tb) ((h2.to mem_r k1').imp fun y e2 h3 w H2 F2 k2 r2 _ => ?_)
      exact h3 w H2 F2 (k1'.trans (k2.mono fun a z => z.sub mem_r)) (r2.mono (fun a z => (FX_app z).2) (fun a z => (FX_app z).2)) (fun z => by cases z)
    · rw [if_neg c] at h2 ⊢
      exact h2 v H1 F1 k1' (r1.mono (fun a z => (FX_app z).1) (fun a z => (FX_app z).1)) (fun z => by cases z)
  cases o with
  | true =>
    refine ⟨app_M am bm, _, pe_andT pa pb, fun σ H env Q F Tb h => ?_⟩
    exact key σ H env Q F Tb h
  | false =>
    refine ⟨app_M am bm, _, pe_orT pa pb, fun σ H env Q F Tb h => ?_⟩
    have q := key σ H env Q F Tb h
    exact (by
      have mono : (fun x H1 => ∃ k, TruV X.K x H1 k ∧ if k = false then tb σ H1 Q else Q x H1) = fun x H1 => ∃ k, TruV X.K x H1 k ∧ if k = true then Q x H1 else tb σ H1 Q := by
        funext x H1
        apply propext
        constructor
        · rintro ⟨k, h1, h2⟩; refine ⟨k, h1, ?_⟩; cases k <;> simpa using h2
        · rintro ⟨k, h1, h2⟩; refine ⟨k, h1, ?_⟩; cases k <;> simpa using h2
      rw [mono] at q
      exact q)
theorem JW.jt (h : JW Y M sc W X e f ma) : JT Y M sc W X e f ma := let ⟨m, t, p, j⟩ := h; ⟨m, t, p.pt, j⟩
theorem jw_one {o : Bool} (ja : JT Y M sc W X a f ma) : JW Y M sc W X (.BoolOp (if o then .And else .Or) [a] pos) f ma := by
  obtain ⟨am, ta, pa, ja⟩ := ja
  cases o with
  | true => exact ⟨am, _, pw_and1 pa, ja⟩
  | false => exact ⟨am, _, pw_or1 pa, ja⟩
theorem jw_bop {o : Bool} {r : List Expr} (ja : JT Y M sc W X a f ma) (jb : JW Y M sc W X (.BoolOp (if o then .And else .Or) (b :: r) pos) g mb) :
    JW Y M sc W X (.BoolOp (if o then .And else .Or) (a :: b :: r) pos) (evBop o f g) (ma ++ mb) := by
  obtain ⟨am, ta, pa, ja⟩ := ja
  obtain ⟨bm, tb, pb, jb⟩ := jb
  have key : ∀ σ H env (Q : Bool → Hp → Prop), Fi Y.K M sc σ H env → LamX.Tabs Y.T H → PO Y M sc W (ma ++ mb) σ H (fun d env' => ∃ k, tru d = some k ∧ ∀ H', Fi Y.K M sc σ H' env' → Kp Y.T (FL (ma ++ mb) σ) H H' → Q k H') (evBop o f g env) → ta σ H fun k H1 => if k = o then tb σ H1 Q else Q (!o) H1 := by
    intro σ H env Q F Tb h
    refine ja σ H env _ F Tb ((h.bind.to mem_l .refl).imp fun d e1 h1 => ?_)
    obtain ⟨k, ek, h2⟩ := PO.lift h1.bind
    refine ⟨k, ek, fun H1 F1 k1 => ?_⟩
    have k1' : Kp Y.T (FL (ma ++ mb) σ) H H1 := k1.mono fun a z => z.sub mem_l
    by_cases c : k = o
    · rw [if_pos c] at h2 ⊢
      refine jb σ H1 e1 _ F1 (k1.tabs Tb) ((h2.to mem_r k1').imp fun y e2 ⟨k3, e3, h3⟩ => ⟨k3, e3, fun H2 F2 k2 => ?_⟩)
      exact h3 H2 F2 (k1'.trans (k2.mono fun a z => z.sub mem_r))
    · rw [if_neg c] at h2 ⊢
      obtain ⟨k3, e3, h3⟩ := h2
      rw [ek] at e3
      cases e3
      have : k = !o := by cases k <;> cases o <;> simp_all
      rw [← this]
      exact h3 H1 F1 k1'
  cases o with
  | true =>
    refine ⟨app_M am bm, _, pw_and pa pb, fun σ H env Q F Tb h => ?_⟩
    exact key σ H env Q F Tb h
  | false =>
    refine ⟨app_M am bm, _, pw_or pa pb, fun σ H env Q F Tb h => ?_⟩
    have q := key σ H env Q F Tb h
    have mono : (fun k H1 => if k = false then tb σ H1 Q else Q (!false) H1) = fun k H1 => if k = true then Q true H1 else tb σ H1 Q := by
      funext k H1; cases k <;> simp
    rw [mono] at q
    exact q
/-! ### a if c else b -/
def evIte (f g h : Env → Out PyData) (env : Env) : Out PyData := (f env).bind fun x e1 => (VF.lift (tru x) e1).bind fun k e => if k then g e else h e
theorem je_ite (jc : JT Y M sc W X c f mc) (ja : JE Y M sc W X a g za) (jb : JE Y M sc W X b h zb) : JE Y M sc W X (.IfExp c a b pos) (evIte f g h) ⟨mc ++ (za.mu ++ zb.mu), za.oc ++ zb.oc, za.oi ++ zb.oi, za.fr && zb.fr⟩ := by
  obtain ⟨cm, tc, pc, jc⟩ := jc
  obtain ⟨am, ta, pa, ja⟩ := ja
  obtain ⟨bm, tb, pb, jb⟩ := jb
  refine ⟨app_M cm (app_M am bm), _, pe_ifExp pc pa pb, fun σ H env Q F Tb h => ?_⟩
  refine jc σ H env _ F Tb ((h.bind.to mem_l .refl).imp fun d e1 h1 => ?_)
  obtain ⟨k, ek, h2⟩ := PO.lift h1.bind
  refine ⟨k, ek, fun H1 F1 k1 => ?_⟩
  have k1' : Kp Y.T (FL (mc ++ (za.mu ++ zb.mu)) σ) H H1 := k1.mono fun a z => z.sub mem_l
  cases k with
  | true =>
    refine ja σ H1 e1 _ F1 (k1.tabs Tb) ((h2.to (fun i hi => mem_r _ (mem_l _ hi)) k1').imp fun y e2 h3 w H2 F2 k2 r2 f2 => ?_)
    refine h3 w H2 F2 (k1'.trans (k2.mono fun a z => z.sub fun i hi => mem_r _ (mem_l _ hi))) (r2.mono (fun a z => (FX_app z).1) (fun a z => (FX_app z).1)) (fun z xs e => ?_)
    have z : (za.fr && zb.fr) = true := z
    rw [Bool.and_eq_true] at z
    obtain ⟨q, vs, g1, g2, g3, g4⟩ := f2 z.1 xs e
    exact ⟨q, vs, g1, Nw.back g2 F1 k1 cm, g3, Reps.weak (fun a o => o.imp (fun o => (FX_app o).1) id) _ _ g4⟩
  | false =>
    refine jb σ H1 e1 _ F1 (k1.tabs Tb) ((h2.to (fun i hi => mem_r _ (mem_r _ hi)) k1').imp fun y e2 h3 w H2 F2 k2 r2 f2 => ?_)
    refine h3 w H2 F2 (k1'.trans (k2.mono fun a z => z.sub fun i hi => mem_r _ (mem_r _ hi))) (r2.mono (fun a z => (FX_app z).2) (fun a z => (FX_app z).2)) (fun z xs e => ?_)
    have z : (za.fr && zb.fr) = true := z
    rw [Bool.and_eq_true] at z
    obtain ⟨q, vs, g1, g2, g3, g4⟩ := f2 z.2 xs e
    exact ⟨q, vs, g1, Nw.back g2 F1 k1 cm, g3, Reps.weak (fun a o => o.imp (fun o => (FX_app o).2) id) _ _ g4⟩
/-! ### a < b < c -/
def evChain (o o' : PyData → PyData → Option Bool) (f g h : Env → Out PyData) (env : Env) : Out PyData := (f env).bind fun x e1 => (g e1).bind fun y e2 => (VF.lift (o x y) e2).bind fun k e =>
  if k then (h e).bind fun z e3 => (VF.lift (o' y z) e3).bind fun k e => .ok (.bool k) e else .ok (.bool false) e
theorem chain_core {r r' : R2} {o o' : PyData → PyData → Option Bool} {ta tb tc : TE} (hr : CmD Y r o) (hr' : CmD Y r' o') (ja : JEt Y M sc W ta f za) (jb : JEt Y M sc W tb g zb) (jc : JEt Y M sc W tc h zc)
    (s : sep M.m zb.mu za.oc = true) (s' : sep M.m zb.mu za.oi = true) (t : sep M.m zc.mu zb.oc = true) (t' : sep M.m zc.mu zb.oi = true) {σ : L2.St} {H : Hp} {env : Env} {Q : VK} (F : Fi Y.K M sc σ H env) (Tb : LamX.Tabs Y.T H)
    (hh : PO Y M sc W (za.mu ++ zb.mu ++ zc.mu) σ H (fun d e => ∃ k, d = .bool k ∧ ∀ H', Fi Y.K M sc σ H' e → Kp Y.T (FL (za.mu ++ zb.mu ++ zc.mu) σ) H H' → Q (.bl k) H') (evChain o o' f g h env)) :
    tChain r r' ta tb tc σ H Q := by
  refine two ja jb s s' F Tb ((hh.bind.to mem_l .refl).imp fun x e1 h1 => (h1.bind.to mem_l .refl).imp fun y e2 h2 u v H2 F2 k2 r1 r2 => ?_)
  obtain ⟨k, ek, h3⟩ := PO.lift h2.bind
  refine hr x y k u v H2 _ _ _ _ _ ek r1 r2 ⟨k, rfl, ?_⟩
  have k2' : Kp Y.T (FL (za.mu ++ zb.mu ++ zc.mu) σ) H H2 := k2.mono fun a z => z.sub mem_l
  cases k with
  | true =>
    rw [if_pos rfl] at h3 ⊢
    refine jc σ H2 e2 _ F2 (k2.tabs Tb) ((h3.bind.to mem_r k2').imp fun z e3 h4 w H3 F3 k3 r3 _ => ?_)
    obtain ⟨k', ek', h5⟩ := PO.lift h4.bind
    refine hr' y z k' v w H3 _ _ _ _ _ ek' (r2.keep k3.keep (fun a z => sep_FL t z) (fun a z => sep_FL t' z)) r3 ?_
    obtain ⟨k4, e4, h6⟩ := h5
    cases e4
    exact h6 H3 F3 (k2'.trans (k3.mono fun a z => z.sub mem_r))
  | false =>
    rw [if_neg Bool.false_ne_true] at h3 ⊢
    obtain ⟨k4, e4, h6⟩ := h3
    cases e4
    exact h6 H2 F2 k2'
/-- a chain's answer is a truth -/
theorem chain_bool {o o' : PyData → PyData → Option Bool} {P : PyData → Env → Prop} {mu : List Nat} {env : Env} (hh : PO Y M sc W mu σ H P (evChain o o' f g h env)) : PO Y M sc W mu σ H (fun d e => ∃ k, d = .bool k ∧ P d e) (evChain o o' f g h env) := by
  refine (show ∀ m : Out PyData, (∀ d e, m = .ok d e → ∃ k, d = .bool k) → PO Y M sc W mu σ H P m → PO Y M sc W mu σ H (fun d e => ∃ k, d = .bool k ∧ P d e) m from fun m hm hp => by
    cases m with
    | ok d e => obtain ⟨k, e1⟩ := hm d e rfl; exact ⟨k, e1, hp⟩
    | exc x e => exact hp
    | bad => exact hp) _ (fun d e q => ?_) hh
  unfold evChain at q
  cases hf : f env with
  | exc => rw [hf] at q; cases q
  | bad => rw [hf] at q; cases q
  | ok x e1 =>
    rw [hf] at q
    change ((g e1).bind fun y e2 => _) = _ at q
    cases hg : g e1 with
    | exc => rw [hg] at q; cases q
    | bad => rw [hg] at q; cases q
    | ok y e2 =>
      rw [hg] at q
      change ((VF.lift (o x y) e2).bind fun k e => _) = _ at q
      cases ho : o x y with
      | none => rw [ho] at q; cases q
      | some k =>
        rw [ho] at q
        change (if k then _ else _) = _ at q
        cases k with
        | false => cases q; exact ⟨_, rfl⟩
        | true =>
          rw [if_pos rfl] at q
          cases hh : h e2 with
          | exc => rw [hh] at q; cases q
          | bad => rw [hh] at q; cases q
          | ok z e3 =>
            rw [hh] at q
            change ((VF.lift (o' y z) e3).bind fun k e => _) = _ at q
            cases ho' : o' y z with
            | none => rw [ho'] at q; cases q
            | some k' => rw [ho'] at q; cases q; exact ⟨_, rfl⟩
theorem je_chain (op op' : COp) (hK : X.K = Y.K) (hu : X.A.units + 65 < cLine) (hm : lastMarks [copOf op, copOf op'] [b, c] = false) (ja : JE Y M sc W X a f za) (jb : JE Y M sc W X b g zb) (jc : JE Y M sc W X c h zc)
    (s : sep M.m zb.mu za.oc = true) (s' : sep M.m zb.mu za.oi = true) (t : sep M.m zc.mu zb.oc = true) (t' : sep M.m zc.mu zb.oi = true) :
    JE Y M sc W X (.Compare a [copOf op, copOf op'] [b, c] pos) (evChain (cmpD op) (cmpD op') f g h) ⟨za.mu ++ zb.mu ++ zc.mu, [], [], false⟩ := by
  obtain ⟨r, ho, hr⟩ := cmp_rule (Y := Y) op hK hu
  obtain ⟨r', ho', hr'⟩ := cmp_rule (Y := Y) op' hK hu
  obtain ⟨am, ta, pa, ja⟩ := ja
  obtain ⟨bm, tb, pb, jb⟩ := jb
  obtain ⟨cm, tc, pc, jc⟩ := jc
  refine ⟨app_M (app_M am bm) cm, _, pe_chain ho ho' pa pb pc hm, fun σ H env Q F Tb hh => ?_⟩
  refine chain_core hr hr' ja jb jc s s' t t' F Tb ((chain_bool hh).imp fun d e ⟨k, ek, h1⟩ => ⟨k, ek, fun H' F' k' => ?_⟩)
  subst ek
  exact h1 _ H' F' k' rfl (fun z => by cases z)
theorem jt_chain (op op' : COp) (hK : X.K = Y.K) (hu : X.A.units + 65 < cLine) (hm : lastMarks [copOf op, copOf op'] [b, c] = false) (ja : JE Y M sc W X a f za) (jb : JE Y M sc W X b g zb) (jc : JE Y M sc W X c h zc)
    (s : sep M.m zb.mu za.oc = true) (s' : sep M.m zb.mu za.oi = true) (t : sep M.m zc.mu zb.oc = true) (t' : sep M.m zc.mu zb.oi = true) :
    JT Y M sc W X (.Compare a [copOf op, copOf op'] [b, c] pos) (evChain (cmpD op) (cmpD op') f g h) (za.mu ++ zb.mu ++ zc.mu) := by
  obtain ⟨r, ho, hr⟩ := cmp_rule (Y := Y) op hK hu
  obtain ⟨r', ho', hr'⟩ := cmp_rule (Y := Y) op' hK hu
  obtain ⟨am, ta, pa, ja⟩ := ja
  obtain ⟨bm, tb, pb, jb⟩ := jb
  obtain ⟨cm, tc, pc, jc⟩ := jc
  refine ⟨app_M (app_M am bm) cm, _, pt_chain ho ho' pa pb pc hm, fun σ H env Q F Tb hh => ?_⟩
  refine chain_core hr hr' ja jb jc s s' t t' F Tb (Q := fun x H' => ∃ k, x = .bl k ∧ Q k H') ((chain_bool hh).imp fun d e ⟨k, ek, h1⟩ => ⟨k, ek, fun H' F' k' => ⟨k, rfl, ?_⟩⟩)
  subst ek
  obtain ⟨k2, e2, h2⟩ := h1
  cases e2
  exact h2 H' F' k'

/-! ### items, slices -/
theorem getElem_of_atI {α : Type} {xs : List α} {i : Int} {x : α} (e : atI xs i = some x) : ∃ j, xs[j]? = some x ∧ ixN xs.length i = some j := by
  unfold atI at e
  cases q : ixN xs.length i with
  | none => rw [q] at e; cases e
  | some j => rw [q] at e; exact ⟨j, e, rfl⟩
theorem je_idx (hK : X.K = Y.K) (hp : PlainIx b) (ja : JE Y M sc W X a f za) (jb : JE Y M sc W X b g zb) (s : sep M.m zb.mu za.oc = true) (s' : sep M.m zb.mu za.oi = true) :
    JE Y M sc W X (.Subscript a b pos) (fun env => (f env).bind fun x e1 => (g e1).bind fun y e2 => VF.lift (idxD x y) e2) ⟨za.mu ++ zb.mu, za.oi, za.oi, false⟩ := by
  obtain ⟨am, ta, pa, ja⟩ := ja
  obtain ⟨bm, tb, pb, jb⟩ := jb
  refine ⟨app_M am bm, _, pe_ix (IxR.or ix_list ix_tup) pa pb hp, fun σ H env Q F Tb h => ?_⟩
  refine two ja jb s s' F Tb (h.bind.imp fun x e1 h1 => h1.bind.imp fun y e2 h2 u v H2 F2 k2 r1 r2 => ?_)
  obtain ⟨z, ez, h3⟩ := PO.lift h2
  cases x <;> cases y <;> simp only [idxD] at ez <;> try (cases ez; done)
  · obtain ⟨p, vs, rfl, t, q⟩ := r1
    cases rp_int r2
    obtain ⟨j, h4, h5⟩ := getElem_of_atI ez
    obtain ⟨w, h6, h7⟩ := q.get h4
    refine .inl ⟨p, vs, _, w, rfl, rfl, hK ▸ t.sq, ?_, h3 w H2 F2 k2 (Rp.of h7) (fun z => by cases z)⟩
    unfold atI
    rw [q.len, h5]
    exact h6
  · obtain ⟨p, vs, rfl, t, q⟩ := r1
    cases rp_int r2
    obtain ⟨j, h4, h5⟩ := getElem_of_atI ez
    obtain ⟨w, h6, h7⟩ := q.get h4
    refine .inr ⟨p, vs, _, w, rfl, rfl, hK ▸ t.sq, ?_, h3 w H2 F2 k2 (Rp.of h7) (fun z => by cases z)⟩
    unfold atI
    rw [q.len, h5]
    exact h6
/-- an optional int -/
def JO (Y : Sys) (M : MM) (sc : SC) (W : WX) (X : Cx) (e : Option Expr) (f : Env → Out (Option Int)) (mu : List Nat) : Prop := (∀ i ∈ mu, M i = true) ∧ ∃ t, L2.PO X e t ∧
  ∀ σ H env Q, Fi Y.K M sc σ H env → LamX.Tabs Y.T H → PO Y M sc W mu σ H (fun o env' => ∀ H', Fi Y.K M sc σ H' env' → Kp Y.T (FL mu σ) H H' → Q o H') (f env) → t σ H Q
theorem jo_no : JO Y M sc W X none (fun env => .ok none env) [] := ⟨by simp, _, po_none, fun σ H env Q F Tb h => h H F .refl⟩
theorem jo_some (ja : JE Y M sc W X a f za) : JO Y M sc W X (some a) (fun env => (f env).bind fun x e1 => (VF.lift (optI x) e1).bind fun i e => .ok (some i) e) za.mu := by
  obtain ⟨am, ta, pa, ja⟩ := ja
  refine ⟨am, _, po_some pa, fun σ H env Q F Tb h => ?_⟩
  refine ja σ H env _ F Tb (h.bind.imp fun x e1 h1 u H1 F1 k1 r1 _ => ?_)
  obtain ⟨i, ei, h2⟩ := PO.lift h1.bind
  cases x <;> cases ei
  cases rp_int r1
  exact ⟨_, rfl, h2 H1 F1 k1⟩
theorem cut_eq {F : Addr → Prop} {ds : List PyData} {vs : List V} (r : Reps Y.K F H ds vs) (lo hi : Option Int) : Reps Y.K F H (cutD ds lo hi) (cutV vs lo hi) := by
  unfold cutD cutV
  rw [r.len]
  exact Reps.take _ (Reps.drop _ r)
theorem je_sl {lo hi : Option Expr} {p2 : Pos} {fl fh : Env → Out (Option Int)} (hK : X.K = Y.K) (ja : JE Y M sc W X a f za) (jl : JO Y M sc W X lo fl ma) (jh : JO Y M sc W X hi fh mb) (s : sep M.m (ma ++ mb) za.oc = true) (s' : sep M.m (ma ++ mb) za.oi = true) :
    JE Y M sc W X (.Subscript a (.Slice lo hi none p2) pos) (fun env => (f env).bind fun x e1 => (fl e1).bind fun l e2 => (fh e2).bind fun h e3 => VF.lift (slD x l h) e3) ⟨za.mu ++ (ma ++ mb), za.oi, za.oi, true⟩ := by
  obtain ⟨am, ta, pa, ja⟩ := ja
  obtain ⟨lm, tl, pl, jl⟩ := jl
  obtain ⟨hm, th, ph, jh⟩ := jh
  refine ⟨app_M am (app_M lm hm), _, pe_slice (SlR.or sl_list (SlR.or sl_tupF sl_str)) pa pl ph, fun σ H env Q F Tb h => ?_⟩
  refine ja σ H env _ F Tb ((h.bind.to mem_l .refl).imp fun x e1 h1 u H1 F1 k1 r1 _ => ?_)
  have k1' : Kp Y.T (FL (za.mu ++ (ma ++ mb)) σ) H H1 := k1.mono fun a z => z.sub mem_l
  refine jl σ H1 e1 _ F1 (k1.tabs Tb) ((h1.bind.to (fun i hi => mem_r _ (mem_l _ hi)) k1').imp fun l e2 h2 H2 F2 k2 => ?_)
  have k2' := k1'.trans (k2.mono fun a z => z.sub fun i hi => mem_r (l := za.mu) _ (mem_l (l' := mb) _ hi))
  refine jh σ H2 e2 _ F2 (k2'.tabs Tb) ((h2.bind.to (fun i hi => mem_r _ (mem_r _ hi)) k2').imp fun hh e3 h3 H3 F3 k3 => ?_)
  have k3' := k2'.trans (k3.mono fun a z => z.sub fun i hi => mem_r (l := za.mu) _ (mem_r (l := ma) _ hi))
  obtain ⟨z, ez, h4⟩ := PO.lift h3
  have r2 := (r1.keep k2.keep (fun a z => sep_FL s (z.sub mem_l)) (fun a z => sep_FL s' (z.sub mem_l))).keep k3.keep (fun a z => sep_FL s (z.sub mem_r)) (fun a z => sep_FL s' (z.sub mem_r))
  have zm : ∀ i ∈ (⟨za.mu ++ (ma ++ mb), za.oi, za.oi, true⟩ : St).mu, M i = true := app_M am (app_M lm hm)
  cases x <;> simp only [slD] at ez <;> try (cases ez; done)
  · split at ez <;> cases ez
    rename_i hl
    cases rp_str r2
    exact .inr (.inr ⟨_, rfl, lim_line hl, h4 _ H3 F3 k3' rfl (fun _ xs e => by cases e)⟩)
  · cases ez
    obtain ⟨p, vs, rfl, t, q⟩ := r2
    exact .inl ⟨p, vs, rfl, hK ▸ t.sq, fun n hn => new_list zm h4 F3 k3' (cut_eq q l hh) hn⟩
  · cases ez
    obtain ⟨p, vs, rfl, t, q⟩ := r2
    refine .inr (.inl ⟨p, vs, rfl, hK ▸ t.sq, fun hw => ?_, fun _ => new_tup h4 F3 k3' (cut_eq q l hh)⟩)
    have e : cutV vs l hh = vs := by
      unfold cutV
      rw [hw.1, hw.2]
      simp
    exact h4 _ H3 F3 k3' ⟨p, vs, rfl, t, by rw [← e]; exact cut_eq q l hh⟩ (fun _ xs e => by cases e)
theorem je_rev {k : Nat} {p1 p2 p3 : Pos} (hK : X.K = Y.K) (ja : JE Y M sc W X a f za) : JE Y M sc W X (.Subscript a (.Slice none none (some (.UnaryOp .USub (.Constant (.int 1) k p1) p2)) p3) pos)
    (fun env => (f env).bind fun x e1 => (match x with | .list ds => .ok (.list ds.reverse) e1 | _ => .bad)) ⟨za.mu, za.oi, za.oi, true⟩ := by
  obtain ⟨am, ta, pa, ja⟩ := ja
  refine ⟨am, _, pe_revL pa, fun σ H env Q F Tb h => ?_⟩
  refine ja σ H env _ F Tb (h.bind.imp fun x e1 h1 u H1 F1 k1 r1 _ => ?_)
  cases x <;> try exact h1.elim
  obtain ⟨p, vs, rfl, t, q⟩ := r1
  exact ⟨p, vs, rfl, hK ▸ t.sq, fun n hn => new_list (z := ⟨za.mu, za.oi, za.oi, true⟩) am h1 F1 k1 (Reps.rev q) hn⟩
end
end VF
set_option Elab.async false
set_option maxRecDepth 100000
set_option maxHeartbeats 4000000
namespace VF
open PySem PySem.Spec PyProof.Rows L2
section
variable {Y : Sys} {M : MM} {sc : SC} {W : WX} {X : Cx} {σ : L2.St} {H H1 : Hp}
variable {e a b c : Expr} {f g h : Env → Out PyData} {fs : Env → Out (List PyData)} {za zb zc : St} {p pos : Pos} {ma mb mc oa ob : List Nat}

/-! ### list(..), tuple(..) -/
theorem mem_nil_M : ∀ i ∈ ([] : List Nat), M i = true := by simp
theorem pa_one {e : Expr} {te : TE} (h : PE X e te) (hs : starEach [e] X.env = (false, eval e X.env) :: starEach [] X.env) : PA X [e] (tCons te tNil) := pa_cons h pa_nil hs
theorem je_toL (hK : X.K = Y.K) (hs : starEach [a] X.env = (false, eval a X.env) :: starEach [] X.env) (hg : Gl X "list") (hm : X.mg "list" = none) (ja : JE Y M sc W X a f za) :
    JE Y M sc W X (.Call (.Name "list" p) [a] [] pos) (fun env => ((f env).bind fun x e1 => VF.lift (items x) e1).bind fun ds e => .ok (.list ds) e) ⟨za.mu, za.oi, za.oi, true⟩ := by
  obtain ⟨am, ta, pa, ja⟩ := ja
  refine ⟨am, _, pe_callTy call_list_of hg hm boot_list (pa_one pa hs) (he := hs), fun σ H env Q F Tb h => ?_⟩
  refine ja σ H env _ F Tb (h.bind.bind.imp fun x e1 h1 u H1 F1 k1 r1 _ => ?_)
  obtain ⟨ds, ed, h2⟩ := PO.lift h1
  obtain ⟨q, vs, rfl, sq, rr⟩ := r1.items ed
  exact ⟨q, vs, rfl, hK ▸ sq, fun n hn => new_list (z := ⟨za.mu, za.oi, za.oi, true⟩) am h2 F1 k1 rr hn⟩
theorem je_toT (hK : X.K = Y.K) (hs : starEach [a] X.env = (false, eval a X.env) :: starEach [] X.env) (hg : Gl X "tuple") (hm : X.mg "tuple" = none) (ja : JE Y M sc W X a f za) :
    JE Y M sc W X (.Call (.Name "tuple" p) [a] [] pos) (fun env => ((f env).bind fun x e1 => VF.lift (items x) e1).bind fun ds e => .ok (.tuple ds) e) ⟨za.mu, za.oi, za.oi, true⟩ := by
  obtain ⟨am, ta, pa, ja⟩ := ja
  refine ⟨am, _, pe_callTy call_tupleF hg hm boot_tuple (pa_one pa hs) (he := hs), fun σ H env Q F Tb h => ?_⟩
  refine ja σ H env _ F Tb (h.bind.bind.imp fun x e1 h1 u H1 F1 k1 r1 _ => ?_)
  obtain ⟨ds, ed, h2⟩ := PO.lift h1
  refine ⟨u, rfl, ?_⟩
  cases x <;> cases ed
  · obtain ⟨q, vs, rfl, t, rr⟩ := r1
    exact .inl ⟨q, vs, rfl, hK ▸ t.sq, new_tup h2 F1 k1 rr⟩
  · obtain ⟨q, vs, rfl, t, rr⟩ := r1
    exact .inr ⟨q, vs, rfl, hK ▸ t.sq, h2 _ H1 F1 k1 ⟨q, vs, rfl, t, rr⟩ (fun _ xs e => by cases e)⟩
theorem rng_reps {F : Addr → Prop} (i j : Int) : Reps Y.K F H (rngD i j) (rgV i j) := by
  unfold rngD rgV
  generalize List.range (j - i).toNat = l
  induction l with
  | nil => rfl
  | cons n r ih => exact ⟨_, _, rfl, rfl, ih⟩
theorem rg_ok {i j : Int} (h : rngOk i j = true) : RgOk i j := by
  have h' := of_decide_eq_true h
  unfold RgOk
  omega
def ev1 (f : Env → Out PyData) (env : Env) : Out (List PyData) := (f env).bind fun x e1 => (match x with | .int n => if rngOk 0 n then .ok (rngD 0 n) e1 else .bad | _ => .bad)
def ev2 (f g : Env → Out PyData) (env : Env) : Out (List PyData) := (f env).bind fun x e1 => (g e1).bind fun y e2 => (match x, y with | .int i, .int j => if rngOk i j then .ok (rngD i j) e2 else .bad | _, _ => .bad)
/-- a range that is made for list, tuple -/
def JG (Y : Sys) (M : MM) (sc : SC) (W : WX) (X : Cx) (e : Expr) (f : Env → Out (List PyData)) (mu : List Nat) : Prop := (∀ i ∈ mu, M i = true) ∧ ∃ t, PRg X e t ∧
  ∀ σ H env Q, Fi Y.K M sc σ H env → LamX.Tabs Y.T H → PO Y M sc W mu σ H (fun ds env' => ∀ i j H', rngOk i j = true → ds = rngD i j → Fi Y.K M sc σ H' env' → Kp Y.T (FL mu σ) H H' → Q i j H') (f env) → t σ H Q
theorem jg_1 {p2 pos2 : Pos} (hs : starEach [a] X.env = (false, eval a X.env) :: starEach [] X.env) (hg : Gl X "range") (hm : X.mg "range" = none) (ja : JE Y M sc W X a f za) : JG Y M sc W X (.Call (.Name "range" p2) [a] [] pos2) (ev1 f) za.mu := by
  obtain ⟨am, ta, pa, ja⟩ := ja
  refine ⟨am, _, prg_1 hg hm pa hs, fun σ H env Q F Tb h => ?_⟩
  refine ja σ H env _ F Tb (h.bind.imp fun x e1 h1 u H1 F1 k1 r1 _ => ?_)
  cases x <;> try exact h1.elim
  rename_i n _
  cases rp_int r1
  replace h1 : PO Y M sc W _ σ H _ (if rngOk 0 n = true then Out.ok (rngD 0 n) e1 else Out.bad) := h1
  by_cases c : rngOk 0 n = true
  · rw [if_pos c] at h1
    exact ⟨n, rfl, h1 0 n H1 c rfl F1 k1⟩
  · rw [if_neg c] at h1
    exact h1.elim
theorem jg_2 {p2 pos2 : Pos} (hs : starEach [a, b] X.env = (false, eval a X.env) :: starEach [b] X.env) (hs2 : starEach [b] X.env = (false, eval b X.env) :: starEach [] X.env) (hp : (backTo pos2 (starEach [b] X.env)).any (·.1) = false) (hg : Gl X "range") (hm : X.mg "range" = none)
    (ja : JE Y M sc W X a f za) (jb : JE Y M sc W X b g zb) (s : sep M.m zb.mu za.oc = true) (s' : sep M.m zb.mu za.oi = true) : JG Y M sc W X (.Call (.Name "range" p2) [a, b] [] pos2) (ev2 f g) (za.mu ++ zb.mu) := by
  obtain ⟨am, ta, pa, ja⟩ := ja
  obtain ⟨bm, tb, pb, jb⟩ := jb
  refine ⟨app_M am bm, _, prg_2 hg hm pa pb hs hs2 hp, fun σ H env Q F Tb h => ?_⟩
  refine two ja jb s s' F Tb (h.bind.imp fun x e1 h1 => h1.bind.imp fun y e2 h2 u v H2 F2 k2 r1 r2 => ?_)
  cases x <;> try exact h2.elim
  cases y <;> try exact h2.elim
  rename_i i j
  cases rp_int r1
  cases rp_int r2
  replace h2 : PO Y M sc W _ σ H _ (if rngOk i j = true then Out.ok (rngD i j) e2 else Out.bad) := h2
  by_cases c : rngOk i j = true
  · rw [if_pos c] at h2
    exact ⟨i, j, rfl, rfl, h2 i j H2 c rfl F2 k2⟩
  · rw [if_neg c] at h2
    exact h2.elim
theorem je_rgL {fg : Env → Out (List PyData)} (hc : X.calm = true) (hs : starEach [a] X.env = (false, eval a X.env) :: starEach [] X.env) (hg : Gl X "list") (hm : X.mg "list" = none) (ja : JG Y M sc W X a fg ma) :
    JE Y M sc W X (.Call (.Name "list" p) [a] [] pos) (fun env => (fg env).bind fun ds e => .ok (.list ds) e) ⟨ma, [], [], true⟩ := by
  obtain ⟨am, ta, pa, ja⟩ := ja
  refine ⟨am, _, pe_listRg hc hg hm pa hs, fun σ H env Q F Tb h => ?_⟩
  refine ja σ H env _ F Tb (h.bind.imp fun ds e1 h1 i j H1 c e F1 k1 => ?_)
  subst e
  exact ⟨rg_ok c, fun n hn => new_list (z := ⟨ma, [], [], true⟩) am h1 F1 k1 (rng_reps i j) hn⟩
theorem je_rgT {fg : Env → Out (List PyData)} (hc : X.calm = true) (hs : starEach [a] X.env = (false, eval a X.env) :: starEach [] X.env) (hg : Gl X "tuple") (hm : X.mg "tuple" = none) (ja : JG Y M sc W X a fg ma) :
    JE Y M sc W X (.Call (.Name "tuple" p) [a] [] pos) (fun env => (fg env).bind fun ds e => .ok (.tuple ds) e) ⟨ma, [], [], true⟩ := by
  obtain ⟨am, ta, pa, ja⟩ := ja
  refine ⟨am, _, pe_tupRgF hc hg hm pa hs, fun σ H env Q F Tb h => ?_⟩
  refine ja σ H env _ F Tb (h.bind.imp fun ds e1 h1 i j H1 c e F1 k1 => ?_)
  subst e
  exact ⟨rg_ok c, new_tup h1 F1 k1 (rng_reps i j)⟩

/-! ### built-in functions of one value -/
/-- a call's rule r does what o says: no new object but within, a value without parts or with those of the argument -/
def BiD (Y : Sys) (r : List V → Hp → VK → Prop) (o : PyData → Option PyData) : Prop := ∀ x z u H Q (F1 G1 : Addr → Prop), o x = some z → Rp Y.K F1 G1 H x u → (∀ p, H p = none → ¬ G1 p) →
  (∀ w H', Kp Y.T F0 H H' → Rep Y.K G1 H' z w → Frs Y.K G1 H H' z w → Q w H') → r [u] H Q
theorem bi_core {ta : TE} {r : List V → Hp → VK → Prop} {o : PyData → Option PyData} (hr : BiD Y r o) (am : ∀ i ∈ za.mu, M i = true) (ja : JEt Y M sc W ta f za) {σ : L2.St} {H : Hp} {env : Env} {Q : VK} (F : Fi Y.K M sc σ H env) (Tb : LamX.Tabs Y.T H)
    (h : PO Y M sc W za.mu σ H (VP Y M sc ⟨za.mu, za.oi, za.oi, true⟩ σ H Q) ((f env).bind fun x e1 => VF.lift (o x) e1)) : tCB r (tCons ta tNil) σ H Q := by
  refine ja σ H env _ F Tb (h.bind.imp fun x e1 h1 u H1 F1 k1 r1 _ => ?_)
  obtain ⟨z, ez, h2⟩ := PO.lift h1
  refine hr x z u H1 Q _ _ ez r1 (fun p hp => F1.out hp) fun w H2 k2 rz fz => ?_
  refine h2 w H2 (F1.grow k2.keep) (k1.trans k2.grow) (Rp.of rz) fun _ xs e => ?_
  obtain ⟨q, vs, e1, e2, e3, e4⟩ := fz xs e
  exact ⟨q, vs, e1, Nw.back e2 F1 k1 am, e3, e4⟩
theorem je_biF {x : Str} {id : String} {r : List V → Hp → VK → Prop} {o : PyData → Option PyData} (hr : BiD Y r o) (hc : CallR X (.builtin id) r) (hs : starEach [a] X.env = (false, eval a X.env) :: starEach [] X.env) (hg : Gl X x) (hm : X.mg x = none) (hv : bootBuiltins x = some (.builtin id))
    (hn : x ≠ "__name__") (hdb : (x == ("__debug__" : Str)) = false) (ja : JE Y M sc W X a f za) : JE Y M sc W X (.Call (.Name x p) [a] [] pos) (fun env => (f env).bind fun x e1 => VF.lift (o x) e1) ⟨za.mu, za.oi, za.oi, true⟩ := by
  obtain ⟨am, ta, pa, ja⟩ := ja
  exact ⟨am, _, pe_callB hc hg hm hv (pa_one pa hs) hn hdb hs, fun σ H env Q F Tb h => bi_core hr am ja F Tb h⟩
theorem je_biT {x : Str} {T : String} {r : List V → Hp → VK → Prop} {o : PyData → Option PyData} (hr : BiD Y r o) (hc : CallR X (.type T) r) (hs : starEach [a] X.env = (false, eval a X.env) :: starEach [] X.env) (hg : Gl X x) (hm : X.mg x = none) (hv : bootBuiltins x = some (.type T))
    (hn : x ≠ "__name__") (hdb : (x == ("__debug__" : Str)) = false) (ja : JE Y M sc W X a f za) : JE Y M sc W X (.Call (.Name x p) [a] [] pos) (fun env => (f env).bind fun x e1 => VF.lift (o x) e1) ⟨za.mu, za.oi, za.oi, true⟩ := by
  obtain ⟨am, ta, pa, ja⟩ := ja
  exact ⟨am, _, pe_callTy hc hg hm hv (pa_one pa hs) hn hdb hs, fun σ H env Q F Tb h => bi_core hr am ja F Tb h⟩
theorem bid_len : BiD Y (fun xs H Q => ∃ x n, xs = [x] ∧ LenV Y.K x H n ∧ Q (.int n) H) (biD .len) := by
  intro x z u H Q F1 G1 e r1 o h
  cases x <;> simp only [biD] at e <;> try (cases e; done)
  · split at e <;> cases e
    rename_i hl
    cases rp_str r1
    exact ⟨_, _, rfl, ⟨lim_line hl, rfl⟩, h _ H .refl rfl (fun xs e => by cases e)⟩
  · cases e
    obtain ⟨q, vs, rfl, t, rr⟩ := r1
    exact ⟨_, _, rfl, .inl ⟨vs, t.sq, rfl⟩, by rw [rr.len]; exact h _ H .refl rfl (fun xs e => by cases e)⟩
  · cases e
    obtain ⟨q, vs, rfl, t, rr⟩ := r1
    exact ⟨_, _, rfl, .inr ⟨vs, t.sq, rfl⟩, by rw [rr.len]; exact h _ H .refl rfl (fun xs e => by cases e)⟩
theorem bid_int : BiD Y (fun xs H Q => (∃ i, xs = [.int i] ∧ Q (.int i) H) ∨ ∃ k, xs = [.bl k] ∧ Q (.int (if k then 1 else 0)) H) (biD .int) := by
  intro x z u H Q F1 G1 e r1 o h
  cases x <;> simp only [biD] at e <;> try (cases e; done)
  · cases e
    cases rp_bool r1
    exact .inr ⟨_, rfl, h _ H .refl rfl (fun xs e => by cases e)⟩
  · cases e
    cases rp_int r1
    exact .inl ⟨_, rfl, h _ H .refl rfl (fun xs e => by cases e)⟩
theorem bid_str : BiD Y (fun xs H Q => ∃ i : Int, xs = [.int i] ∧ i.natAbs.log2 < 1920 ∧ Q (.str (toString i : Str)) H) (biD .str) := by
  intro x z u H Q F1 G1 e r1 o h
  cases x <;> simp only [biD] at e <;> try (cases e; done)
  split at e
  · cases e
    rename_i hl
    cases rp_int r1
    exact ⟨_, rfl, hl, h _ H .refl rfl (fun xs e => by cases e)⟩
  · cases e
/-- what a list of values reads as -/
theorem reads_of {pins : List (Addr × Obj)} {s : Shared} {d : PyData} {v : V} {u : Value} {F G : Addr → Prop} (hK : X.K = Y.K) (I : Inv X pins σ H s) (r : Rp Y.K F G H d v) (rv : RelV v u) : ∃ as, Reads s.heap u d as := Dp.reads I d v u (hK ▸ r.dp) rv
theorem bools_map : ∀ {ds : List PyData} {bs : List Bool}, boolsOf ds = some bs → ds = bs.map .bool
  | [], bs, h => by cases h; rfl
  | .bool b :: r, bs, h => by
    simp only [boolsOf, Option.map_eq_some_iff] at h
    obtain ⟨cs, h1, rfl⟩ := h
    rw [bools_map h1]; rfl
  | .none :: _, _, h => by cases h
  | .int _ :: _, _, h => by cases h
  | .str _ :: _, _, h => by cases h
  | .list _ :: _, _, h => by cases h
  | .tuple _ :: _, _, h => by cases h
  | .dict _ :: _, _, h => by cases h
theorem ints_map : ∀ {ds : List PyData} {bs : List Int}, intsOf ds = some bs → ds = bs.map .int
  | [], bs, h => by cases h; rfl
  | .int b :: r, bs, h => by
    simp only [intsOf, Option.map_eq_some_iff] at h
    obtain ⟨cs, h1, rfl⟩ := h
    rw [ints_map h1]; rfl
  | .none :: _, _, h => by cases h
  | .bool _ :: _, _, h => by cases h
  | .str _ :: _, _, h => by cases h
  | .list _ :: _, _, h => by cases h
  | .tuple _ :: _, _, h => by cases h
  | .dict _ :: _, _, h => by cases h

theorem bool_shape {l : List PyData} {bs : List Bool} (h : l = bs.map .bool) : PyData.plainAll l = true ∧ (∀ x ∈ l, x.fits63) ∧ l.all PyData.truthy = bs.all id ∧ l.any PyData.truthy = bs.any id := by
  subst h
  refine ⟨?_, fun x hx => ?_, ?_, ?_⟩
  · induction bs with
    | nil => rfl
    | cons b r ih => simp [PyData.plainAll, PyData.plain, ih]
  · obtain ⟨b, _, rfl⟩ := List.mem_map.mp hx
    simp [PyData.fits63]
  · induction bs with
    | nil => rfl
    | cons b r ih => simp [PyData.truthy, ih]
  · induction bs with
    | nil => rfl
    | cons b r ih => simp [PyData.truthy, ih]
theorem call_allD (hc : X.calm = true) (hK : X.K = Y.K) : CallR X (.builtin "all") (fun xs H Q => ∃ (F G : Addr → Prop) (v : V) (ds : List PyData) (bs : List Bool), xs = [v] ∧ Rp Y.K F G H (.list ds) v ∧ ds = bs.map .bool ∧ Q (.bl (bs.all id)) H) := by
  intro pins s σ H xs us Q I r h
  obtain ⟨F, G, v, ds, bs, rfl, rr, eb, q⟩ := h
  obtain ⟨u, rfl, ru⟩ := vals1 r
  obtain ⟨p, vs, rfl, t, rs⟩ := rr
  obtain rfl : u = .ref p := ru
  obtain ⟨its, rv, pl, hz⟩ := I.list t.sq
  obtain ⟨as, ra⟩ := Dp.readsAll I ds vs its (hK ▸ Reps.dp _ _ rs) rv
  obtain ⟨b1, b2, b3, b4⟩ := bool_shape eb
  refine PySem.W.all_list_data (I.ok.hd hc) pl.isList (by simpa using ra) b1 b2 fun h' tk k => ?_
  rw [b3]
  exact ⟨.bl _, H, I.kept k, rfl, q⟩
theorem call_anyD (hc : X.calm = true) (hK : X.K = Y.K) : CallR X (.builtin "any") (fun xs H Q => ∃ (F G : Addr → Prop) (v : V) (ds : List PyData) (bs : List Bool), xs = [v] ∧ Rp Y.K F G H (.list ds) v ∧ ds = bs.map .bool ∧ Q (.bl (bs.any id)) H) := by
  intro pins s σ H xs us Q I r h
  obtain ⟨F, G, v, ds, bs, rfl, rr, eb, q⟩ := h
  obtain ⟨u, rfl, ru⟩ := vals1 r
  obtain ⟨p, vs, rfl, t, rs⟩ := rr
  obtain rfl : u = .ref p := ru
  obtain ⟨its, rv, pl, hz⟩ := I.list t.sq
  obtain ⟨as, ra⟩ := Dp.readsAll I ds vs its (hK ▸ Reps.dp _ _ rs) rv
  obtain ⟨b1, b2, b3, b4⟩ := bool_shape eb
  refine PySem.W.any_list_data (I.ok.hd hc) pl.isList (by simpa using ra) b1 b2 fun h' tk k => ?_
  rw [b4]
  exact ⟨.bl _, H, I.kept k, rfl, q⟩
theorem bid_all : BiD Y (fun xs H Q => ∃ (F G : Addr → Prop) (v : V) (ds : List PyData) (bs : List Bool), xs = [v] ∧ Rp Y.K F G H (.list ds) v ∧ ds = bs.map .bool ∧ Q (.bl (bs.all id)) H) (biD .all) := by
  intro x z u H Q F1 G1 e r1 o h
  cases x <;> simp only [biD] at e <;> try (cases e; done)
  obtain ⟨bs, e1, rfl⟩ := Option.map_eq_some_iff.mp e
  exact ⟨F1, G1, u, _, bs, rfl, r1, bools_map e1, h _ H .refl rfl (fun xs e => by cases e)⟩
theorem bid_any : BiD Y (fun xs H Q => ∃ (F G : Addr → Prop) (v : V) (ds : List PyData) (bs : List Bool), xs = [v] ∧ Rp Y.K F G H (.list ds) v ∧ ds = bs.map .bool ∧ Q (.bl (bs.any id)) H) (biD .any) := by
  intro x z u H Q F1 G1 e r1 o h
  cases x <;> simp only [biD] at e <;> try (cases e; done)
  obtain ⟨bs, e1, rfl⟩ := Option.map_eq_some_iff.mp e
  exact ⟨F1, G1, u, _, bs, rfl, r1, bools_map e1, h _ H .refl rfl (fun xs e => by cases e)⟩
/-! ### max of a list of ints -/
theorem max_fold (n : Int) : ∀ ns : List Int, ns.foldl (fun m j => if j > m then j else m) n = ns.foldl max n := by
  intro ns
  induction ns generalizing n with
  | nil => rfl
  | cons k r ih =>
    rw [List.foldl_cons, List.foldl_cons, ih]
    congr 1
    show (if k > n then k else n) = max n k
    by_cases c : k > n
    · rw [if_pos c]; omega
    · rw [if_neg c]; omega
theorem min_fold (n : Int) : ∀ ns : List Int, ns.foldl (fun m j => if j < m then j else m) n = ns.foldl min n := by
  intro ns
  induction ns generalizing n with
  | nil => rfl
  | cons k r ih =>
    rw [List.foldl_cons, List.foldl_cons, ih]
    congr 1
    show (if k < n then k else n) = min n k
    by_cases c : k < n
    · rw [if_pos c, Int.min_def, if_neg (by omega)]
    · rw [if_neg c, Int.min_def, if_pos (by omega)]
theorem ints_alike (ns : List Int) : PySem.W.AlikeAll (ns.map .int) := by
  refine ⟨fun x hx y hy => ?_, fun x hx => ?_⟩
  · obtain ⟨i, _, rfl⟩ := List.mem_map.mp hx
    obtain ⟨j, _, rfl⟩ := List.mem_map.mp hy
    rfl
  · obtain ⟨i, _, rfl⟩ := List.mem_map.mp hx
    exact fun z => by cases z
theorem ints_depth : ∀ ns : List Int, PyData.depthAll (ns.map .int) = 0
  | [] => rfl
  | n :: r => by simp [PyData.depthAll, PyData.depth, ints_depth r]
theorem call_maxD (hc : X.calm = true) (hu : X.A.units + 65 < cLine) (hK : X.K = Y.K) : CallR X (.builtin "max") (fun xs H Q => ∃ (F G : Addr → Prop) (v : V) (n : Int) (ns : List Int), xs = [v] ∧ Rp Y.K F G H (.list ((n :: ns).map .int)) v ∧ Q (.int (ns.foldl max n)) H) := by
  intro pins s σ H xs us Q I r h
  obtain ⟨F, G, v, n, ns, rfl, rr, q⟩ := h
  obtain ⟨u, rfl, ru⟩ := vals1 r
  obtain ⟨p, vs, rfl, t, rs⟩ := rr
  obtain rfl : u = .ref p := ru
  obtain ⟨its, rv, pl, hz⟩ := I.list t.sq
  obtain ⟨as, ra⟩ := Dp.readsAll I _ vs its (hK ▸ Reps.dp _ _ rs) rv
  refine PySem.W.max_list_data (x := .int n) (xs := ns.map .int) (I.ok.hd hc) pl.isList (by simpa using ra) (ints_alike (n :: ns)) (by rw [show PyData.int n :: ns.map .int = (n :: ns).map .int from rfl, ints_depth]; omega) fun i v h' tk bs hv hr k => ?_
  rw [PySem.W.maxD_ints] at hr
  cases hr
  exact ⟨.int _, H, I.kept k, ⟨_, rfl⟩, q⟩
/-! ### isinstance, type(x) is T -/
theorem tyx {F G : Addr → Prop} {d : PyData} {v : V} (r : Rp Y.K F G H d v) (hd : ∀ k, d ≠ .dict k) : TyX Y.K H v (.type (tyD d)) := by
  cases d with
  | none => cases (show v = .non from r); exact .base .non
  | bool b => cases rp_bool r; exact .base (.bl _)
  | int i => cases rp_int r; exact .base (.int _)
  | str s => cases rp_str r; exact .base (.str _)
  | list ds => obtain ⟨p, vs, rfl, t, _⟩ := r; exact .base (.lst t.2)
  | tuple ds =>
    obtain ⟨p, vs, rfl, t, _⟩ := r
    rcases t with ⟨_, o, _, t⟩ | ⟨o, its, n, t1, t2, _⟩
    · exact .fTuple t
    · exact .kTuple t1 t2
  | dict k => exact absurd rfl (hd k)
theorem kit_tab : ∀ a ∈ ["NoneType", "bool", "int", "str", "list", "tuple"], ∀ b ∈ ["NoneType", "bool", "int", "str", "list", "tuple"], kitB a b = some (a == b || (b == "int" && a == "bool")) := by decide +kernel
theorem tyD_mem {d : PyData} (hd : ∀ k, d ≠ .dict k) : tyD d ∈ ["NoneType", "bool", "int", "str", "list", "tuple"] := by
  cases d <;> first | (simp [tyD]; done) | exact absurd rfl (hd _)
theorem isT_kit {d : PyData} {t : String} (hd : ∀ k, d ≠ .dict k) (ht : t ∈ ["NoneType", "bool", "int", "str", "list", "tuple"]) : PySem.W.kitOne Y.K (.type (tyD d)) (.type t) = some (isT1 d t) := kit_ty (kit_tab _ (tyD_mem hd) t ht)
theorem rp_nodict {F G : Addr → Prop} {d : PyData} {v : V} (r : Rp Y.K F G H d v) : ∀ k, d ≠ .dict k := fun k e => by subst e; exact r
/-- isinstance(x, T) -/
theorem je_isT {t : String} {p2 : Pos} (hK : X.K = Y.K) (ht : t ∈ ["NoneType", "bool", "int", "str", "list", "tuple"]) (hs : starEach [a, .Name (Str.ofString t) p2] X.env = (false, eval a X.env) :: starEach [.Name (Str.ofString t) p2] X.env)
    (hpl : (backTo pos (starEach [.Name (Str.ofString t) p2] X.env)).any (·.1) = false) (hg : Gl X "isinstance") (hm : X.mg "isinstance" = none) (hg2 : Gl X (Str.ofString t)) (hm2 : X.mg (Str.ofString t) = none) (hv2 : bootBuiltins (Str.ofString t) = some (.type t)) (hn2 : Str.ofString t ≠ "__name__") (hd2 : (Str.ofString t == ("__debug__" : Str)) = false)
    (hs2 : starEach [.Name (Str.ofString t) p2] X.env = (false, eval (.Name (Str.ofString t) p2) X.env) :: starEach [] X.env) (ja : JE Y M sc W X a f za) :
    JE Y M sc W X (.Call (.Name "isinstance" p) [a, .Name (Str.ofString t) p2] [] pos) (fun env => (f env).bind fun x e1 => .ok (.bool (isT1 x t)) e1) ⟨za.mu, [], [], false⟩ := by
  obtain ⟨am, ta, pa, ja⟩ := ja
  refine ⟨am, _, pe_callB call_isi hg hm (by decide +kernel) (pa_cons pa (pa_cons (pe_bltn (v := .ty t) hg2 hm2 hv2 rfl hn2 hd2) pa_nil hs2) hs) (by decide) (by decide) hs hpl, fun σ H env Q F Tb h => ?_⟩
  refine ja σ H env _ F Tb (h.bind.imp fun x e1 h1 u H1 F1 k1 r1 _ => ?_)
  refine ⟨u, .ty t, _, _, _, rfl, .ty t, hK ▸ tyx r1 (rp_nodict r1), isT_kit (Y := ⟨X.prog, X.w, X.K, X.mg, X.base, [], []⟩) (rp_nodict r1) ht, ?_⟩
  exact h1 _ H1 F1 k1 rfl (fun z => by cases z)
theorem kit2 {d : PyData} {t1 t2 : String} (hd : ∀ k, d ≠ .dict k) (h1 : t1 ∈ ["NoneType", "bool", "int", "str", "list", "tuple"]) (h2 : t2 ∈ ["NoneType", "bool", "int", "str", "list", "tuple"]) :
    PySem.W.kitAny Y.K (.type (tyD d)) [.type t1, .type t2] = some (isT1 d t1 || isT1 d t2) := by
  refine kitAny_cons (isT_kit hd h1) (fun hb => ?_) (fun hb => by rw [hb]; rfl)
  rw [hb, Bool.false_or]
  exact kitAny_cons (isT_kit hd h2) (fun hb2 => by rw [hb2]; rfl) (fun hb2 => hb2)
/-- isinstance(x, (T, U)) -/
theorem je_isT2 {t t2 : String} {p2 p3 pt : Pos} {kt : Nat} (hK : X.K = Y.K) (ht : t ∈ ["NoneType", "bool", "int", "str", "list", "tuple"]) (ht2 : t2 ∈ ["NoneType", "bool", "int", "str", "list", "tuple"])
    (hs : starEach [a, .Tuple [.Name (Str.ofString t) p2, .Name (Str.ofString t2) p3] kt pt] X.env = (false, eval a X.env) :: starEach [.Tuple [.Name (Str.ofString t) p2, .Name (Str.ofString t2) p3] kt pt] X.env)
    (hpl : (backTo pos (starEach [.Tuple [.Name (Str.ofString t) p2, .Name (Str.ofString t2) p3] kt pt] X.env)).any (·.1) = false) (hg : Gl X "isinstance") (hm : X.mg "isinstance" = none)
    (hg2 : Gl X (Str.ofString t)) (hm2 : X.mg (Str.ofString t) = none) (hv2 : bootBuiltins (Str.ofString t) = some (.type t)) (hn2 : Str.ofString t ≠ "__name__") (hd2 : (Str.ofString t == ("__debug__" : Str)) = false)
    (hg3 : Gl X (Str.ofString t2)) (hm3 : X.mg (Str.ofString t2) = none) (hv3 : bootBuiltins (Str.ofString t2) = some (.type t2)) (hn3 : Str.ofString t2 ≠ "__name__") (hd3 : (Str.ofString t2 == ("__debug__" : Str)) = false)
    (ja : JE Y M sc W X a f za) :
    JE Y M sc W X (.Call (.Name "isinstance" p) [a, .Tuple [.Name (Str.ofString t) p2, .Name (Str.ofString t2) p3] kt pt] [] pos) (fun env => (f env).bind fun x e1 => VF.lift (biD (.isT [t, t2] false) x) e1) ⟨za.mu, [], [], false⟩ := by
  obtain ⟨am, ta, pa, ja⟩ := ja
  refine ⟨am, _, pe_callB call_isiT hg hm (by decide +kernel) (pa_cons pa (pa_cons (pe_tup (pa_cons (pe_bltn (v := .ty t) hg2 hm2 hv2 rfl hn2 hd2) (pa_cons (pe_bltn (v := .ty t2) hg3 hm3 hv3 rfl hn3 hd3) pa_nil rfl) rfl)) pa_nil rfl) hs) (by decide) (by decide) hs hpl, fun σ H env Q F Tb h => ?_⟩
  refine ja σ H env _ F Tb (h.bind.imp fun x e1 h1 u H1 F1 k1 r1 _ => ?_)
  refine ⟨by show 2 ≤ sizeLine; rw [sizeLine_eq]; decide, fun q hq => ?_⟩
  have k2 : Kp Y.T F0 H1 (upd H1 q (.tup [.ty t, .ty t2])) := .new hq
  have r2 := r1.keep k2.keep (fun _ z => z.elim) (fun _ z => z.elim)
  refine ⟨u, q, [.ty t, .ty t2], _, _, _, rfl, upd_same, .cons (.ty t) (.cons (.ty t2) .nil), hK ▸ tyx r2 (rp_nodict r2), kit2 (Y := ⟨X.prog, X.w, X.K, X.mg, X.base, [], []⟩) (rp_nodict r2) ht ht2, ?_⟩
  have e : (isT1 x t || isT1 x t2) = [t, t2].any (isT1 x) := by simp
  rw [e]
  exact h1 _ _ (F1.grow k2.keep) (k1.trans k2.grow) rfl (fun z => by cases z)
end
end VF
set_option Elab.async false
set_option maxRecDepth 100000
set_option maxHeartbeats 4000000
namespace VF
open PySem PySem.Spec PyProof.Rows L2
section
variable {Y : Sys} {M : MM} {sc : SC} {W : WX} {X : Cx} {σ : L2.St} {H H1 : Hp}
variable {e a b c : Expr} {f g h : Env → Out PyData} {fs : Env → Out (List PyData)} {za zb zc : St} {p pos : Pos} {ma mb mc oa ob : List Nat}

/-! ### x is None, x is True -/
def cstV : Cst → V
  | .non => .non
  | .tt => .bl true
  | .ff => .bl false
def cstD : Cst → PyData
  | .non => .none
  | .tt => .bool true
  | .ff => .bool false
def plainV : V → Bool
  | .ref _ | .non | .bl _ | .int _ | .str _ => true
  | _ => false
theorem is_cst {pins : List (Addr × Obj)} {s : Shared} {x : V} {u : Value} {c : Cst} (hx : plainV x = true) (r : RelV x u) : ∃ w : Value, (∀ v, RelV (cstV c) v → v = w) ∧ plainIs u w = true ∧ (u == w) = decide (x = cstV c) := by
  cases c with
  | non =>
    refine ⟨.none, fun v e => e, ?_, ?_⟩ <;> cases x <;> first | (cases hx; done) | (cases r; first | rfl | (simp [cstV]; done) | (rename_i b; cases b <;> rfl)) | (obtain ⟨t, rfl⟩ := r; first | rfl | (simp [cstV]; done))
  | tt =>
    refine ⟨.bool true, fun v e => e, ?_, ?_⟩ <;> cases x <;> first | (cases hx; done) | (cases r; first | rfl | (simp [cstV]; done) | (rename_i b; cases b <;> rfl)) | (obtain ⟨t, rfl⟩ := r; first | rfl | (simp [cstV]; done))
  | ff =>
    refine ⟨.bool false, fun v e => e, ?_, ?_⟩ <;> cases x <;> first | (cases hx; done) | (cases r; first | rfl | (simp [cstV]; done) | (rename_i b; cases b <;> rfl)) | (obtain ⟨t, rfl⟩ := r; first | rfl | (simp [cstV]; done))
def rIsC (c : Cst) (p : Bool) : R2 := fun x y H Q => plainV x = true ∧ y = cstV c ∧ Q (.bl (if p then decide (x = cstV c) else !decide (x = cstV c))) H
theorem op_isC (c : Cst) : OpR X (compareOp .Is) (rIsC c true) := by
  intro pins s σ H x y v u Q I rx ry h
  obtain ⟨hx, rfl, q⟩ := h
  obtain ⟨w, h1, h2, h3⟩ := is_cst (pins := pins) (s := s) (c := c) hx rx
  cases h1 u ry
  refine wpAny_is_plain h2 ?_
  rw [h3]
  exact ⟨.bl _, H, I, rfl, q⟩
theorem op_isNotC (c : Cst) : OpR X (compareOp .IsNot) (rIsC c false) := by
  intro pins s σ H x y v u Q I rx ry h
  obtain ⟨hx, rfl, q⟩ := h
  obtain ⟨w, h1, h2, h3⟩ := is_cst (pins := pins) (s := s) (c := c) hx rx
  cases h1 u ry
  refine wpAny_isNot_plain h2 ?_
  rw [h3]
  exact ⟨.bl _, H, I, rfl, q⟩
theorem rp_plainV {F G : Addr → Prop} {d : PyData} {v : V} (r : Rp Y.K F G H d v) : plainV v = true := by
  cases d with
  | none => cases (show v = .non from r); rfl
  | bool _ => cases rp_bool r; rfl
  | int _ => cases rp_int r; rfl
  | str _ => cases rp_str r; rfl
  | list _ => obtain ⟨p, vs, rfl, _⟩ := r; rfl
  | tuple _ => obtain ⟨p, vs, rfl, _⟩ := r; rfl
  | dict _ => exact r.elim
theorem rp_isC {F G : Addr → Prop} {d : PyData} {v : V} (c : Cst) (r : Rp Y.K F G H d v) : decide (v = cstV c) = isC d c := by
  cases d with
  | none => cases (show v = .non from r); cases c <;> rfl
  | bool b => cases rp_bool r; cases c <;> cases b <;> rfl
  | int _ => cases rp_int r; cases c <;> rfl
  | str _ => cases rp_str r; cases c <;> rfl
  | list _ => obtain ⟨p, vs, rfl, _⟩ := r; cases c <;> simp [cstV, isC]
  | tuple _ => obtain ⟨p, vs, rfl, _⟩ := r; cases c <;> simp [cstV, isC]
  | dict _ => exact r.elim
def cstOf : Cst → Const
  | .non => .none
  | .tt => .bool true
  | .ff => .bool false
theorem pe_cst {c : Cst} {j : Nat} {p2 : Pos} : PE X (.Constant (cstOf c) j p2) (tC (cstV c)) := by
  cases c with
  | non => exact pe_non
  | tt => exact pe_bl
  | ff => exact pe_bl
theorem je_isc {c : Cst} {q : Bool} {j : Nat} {p2 : Pos} (ja : JE Y M sc W X a f za) : JE Y M sc W X (.Compare a [if q then .Is else .IsNot] [.Constant (cstOf c) j p2] pos) (fun env => (f env).bind fun x e1 => .ok (.bool (if q then isC x c else !isC x c)) e1) ⟨za.mu, [], [], false⟩ := by
  obtain ⟨am, ta, pa, ja⟩ := ja
  cases q with
  | true =>
    refine ⟨am, _, pe_cmpR (op_isC c) pa pe_cst (nomark _), fun σ H env Q F Tb h => ?_⟩
    refine ja σ H env _ F Tb (h.bind.imp fun x e1 h1 u H1 F1 k1 r1 _ => ?_)
    exact ⟨rp_plainV r1, rfl, by rw [rp_isC c r1]; exact h1 _ H1 F1 k1 rfl (fun z => by cases z)⟩
  | false =>
    refine ⟨am, _, pe_cmpR (op_isNotC c) pa pe_cst (nomark _), fun σ H env Q F Tb h => ?_⟩
    refine ja σ H env _ F Tb (h.bind.imp fun x e1 h1 u H1 F1 k1 r1 _ => ?_)
    exact ⟨rp_plainV r1, rfl, by rw [rp_isC c r1]; exact h1 _ H1 F1 k1 rfl (fun z => by cases z)⟩
theorem jt_isc {c : Cst} {q : Bool} {j : Nat} {p2 : Pos} (ja : JE Y M sc W X a f za) : JT Y M sc W X (.Compare a [if q then .Is else .IsNot] [.Constant (cstOf c) j p2] pos) (fun env => (f env).bind fun x e1 => .ok (.bool (if q then isC x c else !isC x c)) e1) za.mu := by
  obtain ⟨am, ta, pa, ja⟩ := ja
  cases q with
  | true =>
    refine ⟨am, _, pt_cmpR (op_isC c) pa pe_cst (nomark _), fun σ H env Q F Tb h => ?_⟩
    refine ja σ H env _ F Tb (h.bind.imp fun x e1 h1 u H1 F1 k1 r1 _ => ?_)
    obtain ⟨k, e, h2⟩ := h1
    cases e
    exact ⟨rp_plainV r1, rfl, _, rfl, by rw [rp_isC c r1]; exact h2 H1 F1 k1⟩
  | false =>
    refine ⟨am, _, pt_cmpR (op_isNotC c) pa pe_cst (nomark _), fun σ H env Q F Tb h => ?_⟩
    refine ja σ H env _ F Tb (h.bind.imp fun x e1 h1 u H1 F1 k1 r1 _ => ?_)
    obtain ⟨k, e, h2⟩ := h1
    cases e
    exact ⟨rp_plainV r1, rfl, _, rfl, by rw [rp_isC c r1]; exact h2 H1 F1 k1⟩

/-! ### type(x) is T -/
theorem ty_tab : ∀ a ∈ ["NoneType", "bool", "int", "str", "list", "tuple"], (Value.type a == Value.type "builtin_function_or_method") = false := by decide +kernel
theorem type_is {pins : List (Addr × Obj)} {s : Shared} {F G : Addr → Prop} {d : PyData} {v : V} {u : Value} (hK : X.K = Y.K) (I : Inv X pins σ H s) (r : Rp Y.K F G H d v) (rv : RelV v u) : s.TypeIs u (tyD d) := by
  cases d with
  | none => cases (show v = .non from r); cases rv; rfl
  | bool b => cases rp_bool r; cases rv; rfl
  | int i => cases rp_int r; obtain ⟨t, rfl⟩ := rv; rfl
  | str x => cases rp_str r; obtain ⟨t, rfl⟩ := rv; rfl
  | list ds =>
    obtain ⟨p, vs, rfl, t, _⟩ := r
    cases rv
    obtain ⟨its, _, pl, _⟩ := I.list t.sq
    exact pl.isList.typeIs
  | tuple ds =>
    obtain ⟨p, vs, rfl, t, _⟩ := r
    cases rv
    obtain ⟨its, _, pl, _⟩ := I.tuple (hK ▸ t.sq)
    exact pl.typeIs
  | dict _ => exact r.elim
theorem call_typeD (hK : X.K = Y.K) : CallR X (.type "type") (fun xs H Q => ∃ (F G : Addr → Prop) (v : V) (d : PyData), xs = [v] ∧ Rp Y.K F G H d v ∧ Q (.ty (tyD d)) H) := by
  intro pins s σ H xs us Q I r h
  obtain ⟨F, G, v, d, rfl, rr, q⟩ := h
  obtain ⟨u, rfl, ru⟩ := vals1 r
  exact call_type_of (type_is hK I rr ru) (ty_tab _ (tyD_mem (rp_nodict rr))) ⟨.ty _, H, I, rfl, q⟩
def rIsTyp (p : Bool) : R2 := fun x y H Q => ∃ S T, x = .ty S ∧ y = .ty T ∧ Q (.bl (if p then S == T else !(S == T))) H
theorem op_isTyp : OpR X (compareOp .Is) (rIsTyp true) := by
  intro pins s σ H x y v u Q I rx ry h
  obtain ⟨S, T, rfl, rfl, q⟩ := h
  cases rx
  cases ry
  refine wpAny_is_plain rfl ?_
  have e : (Value.type S == Value.type T) = (S == T) := by
    by_cases z : S = T
    · subst z; simp
    · rw [beq_eq_false_iff_ne.mpr z, beq_eq_false_iff_ne.mpr (fun w => z (Value.type.inj w))]
  rw [e]
  exact ⟨.bl _, H, I, rfl, q⟩
theorem op_isNotTyp : OpR X (compareOp .IsNot) (rIsTyp false) := by
  intro pins s σ H x y v u Q I rx ry h
  obtain ⟨S, T, rfl, rfl, q⟩ := h
  cases rx
  cases ry
  refine wpAny_isNot_plain rfl ?_
  have e : (Value.type S == Value.type T) = (S == T) := by
    by_cases z : S = T
    · subst z; simp
    · rw [beq_eq_false_iff_ne.mpr z, beq_eq_false_iff_ne.mpr (fun w => z (Value.type.inj w))]
  rw [e]
  exact ⟨.bl _, H, I, rfl, q⟩
structure TyN (X : Cx) (t : String) : Prop where
  hg : Gl X (Str.ofString t)
  hm : X.mg (Str.ofString t) = none
  hv : bootBuiltins (Str.ofString t) = some (.type t)
  hn : Str.ofString t ≠ "__name__"
  hd : (Str.ofString t == ("__debug__" : Str)) = false
theorem pe_tyN {t : String} {p2 : Pos} (h : TyN X t) : PE X (.Name (Str.ofString t) p2) (tC (.ty t)) := pe_bltn (v := .ty t) h.hg h.hm h.hv rfl h.hn h.hd
def evTy (q : Bool) (t : String) (f : Env → Out PyData) (env : Env) : Out PyData := (f env).bind fun x e1 => .ok (.bool (if q then tyD x == t else !(tyD x == t))) e1
theorem je_tyIs {t : String} {q : Bool} {p2 p3 p4 : Pos} (hK : X.K = Y.K) (hs : starEach [a] X.env = (false, eval a X.env) :: starEach [] X.env) (hg : Gl X "type") (hm : X.mg "type" = none) (ht : TyN X t) (ja : JE Y M sc W X a f za) :
    JE Y M sc W X (.Compare (.Call (.Name "type" p) [a] [] p3) [if q then .Is else .IsNot] [.Name (Str.ofString t) p2] p4) (evTy q t f) ⟨za.mu, [], [], false⟩ := by
  obtain ⟨am, ta, pa, ja⟩ := ja
  have pc := pe_callTy (p := p) (pos := p3) (call_typeD (X := X) (Y := Y) hK) hg hm (by decide +kernel) (pa_one pa hs) (he := hs)
  cases q with
  | true =>
    refine ⟨am, _, pe_cmpR op_isTyp pc (pe_tyN ht) (nomark _), fun σ H env Q F Tb h => ?_⟩
    refine ja σ H env _ F Tb (h.bind.imp fun x e1 h1 u H1 F1 k1 r1 _ => ?_)
    exact ⟨_, _, u, x, rfl, r1, _, _, rfl, rfl, h1 _ H1 F1 k1 rfl (fun z => by cases z)⟩
  | false =>
    refine ⟨am, _, pe_cmpR op_isNotTyp pc (pe_tyN ht) (nomark _), fun σ H env Q F Tb h => ?_⟩
    refine ja σ H env _ F Tb (h.bind.imp fun x e1 h1 u H1 F1 k1 r1 _ => ?_)
    exact ⟨_, _, u, x, rfl, r1, _, _, rfl, rfl, h1 _ H1 F1 k1 rfl (fun z => by cases z)⟩
theorem jt_tyIs {t : String} {q : Bool} {p2 p3 p4 : Pos} (hK : X.K = Y.K) (hs : starEach [a] X.env = (false, eval a X.env) :: starEach [] X.env) (hg : Gl X "type") (hm : X.mg "type" = none) (ht : TyN X t) (ja : JE Y M sc W X a f za) :
    JT Y M sc W X (.Compare (.Call (.Name "type" p) [a] [] p3) [if q then .Is else .IsNot] [.Name (Str.ofString t) p2] p4) (evTy q t f) za.mu := by
  obtain ⟨am, ta, pa, ja⟩ := ja
  have pc := pe_callTy (p := p) (pos := p3) (call_typeD (X := X) (Y := Y) hK) hg hm (by decide +kernel) (pa_one pa hs) (he := hs)
  cases q with
  | true =>
    refine ⟨am, _, pt_cmpR op_isTyp pc (pe_tyN ht) (nomark _), fun σ H env Q F Tb h => ?_⟩
    refine ja σ H env _ F Tb (h.bind.imp fun x e1 h1 u H1 F1 k1 r1 _ => ?_)
    obtain ⟨k, e, h2⟩ := h1
    cases e
    exact ⟨_, _, u, x, rfl, r1, _, _, rfl, rfl, _, rfl, h2 H1 F1 k1⟩
  | false =>
    refine ⟨am, _, pt_cmpR op_isNotTyp pc (pe_tyN ht) (nomark _), fun σ H env Q F Tb h => ?_⟩
    refine ja σ H env _ F Tb (h.bind.imp fun x e1 h1 u H1 F1 k1 r1 _ => ?_)
    obtain ⟨k, e, h2⟩ := h1
    cases e
    exact ⟨_, _, u, x, rfl, r1, _, _, rfl, rfl, _, rfl, h2 H1 F1 k1⟩
end
end VF
set_option Elab.async false
set_option maxRecDepth 100000
set_option maxHeartbeats 4000000
namespace VF
open PySem PySem.Spec PyProof.Rows L2
section
variable {prog : Program} {w : World} {A : Around} {E : Value → Shared → Prop} {s : Shared}
/-- sorted of a list or a tuple whose items read as alike data -/
theorem sorted_seq {β : Type} {l : Addr} {T : String} {o : Obj} {its : List Value} {n : Nat} {bs : List β} {enc : β → PyData} {R : Value → β → Prop} {Q : Value → Shared → Prop} (hT : T = "list" ∨ T = "tuple") (ho : s.heap.get? l = some o) (hc : o.cls = .type T) (hd : o.data = .seq its.toArray n)
    (e : PySem.W.EachIs R its bs) (er : PySem.W.EachIs (fun v b => ∃ as, Reads s.heap v (enc b) as) its bs) (hal : PySem.W.AllAlike (bs.map enc)) (hk : PySem.W.Sortable (bs.map enc)) (hL : bs.length ≤ sizeLine) (hu : ∀ b, b ∈ bs → A.units + 2 + (enc b).depth < cLine)
    (h : ∀ (h1 h' : Heap) (p : Addr) (out : List Value) (c : Nat), (∀ b o, s.heap.get? b = some o → h1.get? b = some o) → (∀ b o, h1.get? b = some o → h'.get? b = some o) → h1.objs.size ≤ p → PySem.W.EachIs R out (bs.mergeSort (PySem.W.dataLe false enc)) → h'.get? p = some (seqObj "list" out.toArray c) → Q (.ref p) { s with heap := h' }) :
    wpAny (model prog w) A (call (.builtin "sorted") [.ref l]) Q E s := by
  have hlen : its.length = bs.length := e.length
  refine call_function_entry_kw kind_sorted plain_sorted entry_sorted (args_sorted1 _) ?_
  unfold Builtin.«sorted»
  refine wpAny_bind (m := checkCount "sorted" 1 1 _) (wpAny_pure ?_)
  refine wpAny_bind (wpAny_collect_seq l hT ho hc hd (fun h1 k1 => ?_) (by rw [List.size_toArray, hlen]; exact hL))
  refine wpAny_bind (wpAny_newList ?_ (by show its.length ≤ _; rw [hlen]; exact hL))
  have at_ : (h1.push (seqObj "list" its.toArray 0)).get? h1.objs.size = some (seqObj "list" its.toArray 0) := Heap.get?_push_size _ rfl
  refine wpAny_bind (wpAny_holding (wpAny_call_entry_kw slot_list_sort ⟨_, at_, rfl⟩ entry_list_sort ?body (args_list_sort _)))
  case body =>
    have kk : ∀ b o, s.heap.get? b = some o → b ≠ h1.objs.size ∧ (h1.push (seqObj "list" its.toArray 0)).get? b = some o := fun b o q => ⟨Nat.ne_of_lt (Heap.lt_size (k1 b o q)), Heap.get?_push_of_some _ (k1 b o q)⟩
    have er' : PySem.W.EachIs (fun v b => ∃ as, Reads (PySem.W.sortingHeap (h1.push (seqObj "list" its.toArray 0)) h1.objs.size its) v (enc b) as) its bs := er.mono fun _ _ ⟨as, r⟩ => ⟨as, PyProof.Rows.Reads.keeps (fun b o q => PySem.W.sortingHeap_old (kk b o q).1 (kk b o q).2) r⟩
    refine PySem.W.list_sort_vals (s := { s with heap := h1.push (seqObj "list" its.toArray 0) }) (κ := PySem.W.dataKind (PySem.W.sortingHeap (h1.push (seqObj "list" its.toArray 0)) h1.objs.size its) (bs.map enc)) at_
      (PySem.W.SortsAt.data (s := { s with heap := PySem.W.sortingHeap (h1.push (seqObj "list" its.toArray 0)) h1.objs.size its }) (PySem.W.each_map (R := fun v d => ∃ as, Reads (PySem.W.sortingHeap (h1.push (seqObj "list" its.toArray 0)) h1.objs.size its) v d as) enc er') hal hk (PySem.W.bound_map hu)) (by rw [hlen]; exact hL) ⟨_, rfl, ?_⟩
    obtain ⟨c, hc'⟩ := PyProof.Rows.sortedHeap_at (vs := its) (out := (PySem.W.sortVals (PySem.W.dataKind (PySem.W.sortingHeap (h1.push (seqObj "list" its.toArray 0)) h1.objs.size its) (bs.map enc)) false its its).toArray) at_
    refine wpAny_pure ⟨_, rfl, h h1 _ _ _ c k1 (fun b o q => ?_) (Nat.le_refl _) (PySem.W.sortVals_data false e er' hal) hc'⟩
    have q2 := Heap.get?_push_of_some (seqObj "list" its.toArray 0) q
    rw [PyProof.Rows.sortedHeap_old (Nat.ne_of_lt (Heap.lt_size q)) (Heap.lt_size q2)]
    exact q2
end
section
variable {Y : Sys} {M : MM} {sc : SC} {W : WX} {X : Cx} {σ : L2.St} {H H1 : Hp}
variable {e a b c : Expr} {f g h : Env → Out PyData} {za zb zc : St} {p pos : Pos} {ma mb mc oa ob : List Nat}
theorem leI_data (i j : Int) : PySem.W.dataLe false id (.int i) (.int j) = leI i j := by
  have := congrFun (congrFun (PySem.W.dataLe_int (β := Int) id) i) j
  exact this
theorem leP_data (i j : Int × Int) : PySem.W.dataLe false id (.tuple [.int i.1, .int i.2]) (.tuple [.int j.1, .int j.2]) = leP i j := by
  have := congrFun (congrFun (PySem.W.dataLe_ii (β := Int × Int) (·.1) (·.2)) i) j
  exact this
theorem pairs_map : ∀ {ds : List PyData} {ps : List (Int × Int)}, pairsOf ds = some ps → ds = ps.map fun p => .tuple [.int p.1, .int p.2]
  | [], ps, h => by cases h; rfl
  | .tuple [.int i, .int j] :: r, ps, h => by
    simp only [pairsOf, Option.map_eq_some_iff] at h
    obtain ⟨cs, h1, rfl⟩ := h
    rw [pairs_map h1]; rfl
  | .tuple [] :: _, _, h => by simp [pairsOf] at h
  | .tuple [_] :: _, _, h => by simp [pairsOf] at h
  | .tuple (_ :: _ :: _ :: _) :: _, _, h => by simp [pairsOf] at h
  | .tuple [.none, _] :: _, _, h => by simp [pairsOf] at h
  | .tuple [.bool _, _] :: _, _, h => by simp [pairsOf] at h
  | .tuple [.str _, _] :: _, _, h => by simp [pairsOf] at h
  | .tuple [.list _, _] :: _, _, h => by simp [pairsOf] at h
  | .tuple [.tuple _, _] :: _, _, h => by simp [pairsOf] at h
  | .tuple [.dict _, _] :: _, _, h => by simp [pairsOf] at h
  | .tuple [.int _, .none] :: _, _, h => by simp [pairsOf] at h
  | .tuple [.int _, .bool _] :: _, _, h => by simp [pairsOf] at h
  | .tuple [.int _, .str _] :: _, _, h => by simp [pairsOf] at h
  | .tuple [.int _, .list _] :: _, _, h => by simp [pairsOf] at h
  | .tuple [.int _, .tuple _] :: _, _, h => by simp [pairsOf] at h
  | .tuple [.int _, .dict _] :: _, _, h => by simp [pairsOf] at h
  | .none :: _, _, h => by simp [pairsOf] at h
  | .bool _ :: _, _, h => by simp [pairsOf] at h
  | .int _ :: _, _, h => by simp [pairsOf] at h
  | .str _ :: _, _, h => by simp [pairsOf] at h
  | .list _ :: _, _, h => by simp [pairsOf] at h
  | .dict _ :: _, _, h => by simp [pairsOf] at h
/-- what sortD says, in the library's words -/
theorem sortD_data {ds es : List PyData} (h : sortD ds = some es) : es = ds.mergeSort (PySem.W.dataLe false id) ∧ PySem.W.AllAlike ds ∧ PySem.W.Sortable ds ∧ ∀ d ∈ ds, d.depth ≤ 1 := by
  unfold sortD at h
  split at h
  · rename_i ns e
    cases h
    have := ints_map e
    subst this
    refine ⟨List.map_mergeSort fun a _ b _ => (leI_data a b).symm, fun d hd d' hd' => ?_, .inr fun d hd => ?_, fun d hd => ?_⟩
    · obtain ⟨i, _, rfl⟩ := List.mem_map.mp hd
      obtain ⟨j, _, rfl⟩ := List.mem_map.mp hd'
      rfl
    · obtain ⟨i, _, rfl⟩ := List.mem_map.mp hd
      exact ⟨(by intro z; cases z), (by intro xs z; cases z)⟩
    · obtain ⟨i, _, rfl⟩ := List.mem_map.mp hd
      simp [PyData.depth]
  · split at h
    · rename_i ps e
      cases h
      have := pairs_map e
      subst this
      refine ⟨List.map_mergeSort fun a _ b _ => (leP_data a b).symm, fun d hd d' hd' => ?_, .inl fun d hd => ?_, fun d hd => ?_⟩
      · obtain ⟨i, _, rfl⟩ := List.mem_map.mp hd
        obtain ⟨j, _, rfl⟩ := List.mem_map.mp hd'
        rfl
      · obtain ⟨i, _, rfl⟩ := List.mem_map.mp hd
        exact ⟨_, _, rfl⟩
      · obtain ⟨i, _, rfl⟩ := List.mem_map.mp hd
        simp [PyData.depth, PyData.depthAll]
    · cases h
theorem each_zip {K : PySem.W.Frag} {G : Addr → Prop} : ∀ {ds : List PyData} {vs : List V} {us : List Value}, Reps K G H ds vs → Vals vs us → PySem.W.EachIs (fun u (b : V × PyData) => RelV b.1 u ∧ Rep K G H b.2 b.1) us (vs.zip ds)
  | [], _, _, r, v => by cases r; cases v; exact .nil
  | d :: ds, _, _, r, v => by
    obtain ⟨x, y, e, r1, r2⟩ := r
    subst e
    cases v with
    | cons v1 v2 => exact .cons ⟨v1, r1⟩ (each_zip r2 v2)
theorem each_back {K : PySem.W.Frag} {G : Addr → Prop} : ∀ {us : List Value} {bs : List (V × PyData)}, PySem.W.EachIs (fun u (b : V × PyData) => RelV b.1 u ∧ Rep K G H b.2 b.1) us bs → Vals (bs.map (·.1)) us ∧ Reps K G H (bs.map (·.2)) (bs.map (·.1))
  | _, _, .nil => ⟨.nil, rfl⟩
  | _, _, .cons h t => let ⟨h1, h2⟩ := each_back t; ⟨.cons h.1 h1, _, _, rfl, h.2, h2⟩
theorem call_sortedD (hu : X.A.units + 65 < cLine) (hK : X.K = Y.K) : CallR X (.builtin "sorted") (fun xs H Q => ∃ (F G : Addr → Prop) (v : V) (d : PyData) (ds es : List PyData), xs = [v] ∧ Rp Y.K F G H d v ∧ items d = some ds ∧ sortD ds = some es ∧
    ∀ p vs, Reps Y.K G H es vs → H p = none → Q (.ref p) (upd H p (.lst vs))) := by
  intro pins s σ H xs us Q I r h
  obtain ⟨F, G, v, d, ds, es, rfl, rr, ei, es1, q⟩ := h
  obtain ⟨u, rfl, ru⟩ := vals1 r
  obtain ⟨p, vs, rfl, sq, rs⟩ := rr.items ei
  obtain rfl : u = .ref p := ru
  obtain ⟨e1, e2, e3, e4⟩ := sortD_data es1
  have key : ∀ {T : String} {o : Obj} {its : List Value} {n : Nat}, (T = "list" ∨ T = "tuple") → s.heap.get? p = some o → o.cls = .type T → o.data = .seq its.toArray n → Vals vs its → vs.length ≤ sizeLine → wpAny (model X.prog X.w) X.A (call (.builtin "sorted") [.ref p]) (EP X pins σ Q) X.xe s := by
    intro T o its n hT ho hc hd rv hz
    have hds : (vs.zip ds).map (·.2) = ds := by
      exact List.map_snd_zip (Nat.le_of_eq rs.len.symm)
    have ez := each_zip rs rv
    have er : PySem.W.EachIs (fun v (b : V × PyData) => ∃ as, Reads s.heap v b.2 as) its (vs.zip ds) := ez.mono fun u b hb => Dp.reads I b.2 b.1 u (hK ▸ Rep.dp _ _ hb.2) hb.1
    refine sorted_seq (enc := fun b : V × PyData => b.2) hT ho hc hd ez er (by rw [hds]; exact e2) (by rw [hds]; exact e3) (by rw [← ez.length, ← rv.length]; exact hz) (fun b hb => ?_) fun h1 h' pn out c k1 k2 hp eo hpo => ?_
    · have := e4 b.2 (by rw [← hds]; exact List.mem_map.mpr ⟨b, hb, rfl⟩)
      omega
    · obtain ⟨o1, o2⟩ := each_back eo
      have em : ((vs.zip ds).mergeSort (PySem.W.dataLe false fun b : V × PyData => b.2)).map (·.2) = es := by
        rw [e1]
        conv => rhs; rw [← hds]
        exact List.map_mergeSort fun a _ b _ => rfl
      rw [em] at o2
      have I1 : Inv X pins σ H { s with heap := h1 } := I.kept (t' := s.toks) k1
      have hl : (((vs.zip ds).mergeSort (PySem.W.dataLe false fun b : V × PyData => b.2)).map (·.1)).length ≤ sizeLine := by
        rw [List.length_map, List.length_mergeSort, ← ez.length, ← rv.length]
        exact hz
      exact ⟨.ref pn, _, I1.laid (t' := s.toks) (a := pn) (o := .lst _) k2 hp ⟨hl, out, c, o1, hpo⟩, rfl, q pn _ o2 (I1.hok.fresh hp)⟩
  rcases sq with sq | sq
  · obtain ⟨its, rv, ⟨o, n, ho, hc, _, hd⟩, hz⟩ := I.list (hK ▸ sq)
    exact key (.inl rfl) ho hc hd rv hz
  · obtain ⟨its, rv, ⟨o, ho, hc, n, hd⟩, hz⟩ := I.tuple (hK ▸ sq)
    exact key (.inr rfl) ho hc hd rv hz
theorem bid_sorted : BiD Y (fun xs H Q => ∃ (F G : Addr → Prop) (v : V) (d : PyData) (ds es : List PyData), xs = [v] ∧ Rp Y.K F G H d v ∧ items d = some ds ∧ sortD ds = some es ∧
    ∀ p vs, Reps Y.K G H es vs → H p = none → Q (.ref p) (upd H p (.lst vs))) (biD .sorted) := by
  intro x z u H Q F1 G1 e r1 o h
  cases x <;> simp only [biD] at e <;> try (cases e; done)
  · obtain ⟨es, e1, rfl⟩ := Option.map_eq_some_iff.mp e
    exact ⟨F1, G1, u, _, _, es, rfl, r1, rfl, e1, fun p vs r hp => opd_list h r o hp⟩
  · obtain ⟨es, e1, rfl⟩ := Option.map_eq_some_iff.mp e
    exact ⟨F1, G1, u, _, _, es, rfl, r1, rfl, e1, fun p vs r hp => opd_list h r o hp⟩
end
end VF
set_option Elab.async false
set_option linter.all false
set_option maxRecDepth 100000
set_option maxHeartbeats 4000000
namespace VF
open PySem PySem.Spec PyProof.Rows L2
/-! ### calls whose surroundings are known not to be within a repr -/
structure RoomG (k : Nat) (A : Around) : Prop extends Room k A where
  gd : A.guards = some []
theorem RoomG.in_ {k : Nat} {A : Around} (r : RoomG (k + 1) A) (env : PySem.Env) : RoomG k (A.deeper env) := ⟨r.toRoom.deeper env, r.gd⟩
/-- what a def promises when it is called so -/
structure FnG (Pr : Program) (ww : World) (KK : PySem.W.Frag) (mg : Str → Option Value) (base : Heap) (CXX : CXT) (k : Nat) (fad : Addr) (fd : FuncData) (ps : List Str) (sp : Sp) : Prop where
  len : ∀ vs H Q E, sp vs H Q E → vs.length = ps.length
  run : ∀ (A : Around) (outer : List PySem.Env) (s : Shared) (H : Hp) (args : Args) (us : List Value) (vs : List V) (Q : VK) (E : XK), RoomG k A → Env0 Pr ww KK mg base A outer s H → BindsTo s fd args (ps.zip us) → Vals vs us → sp vs H Q E → codeAny (model Pr ww) A (.call (.ref fad) args) (CR CXX outer Pr ww H s Q E) s
section
variable {CXX : CXT} {Pr : Program} {ww : World} {KK : PySem.W.Frag} {mg : Str → Option Value} {base : Heap}
/-- a def called in one place -/
theorem fn_at {k : Nat} {fad : Addr} {nm ql : Str} {prs : Arguments} {bd : List Stmt} {scp : Scope} {dV kV dc pm cdv ct oc : Value} {an od : Option Addr} {osl : Array (Option Value)} {N ps : List Str}
    (lk : KK.lookup fad = some ⟨oc, od, .func (PySem.W.fnOf nm ql prs bd scp dV kV dc pm an cdv ct), osl⟩) (hcd : PySem.W.codeIn KK cdv ql = true) (S : FnScope N ps scp)
    {A : Around} {outer : List PySem.Env} {s : Shared} {H : Hp} {args : Args} {us : List Value} {vs : List V} {Q : VK} {E : XK} (hroom : Room (k + 1) A) (e0 : Env0 Pr ww KK mg base A outer s H)
    (hb : BindsTo s (PySem.W.fnOf nm ql prs bd scp dV kV dc pm an cdv ct) args (ps.zip us)) (rv : Vals vs us) (hl : vs.length = ps.length) {t : TS} (ht : PSs (cxOf CXX Pr ww KK mg base N ql scp fad cdv A outer s H E) bd t)
    (hq : t { nx := fun _ H' => Q .non H', rt := Q } (start N vs) H) : codeAny (model Pr ww) A (.call (.ref fad) args) (CR CXX outer Pr ww H s Q E) s := by
  have kin : KK.In s.heap := e0.mod.kin.keeps fun c o e => (e0.bs c o e).1
  refine codeAny_call_function hroom.depth (kin _ _ lk) rfl S.co S.gen rfl (PySem.W.codeRec_of kin hcd) (hb _ _ _ _ (wpAny_newFunctionEnv_cells S.kind (fun ⟨y, v⟩ hy => ?_) fun env he s2 ic => ?_))
  · exact (S.par y (List.of_mem_zip hy).1).elim .inl fun z => .inr ⟨z, PySem.W.cellsFrom_some _ _ _ (.inl z)⟩
  · subst he
    have nl : s.heap.NoLimit := e0.mod.nolimit.keeps fun c o e => (e0.bs c o e).1
    refine ⟨nl.keeps ic.toInCall.keep, codeAny_func (wpAny_mono (ht.run [] s2 (start N vs) H _ (inv_start S hroom.hd e0 hl rv ic) hq) (fun fl s3 h3 => ?_) fun _ _ z => z)⟩
    cases fl with
    | brk => obtain ⟨_, _, _, z⟩ := h3; exact False.elim z
    | cont => obtain ⟨_, _, _, z⟩ := h3; exact False.elim z
    | next =>
      obtain ⟨_, H', J, q⟩ := h3
      exact ⟨V.non, H', J.os, J.bare, J.base, J.hok, rfl, q⟩
    | ret u =>
      obtain ⟨v, _, H', J, r3, q⟩ := h3
      exact ⟨v, H', J.os, J.bare, J.base, J.hok, r3, q⟩
end
section
variable {X : Cx} {CXX : CXT} {k : Nat} {fad : Addr} {fd : FuncData} {ps : List Str} {sp : Sp} {E : L2.St → XK} {nm : Str} {p pos : Pos} {e : Expr} {es : List Expr} {t : TA}
theorem pe_callG (F : FnG X.prog X.w X.K X.mg X.base CXX k fad fd ps sp) (room : RoomG k X.A) (gl : Gl X nm) (gm : X.mg nm = some (.ref fad)) (kp : PySem.W.keepIn X.K (.ref fad) = true) (bd : Binds X.K fd ps []) (px : ∀ σ, PassesAt CXX X σ (E σ)) (pa : PA X (e :: es) t)
    (db : (nm == ("__debug__" : Str)) = false) (s1 : starEach (e :: es) X.env = (false, eval e X.env) :: starEach es X.env) (s2 : (backTo pos (starEach es X.env)).any (·.1) = false) : PE X (.Call (.Name nm p) (e :: es) [] pos) (tCallS sp E t) := ⟨fun pins s σ H Q I h => by
  refine wpAny_Call_Name_kw (ld_glob I gl gm ?_ db)
  refine PySem.W.callWith_K (h₀ := X.base) I.ok.mod.kin kp (thn (pa.run pos pins s σ H _ I h) fun us s' hh => ?_) s1 s2
  obtain ⟨vs, H', J, r, q⟩ := hh
  refine ⟨J.kIn, ?_⟩
  have b := bd s' us J.kIn (by rw [List.append_nil, ← r.length]; exact F.len _ _ _ _ q)
  rw [List.append_nil] at b
  refine wpAny_call (codeAny_mono (F.run X.A X.stack s' H' ⟨us, []⟩ us vs Q (E σ) room J.env0 b r q) fun res s'' hq => ?_)
  match res, hq with
  | .error e, hq => exact px σ pins H' s' e s'' J hq
  | .ok (.ret u), hq => exact J.after hq
  | .ok .next, hq => exact hq.elim
  | .ok .brk, hq => exact hq.elim
  | .ok .cont, hq => exact hq.elim⟩
end
end VF
set_option Elab.async false
set_option maxRecDepth 100000
set_option maxHeartbeats 4000000
namespace VF
open PySem PySem.Spec PyProof.Rows L2

/-! ### lists handed over by reference -/
def Refs (K : PySem.W.Frag) (F : Addr → Prop) (H : Hp) : List PyData → List Addr → Prop
  | [], as => as = []
  | d :: ds, as => ∃ a r xs vs, as = a :: r ∧ d = .list xs ∧ H a = some (.lst vs) ∧ Reps K F H xs vs ∧ Refs K F H ds r
def Sl (σ : L2.St) : List Nat → List Addr → Prop
  | [], as => as = []
  | i :: is, as => ∃ a r, as = a :: r ∧ σ[i]? = some (some (.ref a)) ∧ Sl σ is r
def Fcat (as : List Addr) (G : Addr → Prop) : Addr → Prop := fun a => G a ∨ a ∈ as
section
variable {K : PySem.W.Frag} {F F' G : Addr → Prop} {H H' : Hp} {σ : L2.St}
theorem Refs.weak (k : ∀ a, F' a → F a) : ∀ {ds : List PyData} {as : List Addr}, Refs K F H ds as → Refs K F' H ds as
  | [], _, h => h
  | d :: ds, _, h => by obtain ⟨a, r, xs, vs, e, e1, e2, e3, e4⟩ := h; exact ⟨a, r, xs, vs, e, e1, e2, Reps.weak k _ _ e3, Refs.weak k e4⟩
theorem Refs.len : ∀ {ds : List PyData} {as : List Addr}, Refs K F H ds as → as.length = ds.length
  | [], _, h => by cases h; rfl
  | d :: ds, _, h => by obtain ⟨a, r, xs, vs, e, e1, e2, e3, e4⟩ := h; subst e; simp [Refs.len e4]
theorem Refs.grow (k : Kp T F0 H H') : ∀ {ds : List PyData} {as : List Addr}, Refs K F H ds as → Refs K F H' ds as
  | [], _, h => h
  | d :: ds, _, h => by
    obtain ⟨a, r, xs, vs, e, e1, e2, e3, e4⟩ := h
    exact ⟨a, r, xs, vs, e, e1, k.keep a _ e2 (fun z => z) (fun ps z => by cases z), Reps.keep (k.keep.mono fun _ z => z.elim) _ _ e3, Refs.grow k e4⟩
theorem Sl.len : ∀ {is : List Nat} {as : List Addr}, Sl σ is as → as.length = is.length
  | [], _, h => by cases h; rfl
  | i :: is, _, h => by obtain ⟨a, r, e, e1, e2⟩ := h; subst e; simp [Sl.len e2]
theorem Sl.mem : ∀ {is : List Nat} {as : List Addr}, Sl σ is as → ∀ {a}, a ∈ as → ∃ i ∈ is, σ[i]? = some (some (.ref a))
  | [], _, h, a, m => by cases h; cases m
  | i :: is, _, h, b, m => by
    obtain ⟨a, r, e, e1, e2⟩ := h
    subst e
    rcases List.mem_cons.mp m with z | z
    · exact ⟨i, List.mem_cons_self, by rw [z]; exact e1⟩
    · obtain ⟨j, h1, h2⟩ := Sl.mem e2 z
      exact ⟨j, List.mem_cons_of_mem _ h1, h2⟩
theorem Sl.mem' : ∀ {is : List Nat} {as : List Addr}, Sl σ is as → ∀ {i a}, i ∈ is → σ[i]? = some (some (.ref a)) → a ∈ as
  | [], _, h, i, a, m, q => by cases m
  | i :: is, _, h, j, b, m, q => by
    obtain ⟨a, r, e, e1, e2⟩ := h
    subst e
    rcases List.mem_cons.mp m with z | z
    · subst z; rw [e1] at q; cases q; exact List.mem_cons_self
    · exact List.mem_cons_of_mem _ (Sl.mem' e2 z q)
theorem Sl.uniq : ∀ {is : List Nat} {as bs : List Addr}, Sl σ is as → Sl σ is bs → as = bs
  | [], _, _, h, h' => by cases h; cases h'; rfl
  | i :: is, _, _, h, h' => by
    obtain ⟨a, r, e, e1, e2⟩ := h
    obtain ⟨a', r', e', e1', e2'⟩ := h'
    rw [e1] at e1'; cases e1'
    rw [e, e', Sl.uniq e2 e2']
theorem setsV_len : ∀ (is : List Nat) (ds : List PyData) (env : Env), (setsV env is ds).length = env.length
  | [], _, _ => by simp [setsV]
  | _ :: _, [], _ => by simp [setsV]
  | i :: is, d :: ds, env => by rw [setsV, setsV_len is ds]; simp [setV]
theorem setsV_ne {j : Nat} : ∀ (is : List Nat) (ds : List PyData) (env : Env), j ∉ is → (setsV env is ds)[j]? = env[j]?
  | [], _, _, _ => by simp [setsV]
  | _ :: _, [], _, _ => by simp [setsV]
  | i :: is, d :: ds, env, h => by
    rw [setsV, setsV_ne is ds _ (fun z => h (List.mem_cons_of_mem _ z))]
    unfold setV
    rw [List.getElem?_set_ne (fun z => h (by rw [z]; exact List.mem_cons_self))]
theorem setsV_at {i : Nat} : ∀ {is : List Nat} {ds : List PyData} {as : List Addr} {env : Env}, is.Nodup → Sl σ is as → Refs K F H ds as → i ∈ is → i < env.length →
    ∃ a xs vs, σ[i]? = some (some (.ref a)) ∧ (setsV env is ds)[i]? = some (some (.list xs)) ∧ H a = some (.lst vs) ∧ Reps K F H xs vs
  | [], _, _, _, _, _, _, h, _ => by cases h
  | j :: is, [], as, env, _, s, r, _, _ => by cases r; obtain ⟨a, r, e, _⟩ := s; cases e
  | j :: is, d :: ds, as, env, nd, s, r, h, hl => by
    obtain ⟨a, ar, e, e1, e2⟩ := s
    obtain ⟨a', ar', xs, vs, e3, e4, e5, e6, e7⟩ := r
    rw [e] at e3
    cases e3
    obtain ⟨nd1, nd2⟩ := List.nodup_cons.mp nd
    by_cases q : i = j
    · subst q
      refine ⟨a, xs, vs, e1, ?_, e5, e6⟩
      rw [setsV, setsV_ne is ds _ nd1, e4]
      unfold setV
      rw [List.getElem?_set_self hl]
    · rw [setsV]
      exact setsV_at nd2 e2 e7 ((List.mem_cons.mp h).resolve_left q) (by simp [setV]; exact hl)
end
section
variable {Y : Sys} {M : MM} {sc : SC} {W : WX} {X : Cx} {σ : L2.St} {H H1 H2 : Hp} {env : Env}
/-- the lists at some slots -/
theorem Fi.refs (F : Fi Y.K M sc σ H env) : ∀ {is : List Nat} {xs : List PyData}, getsV env is = some xs → (∀ i ∈ is, M i = true) → ∃ as, Sl σ is as ∧ Refs Y.K (FX M [] σ) H xs as
  | [], xs, h, _ => by cases h; exact ⟨[], rfl, rfl⟩
  | i :: is, xs, h, m => by
    simp only [getsV, Option.bind_eq_some_iff, Option.map_eq_some_iff] at h
    obtain ⟨d, h1, ds, h2, rfl⟩ := h
    obtain ⟨as, s, r⟩ := Fi.refs F h2 fun j hj => m j (List.mem_cons_of_mem _ hj)
    obtain ⟨a, vs, xs, g1, g2, g3, g4⟩ := F.mt i d (getV_some h1) (m i List.mem_cons_self)
    exact ⟨a :: as, ⟨a, as, rfl, g1, s⟩, ⟨a, as, xs, vs, rfl, g2, g3, g4, r⟩⟩
theorem Fi.nodup (F : Fi Y.K M sc σ H env) : ∀ {is : List Nat} {as : List Addr}, is.Nodup → (∀ i ∈ is, M i = true) → Sl σ is as → as.Nodup
  | [], _, _, _, h => by cases h; exact .nil
  | i :: is, _, nd, m, h => by
    obtain ⟨a, r, e, e1, e2⟩ := h
    subst e
    obtain ⟨nd1, nd2⟩ := List.nodup_cons.mp nd
    refine List.nodup_cons.mpr ⟨fun z => ?_, Fi.nodup F nd2 (fun j hj => m j (List.mem_cons_of_mem _ hj)) e2⟩
    obtain ⟨j, h1, h2⟩ := Sl.mem e2 z
    exact nd1 (by rw [F.inj i j a (m i List.mem_cons_self) (m j (List.mem_cons_of_mem _ h1)) e1 h2]; exact h1)
/-- M's slots hold lists -/
theorem Fi.lst {K : PySem.W.Frag} (F : Fi K M sc σ H env) {i : Nat} {a : Addr} (m : M i = true) (e : σ[i]? = some (some (.ref a))) : ∃ xs vs, env[i]? = some (some (.list xs)) ∧ H a = some (.lst vs) := by
  have hl : i < env.length := by rw [F.len]; exact (List.getElem?_eq_some_iff.mp e).1
  cases q : env[i]? with
  | none => rw [List.getElem?_eq_none_iff] at q; omega
  | some d => cases d with
    | none => rw [F.un i m q] at e; cases e
    | some d =>
      obtain ⟨a', vs, xs, g1, g2, g3, _⟩ := F.mt i d q m
      rw [e] at g1; cases g1
      subst g2
      exact ⟨xs, vs, rfl, g3⟩
/-- the lists at some slots have changed -/
theorem Fi.put {is : List Nat} {as : List Addr} {rs : List PyData} (F : Fi Y.K M sc σ H env) (nd : is.Nodup) (m : ∀ i ∈ is, M i = true) (s : Sl σ is as) (k : Kp Y.T (· ∈ as) H H1) (r : Refs Y.K (FX M [] σ) H1 rs as) : Fi Y.K M sc σ H1 (setsV env is rs) := by
  have sub : ∀ a, a ∈ as → FX M [] σ a := fun a z => by
    obtain ⟨i, h1, h2⟩ := Sl.mem s z
    exact .inr ⟨i, m i h1, by simp, h2⟩
  have k2 := k.keep.mono sub
  have away : ∀ i a, M i = true → i ∉ is → σ[i]? = some (some (.ref a)) → a ∉ as := fun i a mi ni e z => by
    obtain ⟨j, h1, h2⟩ := Sl.mem s z
    exact ni (by rw [F.inj i j a mi (m j h1) e h2]; exact h1)
  refine ⟨by rw [setsV_len]; exact F.len, fun i d e mi => ?_, fun i d e mi => ?_, fun i mi e => ?_, F.inj, fun a g => ?_, F.gno, fun ns e => ?_, F.exn⟩
  · rw [setsV_ne is rs env (fun z => by rw [m i z] at mi; cases mi)] at e
    obtain ⟨v, h1, h2⟩ := F.val i d e mi
    exact ⟨v, h1, Rep.keep k2 _ _ h2⟩
  · by_cases hi : i ∈ is
    · have hl : i < env.length := by rw [← setsV_len is rs env]; exact (List.getElem?_eq_some_iff.mp e).1
      obtain ⟨a, xs, vs, g1, g2, g3, g4⟩ := setsV_at nd s r hi hl
      rw [e] at g2; cases g2
      exact ⟨a, vs, xs, g1, rfl, g3, g4⟩
    · rw [setsV_ne is rs env hi] at e
      obtain ⟨a, vs, xs, h1, h2, h3, h4⟩ := F.mt i d e mi
      exact ⟨a, vs, xs, h1, h2, k.keep a _ h3 (away i a mi hi h1) (fun ps z => by cases z), Reps.keep k2 _ _ h4⟩
  · by_cases hi : i ∈ is
    · have hl : i < env.length := by rw [← setsV_len is rs env]; exact (List.getElem?_eq_some_iff.mp e).1
      obtain ⟨a, xs, vs, g1, g2, g3, g4⟩ := setsV_at nd s r hi hl
      rw [e] at g2; cases g2
    · rw [setsV_ne is rs env hi] at e
      exact F.un i mi e
  · obtain ⟨vs, h⟩ := F.gin a g
    refine ⟨vs, k.keep a _ h (fun z => ?_) (fun ps z => by cases z)⟩
    obtain ⟨j, h1, h2⟩ := Sl.mem s z
    exact F.gno j a (m j h1) h2 g
  · obtain ⟨a, h1, h2, h3⟩ := F.scr ns e
    exact ⟨a, h1, h2.keep k2, h3⟩

/-! ### what a def promises -/
def spEnd (Y : Sys) (s : Sig) (as : List Addr) (G : Addr → Prop) (H : Hp) (Q : VK) (E : XK) : CRes → Prop
  | .ok d rs => ∀ v H', Kp Y.T (· ∈ as) H H' → Refs Y.K (Fcat as G) H' rs as → Rep Y.K (Fcat as G) H' d v → (s.fr = true → Frs Y.K (Fcat as G) H H' d v) → Q v H'
  | .exc x rs => ∀ cls dd H', Kp Y.T (· ∈ as) H H' → Refs Y.K (Fcat as G) H' rs as → ExRo Y x cls dd H' → E cls dd H'
  | .bad => False
def spV (Y : Sys) (cs : Calls) (f : Str) (s : Sig) : Sp := fun vs H Q E => vs.length = s.ps.length ∧ ∃ (as : List Addr) (ws : List V) (xs ds : List PyData) (G : Addr → Prop), vs = as.map V.ref ++ ws ∧ as.length = s.nr ∧ as.Nodup ∧ (∀ a, a ∈ as → ¬ G a) ∧
  (∀ a, G a → ∃ us, H a = some (.lst us)) ∧ LamX.Tabs Y.T H ∧ Refs Y.K (Fcat as G) H xs as ∧ Reps Y.K (Fcat as G) H ds ws ∧ spEnd Y s as G H Q E (cs f (xs ++ ds))
/-- the defs keep what cs says, k deep -/
structure FnI (Y : Sys) (cs : Calls) (k : Nat) (f : Str) (s : Sig) (fa : Addr) (fd : FuncData) : Prop where
  mg : Y.mg f = some (.ref fa)
  kp : PySem.W.keepIn Y.K (.ref fa) = true
  db : (f == ("__debug__" : Str)) = false
  bd : Binds Y.K fd s.ps []
  kb : ∀ ks, (f, ks) ∈ Y.kl → ∀ (h : Shared) (ws zs : List Value), Y.K.In h.heap → ws.length = ks.length → pick (kix s.ps ks) ws = some zs → BindsTo h fd ⟨[], ks.zip ws⟩ (s.ps.zip zs)
  ok : FnG Y.P Y.w Y.K Y.mg Y.base (L2.CX Y.P Y.w) k fa fd s.ps (spV Y cs f s)
def Fns (Y : Sys) (cs : Calls) (k : Nat) (sig : Str → Option Sig) : Prop := ∀ f s, sig f = some s → ∃ fa fd, FnI Y cs k f s fa fd
/-- a context of this program -/
structure XOk (Y : Sys) (k : Nat) (cm : Bool) (X : Cx) : Prop where
  P : X.prog = Y.P
  w : X.w = Y.w
  K : X.K = Y.K
  mg : X.mg = Y.mg
  base : X.base = Y.base
  nd : X.N.Nodup
  un : X.A.units + 65 < cLine
  room : cm = true → RoomG k X.A
  calm : cm = true → X.calm = true

def tRefs : List Nat → TA → TA
  | [], t => t
  | i :: is, t => tCons (tVar i) (tRefs is t)
theorem pa_refs {es : List Expr} {t : TA} (h : PA X es t) : ∀ {is : List Nat} {ns : List Expr}, Paired (fun i e => PE X e (tVar i) ∧ ∀ es', starEach (e :: es') X.env = (false, eval e X.env) :: starEach es' X.env) is ns → PA X (ns ++ es) (tRefs is t)
  | _, _, .nil => h
  | _, _, .cons p q => pa_cons p.1 (pa_refs h q) (p.2 _)
theorem refs_run {t : TA} {Q : List V → Hp → Prop} : ∀ {is : List Nat} {as : List Addr}, Sl σ is as → t σ H (fun vs H' => Q (as.map V.ref ++ vs) H') → tRefs is t σ H Q
  | [], _, s, h => by cases s; exact h
  | i :: is, _, s, h => by
    obtain ⟨a, r, e, e1, e2⟩ := s
    subst e
    exact ⟨_, e1, refs_run e2 h⟩
theorem sl_of {env : Env} (F : Fi Y.K M sc σ H env) {is : List Nat} {xs : List PyData} (h : getsV env is = some xs) (m : ∀ i ∈ is, M i = true) : ∃ as, Sl σ is as := let ⟨as, s, _⟩ := F.refs h m; ⟨as, s⟩
def evCall (sig : Str → Option Sig) (cs : Calls) (f : Str) (rs : List Nat) (fs : Env → Out (List PyData)) (env : Env) : Out PyData := (VF.lift (getsV env rs) env).bind fun _ e0 => (fs e0).bind fun ds e => callS sig cs f rs ds e
theorem callS_len {sig : Str → Option Sig} {cs : Calls} {f : Str} {rs : List Nat} {ds : List PyData} {e : Env} {mu : List Nat} {P : PyData → Env → Prop} {s : Sig} (hs : sig f = some s) (h : PO Y M sc W mu σ H P (callS sig cs f rs ds e)) :
    rs.length = s.nr ∧ rs.length + ds.length = s.ps.length ∧ PO Y M sc W mu σ H P (callD cs f rs ds e) := by
  unfold callS at h
  rw [hs] at h
  dsimp only at h
  by_cases q : rs.length = s.nr ∧ rs.length + ds.length = s.ps.length
  · rw [if_pos q] at h
    exact ⟨q.1, q.2, h⟩
  · rw [if_neg q] at h
    exact h.elim
/-- the call itself -/
theorem call_core {cs : Calls} {f : Str} {s : Sig} {rs oa ma : List Nat} {ds : List PyData} {ws : List V} {as : List Addr} {e1 : Env} {Q : VK} {fr : Bool} (am : ∀ i ∈ rs ++ ma, M i = true) (nd : rs.Nodup) (ro : rs = [] ∨ oa = []) (hf : fr = true → s.fr = true)
    (sl : Sl σ rs as) (F1 : Fi Y.K M sc σ H1 e1) (Tb : LamX.Tabs Y.T H1) (k1 : Kp Y.T (FL (rs ++ ma) σ) H H1) (r1 : Reps Y.K (FX M oa σ) H1 ds ws) (hn : rs.length = s.nr) (hl : rs.length + ds.length = s.ps.length)
    (h : PO Y M sc W (rs ++ ma) σ H (VP Y M sc ⟨rs ++ ma, oa, oa, fr⟩ σ H Q) (callD cs f rs ds e1)) : spV Y cs f s (as.map V.ref ++ ws) H1 Q (WE W σ) := by
  have rm : ∀ i ∈ rs, M i = true := fun i hi => am i (List.mem_append_left _ hi)
  have fe : ∀ a, Fcat as (FX M (rs ++ oa) σ) a ↔ FX M oa σ a := fun a => by
    constructor
    · rintro (z | z)
      · exact z.sub fun i hi => List.mem_append_right _ hi
      · obtain ⟨i, h1, h2⟩ := Sl.mem sl z
        refine .inr ⟨i, rm i h1, fun q => ?_, h2⟩
        rcases ro with ro | ro
        · rw [ro] at h1; cases h1
        · rw [ro] at q; cases q
    · rintro (z | ⟨j, h1, h2, h3⟩)
      · exact .inl (.inl z)
      · by_cases hj : j ∈ rs
        · exact .inr (Sl.mem' sl hj h3)
        · exact .inl (.inr ⟨j, h1, fun q => (List.mem_append.mp q).elim hj h2, h3⟩)
  unfold callD at h
  cases hg : getsV e1 rs with
  | none => rw [hg] at h; exact h.elim
  | some xs =>
    rw [hg] at h
    dsimp only at h
    obtain ⟨as', sl', rf⟩ := F1.refs hg rm
    obtain rfl : as' = as := Sl.uniq sl' sl
    have ka : ∀ {H'}, Kp Y.T (· ∈ as') H1 H' → Kp Y.T (FL (rs ++ ma) σ) H H' := fun k => k1.trans (k.mono fun a z => by
      obtain ⟨i, h1, h2⟩ := Sl.mem sl z
      exact ⟨i, List.mem_append_left _ h1, h2⟩)
    have back : ∀ {H' ys}, Kp Y.T (· ∈ as') H1 H' → Refs Y.K (Fcat as' (FX M (rs ++ oa) σ)) H' ys as' → Fi Y.K M sc σ H' (setsV e1 rs ys) := fun {H' ys} k r => by
      refine F1.put nd rm sl k ?_
      rcases ro with ro | ro
      · subst ro
        obtain rfl : as' = [] := sl
        cases ys with
        | nil => rfl
        | cons y ys => obtain ⟨_, _, _, _, e, _⟩ := r; cases e
      · exact r.weak fun a z => (fe a).mpr (z.sub fun i hi => by rw [ro] at hi; cases hi)
    refine ⟨?_, as', ws, xs, ds, FX M (rs ++ oa) σ, rfl, by rw [sl.len, hn], F1.nodup nd rm sl, fun a z g => ?_, fun a g => ?_, Tb, rf.weak (fun a z => ((fe a).mp z).sub fun i hi => (by cases hi)), Reps.weak (fun a z => (fe a).mp z) _ _ r1, ?_⟩
    · rw [List.length_append, List.length_map, sl.len, r1.len, hl]
    · obtain ⟨i, h1, h2⟩ := Sl.mem sl z
      rcases g with g | ⟨j, g1, g2, g3⟩
      · exact F1.gno i a (rm i h1) h2 g
      · exact g2 (List.mem_append_left _ (by rw [← F1.inj i j a (rm i h1) g1 h2 g3]; exact h1))
    · rcases g with g | ⟨j, g1, g2, g3⟩
      · exact F1.gin a g
      · obtain ⟨_, us, _, e⟩ := F1.lst g1 g3
        exact ⟨us, e⟩
    · cases hc : cs f (xs ++ ds) with
      | bad => rw [hc] at h; exact h.elim
      | ok d ys =>
        rw [hc] at h
        dsimp only at h
        intro v H' k r rv fv
        have h : VP Y M sc ⟨rs ++ ma, oa, oa, fr⟩ σ H Q d (setsV e1 rs ys) := h
        refine h v H' (back k r) (ka k) (Rp.of (Rep.weak (fun a z => (fe a).mpr z) _ _ rv)) fun e xs ex => ?_
        obtain ⟨p, vs, e1', e2, e3, e4⟩ := fv (hf e) xs ex
        exact ⟨p, vs, e1', Nw.back e2 F1 k1 am, e3, Reps.weak (fun a z => z.elim (fun q => .inl ((fe a).mpr q)) .inr) _ _ e4⟩
      | exc x ys =>
        rw [hc] at h
        dsimp only at h
        intro cls dd H' k r ex
        exact h cls dd H' (back k r) (ka k) ex
theorem je_call {cs : Calls} {k : Nat} {sig : Str → Option Sig} {f : Str} {s : Sig} {rs ma oa : List Nat} {ns es es0 : List Expr} {e0 : Expr} {fs : Env → Out (List PyData)} {fr : Bool} {p pos : Pos} (O : XOk Y k true X) (fns : Fns Y cs k sig) (tk : Takes X W) (hs : sig f = some s) (hf : fr = true → s.fr = true)
    (hg : Gl X f) (hns : Paired (fun i e => PE X e (tVar i) ∧ ∀ es', starEach (e :: es') X.env = (false, eval e X.env) :: starEach es' X.env) rs ns) (rm : ∀ i ∈ rs, M i = true) (nd : rs.Nodup) (ro : rs = [] ∨ oa = []) (ja : JA Y M sc W X es fs ma oa)
    (he : ns ++ es = e0 :: es0) (h1 : starEach (e0 :: es0) X.env = (false, eval e0 X.env) :: starEach es0 X.env) (h2 : (backTo pos (starEach es0 X.env)).any (·.1) = false) :
    JE Y M sc W X (.Call (.Name f p) (e0 :: es0) [] pos) (evCall sig cs f rs fs) ⟨rs ++ ma, oa, oa, fr⟩ := by
  obtain ⟨am, t, pa, ja⟩ := ja
  obtain ⟨fa, fd, I⟩ := fns f s hs
  have F := I.ok
  have hm := I.mg
  have hk := I.kp
  have hb := I.bd
  obtain ⟨P, w, K, mg, base, xnd, un, room, calm⟩ := O
  rw [← P, ← w, ← K, ← mg, ← base] at F
  rw [← mg] at hm
  rw [← K] at hk hb
  refine ⟨app_M rm am, _, pe_callG F (room rfl) hg hm hk hb (fun σ => passAt tk σ) (he ▸ pa_refs pa hns) I.db h1 h2, fun σ H env Q F0 Tb h => ?_⟩
  unfold evCall at h
  obtain ⟨xs, hx, h⟩ := h.bind.lift
  obtain ⟨as, sl⟩ := sl_of F0 hx rm
  refine refs_run sl (ja σ H env _ F0 Tb ((h.bind.to mem_r .refl).imp fun ds e1 h1 ws H1 F1 k1 r1 => ?_))
  obtain ⟨g1, g2, h1⟩ := callS_len hs h1
  exact call_core (app_M rm am) nd ro hf sl F1 (k1.tabs Tb) (k1.mono fun a z => z.sub mem_r) r1 g1 g2 h1
end
end VF
set_option Elab.async false
set_option maxRecDepth 100000
set_option maxHeartbeats 4000000
namespace VF
open PySem PySem.Spec PyProof.Rows L2

/-! ### slots that change -/
section
variable {K : PySem.W.Frag} {M : MM} {sc : SC} {σ σ' : L2.St} {H H1 : Hp} {env env' : Env} {o : List Nat}
theorem FX_same (h : ∀ i, M i = true → σ'[i]? = σ[i]?) {a : Addr} : FX M o σ' a ↔ FX M o σ a := by
  constructor
  · rintro (g | ⟨i, h1, h2, h3⟩)
    · exact .inl g
    · exact .inr ⟨i, h1, h2, by rw [← h i h1]; exact h3⟩
  · rintro (g | ⟨i, h1, h2, h3⟩)
    · exact .inl g
    · exact .inr ⟨i, h1, h2, by rw [h i h1]; exact h3⟩
/-- other values at slots of no list of their own -/
theorem Fi.other (F : Fi K M sc σ H env) (hM : ∀ i, M i = true → σ'[i]? = σ[i]? ∧ env'[i]? = env[i]?) (h0 : ∀ i, fx sc i → σ'[i]? = σ[i]?) (hl : σ'.length = σ.length) (hl' : env'.length = env.length)
    (hv : ∀ i d, env'[i]? = some (some d) → M i = false → ∃ v, σ'[i]? = some (some v) ∧ Rep K (FX M [] σ) H d v) : Fi K M sc σ' H env' := by
  have fe : ∀ {o : List Nat} {a : Addr}, FX M o σ' a ↔ FX M o σ a := FX_same fun i m => (hM i m).1
  refine ⟨by rw [hl, hl', F.len], fun i d e m => ?_, fun i d e m => ?_, fun i m e => ?_, fun i j a mi mj e1 e2 => ?_, F.gin, fun i a m e => ?_, fun ns e => ?_, fun i a e => ⟨(h0 i (.inr ⟨a, e⟩)).trans (F.exn i a e).1, (F.exn i a e).2⟩⟩
  · obtain ⟨v, h1, h2⟩ := hv i d e m
    exact ⟨v, h1, Rep.weak (fun a z => fe.mp z) _ _ h2⟩
  · rw [(hM i m).2] at e
    obtain ⟨a, vs, xs, h1, h2, h3, h4⟩ := F.mt i d e m
    exact ⟨a, vs, xs, by rw [(hM i m).1]; exact h1, h2, h3, Reps.weak (fun a z => fe.mp z) _ _ h4⟩
  · rw [(hM i m).2] at e
    rw [(hM i m).1]
    exact F.un i m e
  · rw [(hM i mi).1] at e1
    rw [(hM j mj).1] at e2
    exact F.inj i j a mi mj e1 e2
  · rw [(hM i m).1] at e
    exact F.gno i a m e
  · obtain ⟨a, h1, h2, h3⟩ := F.scr ns e
    exact ⟨a, by rw [h0 0 (.inl ⟨by rw [e]; simp, rfl⟩)]; exact h1, h2.weak fun a z => fe.mp z, h3⟩
theorem Fi.set {i : Nat} {d : PyData} {v : V} (F : Fi K M sc σ H env) (m : M i = false) (h0 : ¬ fx sc i) (r : Rep K (FX M [] σ) H d v) : Fi K M sc (σ.set i (some v)) H (setV env i d) := by
  refine F.other (fun j mj => ?_) (fun j q => ?_) (by simp) (by simp [setV]) fun j d' e mj => ?_
  · have : i ≠ j := fun z => by rw [z, mj] at m; cases m
    unfold setV
    rw [List.getElem?_set_ne this, List.getElem?_set_ne this]
    exact ⟨rfl, rfl⟩
  · rw [List.getElem?_set_ne (fun z => h0 (by rw [z]; exact q))]
  · unfold setV at e
    by_cases q : i = j
    · subst q
      by_cases hl : i < env.length
      · rw [List.getElem?_set_self hl] at e
        cases e
        exact ⟨v, by rw [List.getElem?_set_self (by rw [← F.len]; exact hl)], r⟩
      · rw [List.getElem?_eq_none (by simpa using hl)] at e; cases e
    · rw [List.getElem?_set_ne q] at e
      rw [List.getElem?_set_ne q]
      exact F.val j d' e mj
theorem wipeE_len : ∀ vs : List Nat, (wipeE env vs).length = env.length
  | [] => rfl
  | v :: vs => by unfold wipeE; rw [List.length_set, wipeE_len vs]
theorem wipeE_out {i : Nat} : ∀ {vs : List Nat}, i ∉ vs → (wipeE env vs)[i]? = env[i]?
  | [], _ => rfl
  | v :: vs, h => by
    unfold wipeE
    rw [List.getElem?_set_ne (fun e => h (by rw [e]; exact List.mem_cons_self)), wipeE_out fun m => h (List.mem_cons_of_mem _ m)]
theorem wipeE_in {i : Nat} {d : PyData} : ∀ {vs : List Nat}, i ∈ vs → (wipeE env vs)[i]? ≠ some (some d)
  | v :: vs, h, e => by
    unfold wipeE at e
    by_cases q : v = i
    · subst q
      by_cases hl : v < (wipeE env vs).length
      · rw [List.getElem?_set_self hl] at e; cases e
      · rw [List.getElem?_eq_none (by simpa using hl)] at e; cases e
    · rw [List.getElem?_set_ne q] at e
      exact wipeE_in ((List.mem_cons.mp h).resolve_left (Ne.symm q)) e
theorem backE_len {env2 : Env} : ∀ vs : List Nat, (backE env env2 vs).length = env2.length
  | [] => rfl
  | v :: vs => by unfold backE; rw [List.length_set, backE_len vs]
theorem backE_out {env2 : Env} {i : Nat} : ∀ {vs : List Nat}, i ∉ vs → (backE env env2 vs)[i]? = env2[i]?
  | [], _ => rfl
  | v :: vs, h => by
    unfold backE
    rw [List.getElem?_set_ne (fun e => h (by rw [e]; exact List.mem_cons_self)), backE_out fun m => h (List.mem_cons_of_mem _ m)]
theorem backE_in {env2 : Env} {i : Nat} {d : PyData} : ∀ {vs : List Nat}, i ∈ vs → (backE env env2 vs)[i]? = some (some d) → env[i]? = some (some d)
  | v :: vs, h, e => by
    unfold backE at e
    by_cases q : v = i
    · subst q
      by_cases hl : v < (backE env env2 vs).length
      · rw [List.getElem?_set_self hl] at e
        cases q : env[v]? with
        | none => rw [q] at e; cases e
        | some x => rw [q] at e; cases e; rfl
      · rw [List.getElem?_eq_none (by simpa using hl)] at e; cases e
    · rw [List.getElem?_set_ne q] at e
      exact backE_in ((List.mem_cons.mp h).resolve_left (Ne.symm q)) e
def frS (sc : SC) (i : Nat) : Bool := (sc.ns.isNone || i != 0) && (match sc.x with
  | none => true
  | some q => i != q.1)
theorem frS_fx {sc : SC} {i : Nat} (h : frS sc i = true) : ¬ fx sc i := by
  unfold frS at h
  rw [Bool.and_eq_true] at h
  rintro (⟨z, rfl⟩ | ⟨a, e⟩)
  · cases q : sc.ns with
    | none => exact z q
    | some _ => rw [q] at h; simp at h
  · rw [e] at h
    simp at h
/-- slots of a block's own -/
def ownOk (M : Nat → Bool) (sc : SC) (own : List Nat) : Bool := own.all fun i => !M i && frS sc i
theorem own_M {own : List Nat} (h : ownOk M.m sc own = true) {i : Nat} (m : M i = true) : i ∉ own := fun z => by
  have q := List.all_eq_true.mp h i z
  simp only [Bool.and_eq_true, Bool.not_eq_true'] at q
  rw [m] at q; cases q.1
theorem own_0 {own : List Nat} (h : ownOk M.m sc own = true) {i : Nat} (s : fx sc i) : i ∉ own := fun z => by
  have q := List.all_eq_true.mp h i z
  simp only [Bool.and_eq_true] at q
  exact frS_fx q.2 s
theorem Fi.wiped {own : List Nat} (F : Fi K M sc σ H env) (ho : ownOk M.m sc own = true) : Fi K M sc (wipe σ own) H (wipeE env own) := by
  refine F.other (fun j mj => ⟨wipe_out (own_M ho mj), wipeE_out (own_M ho mj)⟩) (fun j q => wipe_out (own_0 ho q)) (wipe_length _ _) (wipeE_len _) fun j d' e mj => ?_
  by_cases q : j ∈ own
  · exact absurd e (wipeE_in q)
  · rw [wipeE_out q] at e
    rw [wipe_out q]
    exact F.val j d' e mj
theorem Fi.gone {own : List Nat} {σ2 : L2.St} {e3 : Env} {M' : MM} (hm : M'.m = M.m) (F0 : Fi K M sc σ H1 env) (k : Keep (FX M [] σ) H1 H) (F : Fi K M' sc σ2 H e3) (ho : ownOk M.m sc own = true) (hw : wipe σ2 own = wipe σ own) (hle : ∀ a, M.g a → M'.g a) : Fi K M sc σ H (backE env e3 own) := by
  have out : ∀ j, j ∉ own → σ[j]? = σ2[j]? := fun j hj => by rw [← wipe_out (σ := σ) hj, ← wipe_out (σ := σ2) hj, hw]
  have ho' : ownOk M'.m sc own = true := by rw [hm]; exact ho
  have sl : σ.length = σ2.length := by rw [← wipe_length σ own, ← wipe_length σ2 own, hw]
  have mm : ∀ {i b}, M i = b → M' i = b := fun {i b} h => by rw [← h, hm]
  have fe : ∀ {o : List Nat} {a : Addr}, FX M o σ a → FX M' o σ2 a := fun {o a} z => by
    rcases z with g | ⟨i, h1, h2, h3⟩
    · exact .inl (hle a g)
    · exact .inr ⟨i, mm h1, h2, by rw [← out i (own_M ho h1)]; exact h3⟩
  refine ⟨by rw [backE_len, sl]; exact F.len, fun i d e m => ?_, fun i d e m => ?_, fun i m e => ?_, F0.inj, fun a g => F.gin a (hle a g), F0.gno, fun ns e => ?_, F0.exn⟩
  · by_cases q : i ∈ own
    · obtain ⟨v, h1, h2⟩ := F0.val i d (backE_in q e) m
      exact ⟨v, h1, Rep.keep k _ _ h2⟩
    · rw [backE_out q] at e
      obtain ⟨v, h1, h2⟩ := F.val i d e (mm m)
      exact ⟨v, by rw [out i q]; exact h1, Rep.weak (fun a z => fe z) _ _ h2⟩
  · rw [backE_out (own_M ho m)] at e
    obtain ⟨a, vs, xs, h1, h2, h3, h4⟩ := F.mt i d e (mm m)
    exact ⟨a, vs, xs, by rw [out i (own_M ho m)]; exact h1, h2, h3, Reps.weak (fun a z => fe z) _ _ h4⟩
  · rw [backE_out (own_M ho m)] at e
    rw [out i (own_M ho m)]
    exact F.un i (mm m) e
  · obtain ⟨a, h1, h2, h3⟩ := F0.scr ns e
    exact ⟨a, h1, h2.keep k, h3⟩
/-- a list more that is out of reach -/
theorem Fi.guard {D : Addr} {vs : List V} (F : Fi K M sc σ H env) (hn : Nw H D) (k : Keep F0 H H1) (hD : H1 D = some (.lst vs)) (M' : MM) (hM : M' = ⟨M.m, fun a => M.g a ∨ a = D⟩) : Fi K M' sc σ H1 env := by
  subst hM
  have F1 := F.grow k
  have fe : ∀ {o : List Nat} {a : Addr}, FX ⟨M.m, fun a => M.g a ∨ a = D⟩ o σ a → Fadd (FX M o σ) D a := fun {o a} z => by
    rcases z with (g | g) | ⟨i, h1, h2, h3⟩
    · exact .inl (.inl g)
    · exact .inr g
    · exact .inl (.inr ⟨i, h1, h2, h3⟩)
  refine ⟨F1.len, fun i d e m => ?_, fun i d e m => ?_, F1.un, F1.inj, fun a g => ?_, fun i a m e => ?_, fun ns e => ?_, F.exn⟩
  · obtain ⟨v, h1, h2⟩ := F.val i d e m
    exact ⟨v, h1, Rep.weak (fun a z => fe z) _ _ (Rep.keep (k.mono fun _ z => z.elim) _ _ (Rep.add hn _ _ h2))⟩
  · obtain ⟨a, vs, xs, h1, h2, h3, h4⟩ := F.mt i d e m
    exact ⟨a, vs, xs, h1, h2, k a _ h3 (fun z => z) (fun ps z => by cases z), Reps.weak (fun a z => fe z) _ _ (Reps.keep (k.mono fun _ z => z.elim) _ _ (Reps.add hn _ _ h4))⟩
  · rcases g with g | rfl
    · exact F1.gin a g
    · exact ⟨_, hD⟩
  · rintro (g | rfl)
    · exact F.gno i a m e g
    · obtain ⟨xs, us, _, h⟩ := F.lst m e
      obtain ⟨ps, z⟩ := hn _ h
      cases z
  · obtain ⟨a, h1, h2, h3⟩ := F.scr ns e
    exact ⟨a, h1, (h2.add hn).weak (fun a z => fe z) |>.keep (k.mono fun _ z => z.elim), h3⟩
end
end VF
set_option Elab.async false
set_option maxRecDepth 100000
set_option maxHeartbeats 4000000
namespace VF
open PySem PySem.Spec PyProof.Rows L2

/-! ### what is walked -/
theorem enumD_len : ∀ (ds : List PyData) (i : Nat), (enumD i ds).length = ds.length
  | [], _ => rfl
  | d :: ds, i => by simp [enumD, enumD_len ds]
theorem enumD_get : ∀ (ds : List PyData) (i k : Nat), (enumD i ds)[k]? = (ds[k]?).map fun d => .tuple [.int ((i + k : Nat) : Int), d]
  | [], _, _ => by simp [enumD]
  | d :: ds, i, 0 => by simp [enumD]
  | d :: ds, i, k + 1 => by
    simp only [enumD, List.getElem?_cons_succ]
    rw [enumD_get ds (i + 1) k]
    have e : i + 1 + k = i + (k + 1) := by omega
    rw [e]
/-- an item as it stands, or with its place in a new pair -/
def wrD (wr : Bool) (ds : List PyData) : List PyData := if wr then enumD 0 ds else ds
def wr1 (wr : Bool) (i : Nat) (d : PyData) : PyData := if wr then .tuple [.int i, d] else d
theorem wrD_len {wr : Bool} {ds : List PyData} : (wrD wr ds).length = ds.length := by
  cases wr
  · rfl
  · exact enumD_len ds 0
theorem wrD_get {wr : Bool} {ds : List PyData} {k : Nat} : (wrD wr ds)[k]? = (ds[k]?).map (wr1 wr k) := by
  cases wr
  · show ds[k]? = Option.map (fun d => d) ds[k]?
    rw [Option.map_id']
  · show (enumD 0 ds)[k]? = _
    rw [enumD_get, Nat.zero_add]
    rfl
def Yd (wr : Bool) (i : Nat) (x : V) (H' : Hp) (y : V) (H'' : Hp) : Prop := match wr with
  | false => H'' = H' ∧ y = x
  | true => ∃ T o, y = .ref T ∧ H' T = none ∧ o.dict = none ∧ H'' = upd H' T (.frz o (.tup [.int i, x]))
def Wlk (K : PySem.W.Frag) (F : Addr → Prop) (J : L2.It) (ds : List PyData) (H1 : Hp) : Prop := ∃ (wr : Bool) (es : List PyData) (vs : List V), ds = wrD wr es ∧ Reps K F H1 es vs ∧ ∀ H', Keep F H1 H' →
  (∀ (i : Nat) (x : V), vs[i]? = some x → J.go i H' ∧ ∀ y H'', J.yld i H' y H'' → Yd wr i x H' y H'') ∧ J.stop vs.length H'
theorem yd_rep {T0 : List (Addr × Str)} {K : PySem.W.Frag} {F : Addr → Prop} {wr : Bool} {i : Nat} {x y : V} {H' H'' : Hp} {d : PyData} (h : Yd wr i x H' y H'') (r : Rep K F H' d x) (out : ∀ a, H' a = none → ¬ F a) : Kp T0 F0 H' H'' ∧ Rep K F H'' (wr1 wr i d) y := by
  cases wr with
  | false =>
    obtain ⟨rfl, rfl⟩ := h
    exact ⟨.refl, r⟩
  | true =>
    obtain ⟨T, o, rfl, hT, ho, rfl⟩ := h
    have k : Kp T0 F0 H' (upd H' T (.frz o (.tup [.int i, x]))) := .new hT
    exact ⟨k, T, _, rfl, .inl ⟨out T hT, o, ho, upd_same⟩, _, _, rfl, rfl, _, _, rfl, Rep.keep (k.keep.mono fun _ z => z.elim) _ _ r, rfl⟩
def iAny (K : PySem.W.Frag) (tl : TE) : TI := fun σ H R => tl σ H fun x H1 => ∃ a, x = .ref a ∧ (((∃ xs, SqL K H1 a xs) ∧ R (Itl K a) H1) ∨ ((∃ xs, SqT K H1 a xs) ∧ R (Itt K a) H1))
section
variable {Y : Sys} {M : MM} {sc : SC} {W : WX} {X : Cx} {σ : L2.St} {H H1 : Hp} {env : Env} {tg : Expr}
theorem pi_any {l : Expr} {tl : TE} (hl : PE X l tl) : PI X tg l (iAny X.K tl) := by
  refine ⟨fun pins s σ H R I h => ?_⟩
  refine thn (hl.run pins s σ H _ I h) fun v s1 hv => ?_
  obtain ⟨x, H1, I1, r1, a, e, q1⟩ := hv
  subst e
  have hva : v = .ref a := r1
  subst hva
  have fp : ∀ b ∈ [s1.heap.objs.size], FpOk X pins H1 b := fun b hb => by
    rw [List.mem_singleton.mp hb]
    exact I1.fpOk (Nat.le_refl _) (I1.hok.fresh (Nat.le_refl _))
  have grown : ∀ o : Obj, Inv X pins σ H1 { s1 with heap := s1.heap.push o } := fun o => I1.kept (t' := s1.toks) (fun _ _ z => Heap.get?_push_of_some _ z)
  rcases q1 with ⟨⟨xs, hq⟩, q⟩ | ⟨⟨xs, hq⟩, q⟩
  · have pl := (I1.list hq).choose_spec.2.1
    exact wpAny_pyIter_list pl.isList ⟨_, _, _, _, H1, rfl, grown _, turn_list a s1.heap.objs.size, ⟨_, Heap.get?_push_size _ rfl, rfl, rfl⟩, fp, q⟩
  · obtain ⟨its, _, pl, _⟩ := I1.tuple hq
    have pt : s1.heap.IsTuple a its.toArray := pl
    exact wpAny_pyIter_tuple pt ⟨_, _, _, _, H1, rfl, grown _, turn_tuple a s1.heap.objs.size, ⟨_, Heap.get?_push_size _ rfl, rfl, rfl⟩, fp, q⟩
/-- an iterable -/
def JI (Y : Sys) (M : MM) (sc : SC) (W : WX) (X : Cx) (tg it : Expr) (f : Env → Out (List PyData)) (mu : List Nat) : Prop := (∀ i ∈ mu, M i = true) ∧ ∃ wi, PI X tg it wi ∧
  ∀ σ H env R, Fi Y.K M sc σ H env → LamX.Tabs Y.T H → PO Y M sc W mu σ H (fun ds e1 => ∀ J H1, Fi Y.K M sc σ H1 e1 → Kp Y.T (FL mu σ) H H1 → Wlk Y.K (FX M [] σ) J ds H1 → R J H1) (f env) → wi σ H R
theorem ji_seq {e : Expr} {f : Env → Out PyData} {z : St} (hK : X.K = Y.K) (ja : JE Y M sc W X e f z) (hc : z.oc = []) (hi : z.oi = []) : JI Y M sc W X tg e (fun env => (f env).bind fun x e1 => VF.lift (items x) e1) z.mu := by
  obtain ⟨am, t, pa, ja⟩ := ja
  refine ⟨am, _, pi_any pa, fun σ H env R F Tb h => ?_⟩
  refine ja σ H env _ F Tb (h.bind.imp fun x e1 h1 v H1 F1 k1 r1 _ => ?_)
  obtain ⟨ds, ei, h1⟩ := h1.lift
  rw [hc, hi] at r1
  rw [hK]
  cases x with
  | list xs =>
    cases ei
    obtain ⟨a, vs, rfl, r, q⟩ := r1
    refine ⟨a, rfl, .inl ⟨⟨vs, r.sq⟩, h1 _ H1 F1 k1 ⟨false, _, vs, rfl, q, fun H' k => ?_⟩⟩⟩
    have r' := (r.keep k).sq (K := Y.K)
    refine ⟨fun i x e => ⟨⟨vs, x, r', e⟩, fun y H'' ⟨g1, g2⟩ => ⟨g1, ?_⟩⟩, ⟨vs, r', Nat.le_refl _⟩⟩
    have := g2 vs r'
    rw [e] at this
    exact (Option.some.inj this).symm
  | tuple xs =>
    cases ei
    obtain ⟨a, vs, rfl, r, q⟩ := r1
    refine ⟨a, rfl, .inr ⟨⟨vs, r.sq⟩, h1 _ H1 F1 k1 ⟨false, _, vs, rfl, q, fun H' k => ?_⟩⟩⟩
    have r' := (r.keep k).sq (K := Y.K)
    refine ⟨fun i x e => ⟨⟨vs, x, r', e⟩, fun y H'' ⟨g1, g2⟩ => ⟨g1, ?_⟩⟩, ⟨vs, r', Nat.le_refl _⟩⟩
    have := g2 vs r'
    rw [e] at this
    exact (Option.some.inj this).symm
  | none => cases ei
  | bool _ => cases ei
  | int _ => cases ei
  | str _ => cases ei
  | dict _ => cases ei
/-! ### enumerate(list): pairs known as objects -/
def ItF (K : PySem.W.Frag) (a : Addr) : L2.It :=
  ⟨fun i H => ∃ (xs : List V) (x : V), SqL K H a xs ∧ xs[i]? = some x,
   fun i H v H' => ∃ (T : Addr) (o : Obj) (x : V), v = .ref T ∧ H T = none ∧ o.dict = none ∧ H' = upd H T (.frz o (.tup [.int (i : Nat), x])) ∧ ∀ xs, SqL K H a xs → xs[i]? = some x,
   fun i H => ∃ xs : List V, SqL K H a xs ∧ xs.length ≤ i⟩
theorem turn_enumF {P : Program} {w : World} {K : PySem.W.Frag} {elts : List Expr} {kk : Nat} {tpos : Pos} (a e it : Addr) :
    Turn P w K (.Tuple elts kk tpos) (ItF K a) [e, it] e (fun i h => (∃ old, IsEnum h e it ((i : Nat) : Int) old) ∧ h.IsListIter it a i ∧ e ≠ it) := by
  have T0 := turn_enum (P := P) (w := w) (K := K) (elts := elts) (kk := kk) (tpos := tpos) a e it
  refine ⟨T0.mem, T0.obj, T0.keep, ?_, T0.done, T0.self⟩
  intro X hP hw hK hc i pins s σ H E I hf st hg
  subst hP hw hK
  obtain ⟨⟨old, he⟩, hit, hne⟩ := st
  obtain ⟨xs, x, hq, hx⟩ := hg
  obtain ⟨its, rv, p, hz⟩ := I.list hq
  obtain ⟨u, hu, ru⟩ := rv.get hx
  have small : ∀ b, b ∈ [e, it] → b < s.heap.objs.size := fun b hb => by
    obtain ⟨o, ho, _⟩ := T0.obj i s.heap ⟨⟨old, he⟩, hit, hne⟩ b hb
    exact Heap.lt_size ho
  refine wpAny_pyNext_enum_item he hit p.isList (x := u) (by simpa using hu) hne fun h' ho hit' hT hsz hk => ?_
  refine ⟨_, rfl, wpAny_letOwnedTupleGo_enum (s := { s with heap := h', toks := s.toks + 1 }) ho fun h2 he2 sb => ?_⟩
  have eT : h2.get? s.heap.objs.size = some { cls := .type "tuple", data := .seq #[.int i s.toks, u] } := by
    rw [sb.2 _ (Nat.ne_of_gt (small e (by simp)))]
    exact hT
  have kp : ∀ b ob, b ∉ [e, it] → s.heap.get? b = some ob → h2.get? b = some ob := fun b ob hb q => by
    rw [sb.2 b fun z => hb (by simp [z])]
    exact hk b ob (fun z => hb (by simp [z])) (fun z => hb (by simp [z])) q
  have new : ObjOk X.prog X.w (upd H s.heap.objs.size (.frz { cls := .type "tuple", data := .seq #[.int i s.toks, u] } (.tup [.int (i : Nat), x]))) h2 s.heap.objs.size (.frz { cls := .type "tuple", data := .seq #[.int i s.toks, u] } (.tup [.int (i : Nat), x])) :=
    ⟨eT, by show 2 ≤ sizeLine; decide, [.int i s.toks, u], .cons ⟨_, rfl⟩ (.cons ru .nil), ⟨_, eT, rfl, _, rfl⟩⟩
  refine ⟨.ref s.heap.objs.size, _, I.turnedNew (t' := s.toks + 1) (ch := [e, it]) kp hf (Nat.le_refl _) new, rfl, ⟨_, _, x, rfl, I.hok.fresh (Nat.le_refl _), rfl, rfl, fun ys hy => ?_⟩, ⟨⟨u, ?_⟩, hit'.at fun o q => ?_, hne⟩, fun b hb => ?_⟩
  · rw [I.list_inj hy hq]
    exact hx
  · rw [show ((i + 1 : Nat) : Int) = (i : Int) + 1 by omega]
    exact he2
  · rw [sb.2 it (Ne.symm hne)]
    exact q
  · rw [upd_ne (Nat.ne_of_lt (small b hb))]
    exact (hf b hb).1
def iEnF (K : PySem.W.Frag) (tl : TE) : TI := fun σ H R => tl σ H fun x H1 => ∃ a, x = .ref a ∧ (∃ xs, SqL K H1 a xs) ∧ R (ItF K a) H1
theorem pi_enF {l : Expr} {tl : TE} {p pos tpos : Pos} {elts : List Expr} {kk : Nat} (hg : Gl X "enumerate") (hm : X.mg "enumerate" = none) (hl : PE X l tl) (hs : starEach [l] X.env = (false, eval l X.env) :: starEach [] X.env) :
    PI X (.Tuple elts kk tpos) (.Call (.Name "enumerate" p) [l] [] pos) (iEnF X.K tl) := by
  refine ⟨fun pins s σ H R I h => ?_⟩
  refine Call_ (ld_blt I hg hm boot_enumerate (PyProof.Rows.callWith_type1 (PyProof.Rows.args_cons (thn (hl.run pins s σ H _ I h) fun v s1 hv => PyProof.Rows.args_nil ?_) hs) hs rfl))
  obtain ⟨x, H1, I1, r1, a, e, ⟨xs, hq⟩, q⟩ := hv
  subst e
  obtain rfl : v = .ref a := r1
  obtain ⟨its, rv, p', hz⟩ := I1.list hq
  refine call_enumerate_list p'.isList fun h' he hit hsz hk => wpAny_pyIter_enum he ?_
  have I2 : Inv X pins σ H1 { s1 with heap := h' } := I1.kept (t' := s1.toks) hk
  have old : ∀ b, b ∈ [s1.heap.objs.size + 1, s1.heap.objs.size] → s1.heap.objs.size ≤ b := fun b hb => by
    simp only [List.mem_cons, List.not_mem_nil, or_false] at hb
    omega
  exact ⟨s1.heap.objs.size + 1, [s1.heap.objs.size + 1, s1.heap.objs.size], _, _, H1, rfl, I2, turn_enumF a (s1.heap.objs.size + 1) s1.heap.objs.size, ⟨⟨.none, he⟩, hit, Nat.succ_ne_self _⟩, fun b hb => I1.fpOk (old b hb) (I1.hok.fresh (old b hb)), q⟩
theorem ji_enum {e : Expr} {f : Env → Out PyData} {z : St} {p pos tpos : Pos} {elts : List Expr} {kk : Nat} (hK : X.K = Y.K) (hg : Gl X "enumerate") (hm : X.mg "enumerate" = none) (hs : starEach [e] X.env = (false, eval e X.env) :: starEach [] X.env) (ja : JE Y M sc W X e f z) (hc : z.oc = []) (hi : z.oi = []) :
    JI Y M sc W X (.Tuple elts kk tpos) (.Call (.Name "enumerate" p) [e] [] pos) (fun env => (f env).bind fun x e1 => VF.lift (enumI x) e1) z.mu := by
  obtain ⟨am, t, pa, ja⟩ := ja
  refine ⟨am, _, pi_enF hg hm pa hs, fun σ H env R F Tb h => ?_⟩
  refine ja σ H env _ F Tb (h.bind.imp fun x e1 h1 v H1 F1 k1 r1 _ => ?_)
  obtain ⟨ds, ei, h1⟩ := h1.lift
  rw [hc, hi] at r1
  rw [hK]
  cases x with
  | list xs =>
    cases ei
    obtain ⟨a, vs, rfl, r, q⟩ := r1
    refine ⟨a, rfl, ⟨vs, r.sq⟩, h1 _ H1 F1 k1 ⟨true, _, vs, rfl, q, fun H' k => ?_⟩⟩
    have r' := (r.keep k).sq (K := Y.K)
    refine ⟨fun i x e => ⟨⟨vs, x, r', e⟩, fun y H'' ⟨T, o, x2, g1, g2, g3, g4, g5⟩ => ?_⟩, ⟨vs, r', Nat.le_refl _⟩⟩
    have := g5 vs r'
    rw [e] at this
    obtain rfl := Option.some.inj this
    exact ⟨T, o, g1, g2, g3, g4⟩
  | tuple xs => cases ei
  | none => cases ei
  | bool _ => cases ei
  | int _ => cases ei
  | str _ => cases ei
  | dict _ => cases ei
theorem wlk_rng {F : Addr → Prop} (lo hi : Int) : Wlk Y.K F (Itr lo (hi - lo).toNat) (rngD lo hi) H1 := by
  refine ⟨false, _, rgV lo hi, rfl, rng_reps lo hi, fun H' k => ⟨fun i x e => ?_, ?_⟩⟩
  · have hl : i < (rgV lo hi).length := (List.getElem?_eq_some_iff.mp e).1
    rw [rgV_length] at hl
    refine ⟨hl, fun y H'' ⟨g1, g2⟩ => ⟨g1, ?_⟩⟩
    rw [g2]
    have q : (rgV lo hi)[i]? = some (.int (lo + (i : Nat))) := by
      unfold rgV
      rw [List.getElem?_map, List.getElem?_range hl]
      rfl
    rw [q] at e
    exact Option.some.inj e
  · show _ ≤ _
    rw [rgV_length]
    exact Nat.le_refl _
theorem ji_r1 {a : Expr} {f : Env → Out PyData} {za : St} {p2 pos2 : Pos} (hs : starEach [a] X.env = (false, eval a X.env) :: starEach [] X.env) (hg : Gl X "range") (hm : X.mg "range" = none) (ja : JE Y M sc W X a f za) :
    JI Y M sc W X tg (.Call (.Name "range" p2) [a] [] pos2) (ev1 f) za.mu := by
  obtain ⟨am, t, pa, ja⟩ := ja
  refine ⟨am, _, pi_range1 hg hm (pa_one pa hs) hs, fun σ H env R F Tb h => ?_⟩
  refine ja σ H env _ F Tb (h.bind.imp fun x e1 h1 v H1 F1 k1 r1 _ => ?_)
  cases x with
  | int n =>
    dsimp only at h1
    by_cases q : rngOk 0 n = true
    · rw [if_pos q] at h1
      have ev := rp_int r1
      subst ev
      unfold rngOk at q
      rw [decide_eq_true_eq] at q
      refine ⟨n, rfl, by omega, by omega, ?_⟩
      have := h1 _ H1 F1 k1 (wlk_rng 0 n)
      simpa using this
    · rw [if_neg q] at h1
      exact h1.elim
  | _ => exact h1.elim
theorem ji_r2 {a b : Expr} {f g : Env → Out PyData} {za zb : St} {p2 pos2 : Pos} (hs : starEach [a, b] X.env = (false, eval a X.env) :: starEach [b] X.env) (hs2 : starEach [b] X.env = (false, eval b X.env) :: starEach [] X.env) (hg : Gl X "range") (hm : X.mg "range" = none)
    (ja : JE Y M sc W X a f za) (jb : JE Y M sc W X b g zb) (s : sep M.m zb.mu za.oc = true) (s' : sep M.m zb.mu za.oi = true) : JI Y M sc W X tg (.Call (.Name "range" p2) [a, b] [] pos2) (ev2 f g) (za.mu ++ zb.mu) := by
  obtain ⟨am, ta, pa, ja⟩ := ja
  obtain ⟨bm, tb, pb, jb⟩ := jb
  refine ⟨app_M am bm, _, pi_range2 hg hm (pa_cons pa (pa_one pb hs2) hs) (by rw [hs, hs2]; rfl) hs2, fun σ H env R F Tb h => ?_⟩
  refine two ja jb s s' F Tb (h.bind.imp fun x e1 h1 => h1.bind.imp fun y e2 h2 u v H2 F2 k2 r1 r2 => ?_)
  cases x <;> try exact h2.elim
  rename_i i
  cases y <;> try exact h2.elim
  rename_i j
  dsimp only at h2
  by_cases q : rngOk i j = true
  · rw [if_pos q] at h2
    have e1 := rp_int r1
    have e2 := rp_int r2
    subst e1 e2
    unfold rngOk at q
    rw [decide_eq_true_eq] at q
    exact ⟨i, j, rfl, by omega, h2 _ H2 F2 k2 (wlk_rng i j)⟩
  · rw [if_neg q] at h2
    exact h2.elim

/-! ### targets -/
structure TgD (Y : Sys) (m : Nat → Bool) (sc : SC) (tgt : Tg) (is : List Nat) (g : TG) : Prop where
  go : ∀ (gg : Addr → Prop) σ H env d x e1 Q, Fi Y.K ⟨m, gg⟩ sc σ H env → Rep Y.K (FX ⟨m, gg⟩ [] σ) H d x → tgSet tgt d env = some e1 →
    (∀ σ2, Fi Y.K ⟨m, gg⟩ sc σ2 H e1 → (∀ j, j ∉ is → σ2[j]? = σ[j]?) → σ2.length = σ.length → Q σ2 H) → g x σ H Q
theorem tg_n {m : Nat → Bool} {i : Nat} (h : ownOk m sc [i] = true) : TgD Y m sc (.n i) [i] (gName i) := by
  refine ⟨fun gg σ H env d x e1 Q F r e q => ?_⟩
  cases e
  simp only [ownOk, List.all_cons, List.all_nil, Bool.and_true, Bool.and_eq_true, Bool.not_eq_true'] at h
  refine q _ (F.set (M := ⟨m, gg⟩) h.1 (frS_fx h.2) r) (fun j hj => ?_) (by simp)
  · rw [List.getElem?_set_ne (fun z => hj (by rw [z]; simp))]
def gNames : List Nat → TGs
  | [] => gNil
  | i :: is => gCons (gName i) (gNames is)
theorem gnames_run {m : Nat → Bool} {gg : Addr → Prop} {Q : L2.St → Hp → Prop} : ∀ {is : List Nat} {σ : L2.St} {env : Env} {ds : List PyData} {vs : List V}, ownOk m sc is = true → ds.length = is.length → Fi Y.K ⟨m, gg⟩ sc σ H env → Reps Y.K (FX ⟨m, gg⟩ [] σ) H ds vs →
    (∀ σ2, Fi Y.K ⟨m, gg⟩ sc σ2 H (setsV env is ds) → (∀ j, j ∉ is → σ2[j]? = σ[j]?) → σ2.length = σ.length → Q σ2 H) → gNames is vs σ H Q
  | [], σ, env, ds, vs, h, hl, F, r, q => by
    obtain rfl : ds = [] := List.length_eq_zero_iff.mp hl
    cases r
    exact ⟨rfl, q σ F (fun _ _ => rfl) rfl⟩
  | i :: is, σ, env, [], vs, h, hl, F, r, q => by simp at hl
  | i :: is, σ, env, d :: ds, vs, h, hl, F, r, q => by
    obtain ⟨v, vr, e, r1, r2⟩ := r
    have h1 : ownOk m sc [i] = true ∧ ownOk m sc is = true := by
      simp only [ownOk, List.all_cons, List.all_nil, Bool.and_true, Bool.and_eq_true] at h ⊢
      exact h
    refine ⟨v, vr, e, (tg_n (Y := Y) h1.1).go gg σ H env d v _ _ F r1 rfl fun σ2 F2 o2 l2 => ?_⟩
    have mi : m i = false := by
      have q := h1.1
      simp only [ownOk, List.all_cons, List.all_nil, Bool.and_true, Bool.and_eq_true, Bool.not_eq_true'] at q
      exact q.1
    refine gnames_run h1.2 (by simpa using hl) F2 (Reps.weak (fun a z => (FX_same fun j mj => o2 j fun hj => ?_).mp z) _ _ r2) fun σ3 F3 o3 l3 => q σ3 F3 (fun j hj => ?_) (by rw [l3, l2])
    · rw [List.mem_singleton.mp hj] at mj
      have mj : m i = true := mj
      rw [mi] at mj; cases mj
    · rw [o3 j fun z => hj (List.mem_cons_of_mem _ z), o2 j fun z => hj (by rw [List.mem_singleton.mp z]; exact List.mem_cons_self)]
def gSeq (K : PySem.W.Frag) (n : Nat) (t : TGs) : TG := fun v σ H Q => gTup K n t v σ H Q ∨ gUnl K n t v σ H Q
theorem pg_seq {es : List Expr} {k : Nat} {t : TGs} {n : Nat} {pos : Pos} (hc : X.calm = true) (h : PGs X es t) (hn : (assignEach es X.env).length = n) (hst : (assignEach es X.env).findIdx? (·.1) = none) : PG X (.Tuple es k pos) (gSeq X.K n t) :=
  ⟨fun pins s σ H v u Q I r hw => hw.elim ((pg_tup hc h hn hst).run pins s σ H v u Q I r) ((pg_unl hc h hn hst).run pins s σ H v u Q I r)⟩
theorem tg_t {m : Nat → Bool} {is : List Nat} (h : ownOk m sc is = true) : TgD Y m sc (.t is) is (gSeq Y.K is.length (gNames is)) := by
  refine ⟨fun gg σ H env d x e1 Q F r e q => ?_⟩
  cases d <;> try (simp [tgSet] at e; done)
  · rename_i ds
    simp only [tgSet] at e
    split at e
    · rename_i hl
      cases e
      obtain ⟨a, vs, rfl, r1, r2⟩ := r
      exact .inr ⟨a, vs, rfl, r1.sq, by rw [r2.len]; exact hl, gnames_run h hl F r2 q⟩
    · cases e
  · rename_i ds
    simp only [tgSet] at e
    split at e
    · rename_i hl
      cases e
      obtain ⟨a, vs, rfl, r1, r2⟩ := r
      exact .inl ⟨a, vs, rfl, r1.sq, by rw [r2.len]; exact hl, gnames_run h hl F r2 q⟩
    · cases e
end
end VF
set_option Elab.async false
set_option maxRecDepth 100000
set_option maxHeartbeats 4000000
namespace VF
open PySem PySem.Spec PyProof.Rows L2

/-! ### readings that are the same everywhere -/
def WN : WX := fun _ _ _ _ => False
def TJ (Y : Sys) (m : Nat → Bool) (sc : SC) (W : WX) (f : Env → Out PyData) (z : St) : TE := fun σ H Q => ∃ (gg : Addr → Prop) (env : Env), Fi Y.K ⟨m, gg⟩ sc σ H env ∧ LamX.Tabs Y.T H ∧ PO Y ⟨m, gg⟩ sc W z.mu σ H (VP Y ⟨m, gg⟩ sc z σ H Q) (f env)
def TJs (Y : Sys) (m : Nat → Bool) (sc : SC) (W : WX) (f : Env → Out Bool) (mu : List Nat) : TT := fun σ H Q => ∃ (gg : Addr → Prop) (env : Env), Fi Y.K ⟨m, gg⟩ sc σ H env ∧ LamX.Tabs Y.T H ∧
  PO Y ⟨m, gg⟩ sc W mu σ H (fun b e => ∀ H', Fi Y.K ⟨m, gg⟩ sc σ H' e → Kp Y.T (FL mu σ) H H' → Q b H') (f env)
section
variable {Y : Sys} {m : Nat → Bool} {sc : SC} {W : WX} {X : Cx} {σ σ2 : L2.St} {H H1 : Hp} {env : Env}
theorem TJ.pe {e : Expr} {f : Env → Out PyData} {z : St} (h : ∀ gg, JE Y ⟨m, gg⟩ sc W X e f z) : PE X e (TJ Y m sc W f z) :=
  ⟨fun pins s σ H Q I ⟨gg, env, F, Tb, q⟩ => let ⟨_, _, p, j⟩ := h gg; p.run pins s σ H Q I (j σ H env Q F Tb q)⟩
def JTs (Y : Sys) (m : Nat → Bool) (sc : SC) (W : WX) (X : Cx) (ifs : List Expr) (f : Env → Out Bool) (mu : List Nat) : Prop := PTs X ifs (TJs Y m sc W f mu)
theorem jts_nil : JTs Y m sc W X [] (fun env => .ok true env) [] := ⟨fun pins s σ H Q I ⟨_, _, F, _, q⟩ => pts_nil.run pins s σ H Q I (q H F .refl)⟩
theorem jts_one {c : Expr} {f : Env → Out PyData} {mu : List Nat} (h : ∀ gg, JT Y ⟨m, gg⟩ sc W X c f mu) : JTs Y m sc W X [c] (fun env => (f env).bind fun x e1 => VF.lift (tru x) e1) mu := by
  refine ⟨fun pins s σ H Q I ⟨gg, env, F, Tb, q⟩ => ?_⟩
  obtain ⟨_, t, p, j⟩ := h gg
  refine (pts_one p).run pins s σ H Q I (j σ H env Q F Tb (q.bind.imp fun x e1 h1 => ?_))
  obtain ⟨k, e, h1⟩ := h1.lift
  exact ⟨k, e, h1⟩
theorem FL_same {l : List Nat} (hl : ∀ i ∈ l, m i = true) (h : ∀ i, m i = true → σ2[i]? = σ[i]?) {a : Addr} (z : FL l σ2 a) : FL l σ a := let ⟨i, h1, h2⟩ := z; ⟨i, h1, by rw [← h i (hl i h1)]; exact h2⟩
theorem wipe_in {i : Nat} : ∀ {vs : List Nat}, i ∈ vs → i < σ.length → (wipe σ vs)[i]? = some none
  | v :: vs, h, hl => by
    unfold wipe
    by_cases q : v = i
    · subst q
      rw [List.getElem?_set_self (by rw [wipe_length]; exact hl)]
    · rw [List.getElem?_set_ne q]
      exact wipe_in ((List.mem_cons.mp h).resolve_left (Ne.symm q)) hl
theorem wipe_eq {own is : List Nat} (h : ∀ j, j ∉ is → σ2[j]? = (wipe σ own)[j]?) (hs : ∀ j, j ∈ is → j ∈ own) (hl : σ2.length = (wipe σ own).length) : wipe σ2 own = wipe σ own := by
  rw [wipe_length] at hl
  refine List.ext_getElem? fun j => ?_
  by_cases q : j ∈ own
  · by_cases ql : j < σ.length
    · rw [wipe_in q ql, wipe_in q (by rw [hl]; exact ql)]
    · rw [List.getElem?_eq_none (by rw [wipe_length]; omega), List.getElem?_eq_none (by rw [wipe_length]; omega)]
  · rw [wipe_out q, h j fun z => q (hs j z)]
theorem compL_nox {tg : Tg} {own : List Nat} {c : Env → Out Bool} {g : Env → Out PyData} {env0 : Env} : ∀ (ds : List PyData) (env : Env) (x : Exn) (e : Env), compL tg own c g env0 ds env ≠ .exc x e
  | [], env, x, e => by simp [compL]
  | d :: ds, env, x, e => by
    intro h
    unfold compL at h
    split at h
    · cases h
    · split at h
      · split at h
        · rename_i y e3 _
          cases q : compL tg own c g env0 ds (backE env0 e3 own) with
          | ok ys e4 => rw [q] at h; cases h
          | exc x' e4 => exact compL_nox ds _ x' e4 q
          | bad => rw [q] at h; cases h
        · cases h
      · exact compL_nox ds _ _ _ h
      · cases h
theorem Kp.updNew {T} {F : Addr → Prop} {H H1 : Hp} {D : Addr} {o : HO} {xs : List V} (k : Kp T F H H1) (hD : H D = none) (hL : H1 D = some (.lst xs)) : Kp T F H (upd H1 D o) := by
  refine ⟨fun b u e n nt => ?_, fun t => ?_⟩
  · rw [upd_ne (ne_of_none e hD)]
    exact k.keep b u e n nt
  · exact (Kp.put (F := fun a => a = D) rfl hL).tabs (k.tabs t)
def evComp (tg : Tg) (own : List Nat) (fit : Env → Out (List PyData)) (fc : Env → Out Bool) (fe : Env → Out PyData) (env : Env) : Out PyData := (fit env).bind fun ds e1 => (compL tg own fc fe e1 ds e1).bind fun ys e => if ys.length ≤ lim then .ok (.list ys) e else .bad
end
section
variable {Y : Sys} {m : Nat → Bool} {g : Addr → Prop} {sc : SC} {W : WX} {X : Cx} {k : Nat}
def cG (g : Addr → Prop) (D : Addr) : Addr → Prop := fun a => g a ∨ a = D
/-- a comprehension's turns -/
structure CI (Y : Sys) (m : Nat → Bool) (g : Addr → Prop) (sc : SC) (σ : L2.St) (H1 : Hp) (D : Addr) (l o : List Nat) (P : List PyData → Env → Prop) (H' : Hp) : Prop where
  ex : ∃ acc ys env, H' D = some (.lst acc) ∧ Reps Y.K (Fadd (FX ⟨m, g⟩ o σ) D) H' ys acc ∧ Fi Y.K ⟨m, cG g D⟩ sc σ H' env ∧ Kp Y.T (FL l σ) H1 H' ∧ P ys env
theorem jet_comp {ow mi mc is : List Nat} {fit : Env → Out (List PyData)} {fc : Env → Out Bool} {fe : Env → Out PyData} {ze : St} {tgt : Tg} {gt : TG} {wi : TI} (im : ∀ i ∈ mi, m i = true)
    (ji : ∀ σ H env R, Fi Y.K ⟨m, g⟩ sc σ H env → LamX.Tabs Y.T H → PO Y ⟨m, g⟩ sc W mi σ H (fun ds e1 => ∀ J H1, Fi Y.K ⟨m, g⟩ sc σ H1 e1 → Kp Y.T (FL mi σ) H H1 → Wlk Y.K (FX ⟨m, g⟩ [] σ) J ds H1 → R J H1) (fit env) → wi σ H R)
    (ho : ownOk m sc ow = true) (tgd : TgD Y m sc tgt is gt) (his : ∀ j, j ∈ is → j ∈ ow) (hm : ∀ i ∈ mc ++ ze.mu, m i = true) (s1 : sep m (mc ++ ze.mu) (ze.oc ++ ze.oi) = true) :
    JEt Y ⟨m, g⟩ sc W (tLc wi gt (TJs Y m sc WN fc mc) (TJ Y m sc WN fe ze) ow) (evComp tgt ow fit fc fe) ⟨mi ++ (mc ++ ze.mu), ze.oc ++ ze.oi, ze.oc ++ ze.oi, true⟩ := by
  intro σ H env Q F Tb h
  refine ji σ H env _ F Tb ((h.bind.to mem_l .refl).imp fun ds e1 h1 J H1 F1 k1 wk => ?_)
  obtain ⟨wr, es, vs, eds, rv, wk⟩ := wk
  intro D hD
  have Tb1 := k1.tabs Tb
  -- what is left to do
  let P : Nat → List PyData → Env → Prop := fun i ys e => PO Y ⟨m, g⟩ sc W (mi ++ (mc ++ ze.mu)) σ H (VP Y ⟨m, g⟩ sc ⟨mi ++ (mc ++ ze.mu), ze.oc ++ ze.oi, ze.oc ++ ze.oi, true⟩ σ H Q) ((compL tgt ow fc fe e1 (ds.drop i) e).bind fun zs e => if (ys ++ zs).length ≤ lim then .ok (.list (ys ++ zs)) e else .bad)
  have FD : ∀ {o : List Nat} {a : Addr}, FX ⟨m, cG g D⟩ o σ a → Fadd (FX ⟨m, g⟩ o σ) D a := fun {o a} z => by
    rcases z with (z | z) | ⟨i, z1, z2, z3⟩
    · exact .inl (.inl z)
    · exact .inr z
    · exact .inl (.inr ⟨i, z1, z2, z3⟩)
  have G1 : Fi Y.K ⟨m, cG g D⟩ sc σ (upd H1 D (.lst [])) e1 := F1.guard (Nw.of hD) (.new hD) upd_same _ rfl
  have sepl : ∀ a, FL (mc ++ ze.mu) σ a → FX ⟨m, g⟩ (ze.oc ++ ze.oi) σ a := fun a z => sep_FL (M := ⟨m, g⟩) s1 z
  refine ⟨fun i n H' => n = vs.length - i ∧ i ≤ vs.length ∧ CI Y m g sc σ H1 D (mc ++ ze.mu) (ze.oc ++ ze.oi) (P i) H', ⟨vs.length, by simp, Nat.zero_le _, ⟨[], [], e1, upd_same, rfl, G1, .new hD, h1⟩⟩, ?_⟩
  rintro i n H' ⟨rfl, hi, acc, ys, ei, hDl, ra, Fg, kk, hp⟩
  have kx : Keep (FX ⟨m, g⟩ [] σ) H1 H' := kk.keep.mono fun a z => (sepl a z).sub fun i hi => by cases hi
  obtain ⟨wgo, wstop⟩ := wk H' kx
  by_cases hlt : i < vs.length
  · refine .inr ⟨(wgo i vs[i] (by simp [hlt])).1, CI Y m g sc σ H1 D (mc ++ ze.mu) (ze.oc ++ ze.oi) (P (i + 1)), fun H'' c => ⟨vs.length - (i + 1), by omega, rfl, hlt, c⟩, fun x H'' y => ?_⟩
    have yd := (wgo i vs[i] (by simp [hlt])).2 x H'' y
    obtain ⟨d0, hd0, rd0⟩ := Reps.get' rv (i := i) (v := vs[i]) (by simp [hlt])
    have mw0 : ∀ i, m i = true → (wipe σ ow)[i]? = σ[i]? := fun i mi => wipe_out (own_M (M := ⟨m, g⟩) ho mi)
    have rd1 : Rep Y.K (FX ⟨m, cG g D⟩ [] (wipe σ ow)) H' d0 vs[i] :=
      Rep.weak (fun a z => FD ((FX_same (M := ⟨m, cG g D⟩) mw0).mp z)) _ _ (Rep.keep (kx.mono fun a z => .inl z) _ _ (Rep.add (Nw.of hD) _ _ rd0))
    obtain ⟨ky, rd2⟩ := yd_rep (T0 := Y.T) yd rd1 fun a z => (Fg.wiped (M := ⟨m, cG g D⟩) ho).out z
    have hd : ds[i]? = some (wr1 wr i d0) := by rw [eds, wrD_get, hd0]; rfl
    generalize wr1 wr i d0 = d at hd rd2
    replace Fg := Fg.grow ky.keep
    replace kk := kk.trans (ky.grow (F := FL (mc ++ ze.mu) σ))
    replace ra := Reps.keep (ky.keep.mono fun _ z => z.elim) _ _ ra
    replace hDl := ky.keep D _ hDl (fun z => z) (fun ps z => by cases z)
    have hdr : ds.drop i = d :: ds.drop (i + 1) := by
      obtain ⟨hl, e⟩ := List.getElem?_eq_some_iff.mp hd
      rw [List.drop_eq_getElem_cons hl, e]
    have hp : P i ys ei := hp
    simp only [P, hdr, compL] at hp
    cases et : tgSet tgt d (wipeE ei ow) with
    | none => rw [et] at hp; exact hp.elim
    | some e2 =>
      rw [et] at hp
      dsimp only at hp
      have mw : ∀ i, m i = true → (wipe σ ow)[i]? = σ[i]? := fun i mi => wipe_out (own_M (M := ⟨m, g⟩) ho mi)
      refine tgd.go (cG g D) _ H'' _ d _ e2 _ (Fg.wiped (M := ⟨m, cG g D⟩) ho) rd2 et fun σ2 F2 o2 l2 => ⟨wipe_eq o2 his l2, ?_⟩
      have hw : wipe σ2 ow = wipe σ ow := wipe_eq o2 his l2
      have ms : ∀ i, m i = true → σ2[i]? = σ[i]? := fun i mi => by
        rw [o2 i fun z => own_M (M := ⟨m, g⟩) ho mi (his i z), mw i mi]
      have back : ∀ {H5 : Hp} {e5 : Env}, Fi Y.K ⟨m, cG g D⟩ sc σ2 H5 e5 → Kp Y.T (FL (mc ++ ze.mu) σ) H1 H5 → Fi Y.K ⟨m, cG g D⟩ sc σ H5 (backE e1 e5 ow) := fun {H5 e5} F5 k5 => by
        refine Fi.gone rfl G1 (fun b o e n nt => ?_) F5 ho hw fun _ z => z
        have hb : b ≠ D := fun z => n (.inl (.inr z))
        rw [upd_ne hb] at e
        exact k5.keep b o e (fun z => n (.inr (by
          obtain ⟨j, j1, j2⟩ := z
          exact ⟨j, hm j j1, by simp, j2⟩))) nt
      have dst : ∀ {H5 H6 : Hp} {l : List Nat} {xs : List V}, (∀ i ∈ l, m i = true) → Fi Y.K ⟨m, cG g D⟩ sc σ2 H5 e2 ∨ True → H5 D = some (.lst xs) → Kp Y.T (FL l σ2) H5 H6 → H6 D = some (.lst xs) := fun {H5 H6 l xs} hl _ e k => by
        refine k.keep D _ e (fun z => ?_) (fun ps z => by cases z)
        obtain ⟨j, j1, j2⟩ := FL_same (m := m) hl ms z
        exact G1.gno j D (hl j j1) j2 (.inr rfl)
      have tb2 : LamX.Tabs Y.T H'' := kk.tabs Tb1
      have hmc : ∀ i ∈ mc, m i = true := fun i hi => hm i (mem_l i hi)
      have hmz : ∀ i ∈ ze.mu, m i = true := fun i hi => hm i (mem_r i hi)
      refine ⟨cG g D, e2, F2, tb2, ?_⟩
      cases ec : fc e2 with
      | bad => rw [ec] at hp; exact hp.elim
      | exc x e3 => rw [ec] at hp; exact hp.elim
      | ok b e3 =>
        intro H3 F3 k3
        have k3s : Kp Y.T (FL (mc ++ ze.mu) σ) H'' H3 := k3.mono fun a z => (FL_same hmc ms z).sub mem_l
        have kk3 := kk.trans k3s
        have hD3 := dst hmc (.inr trivial) hDl k3
        have ra3 : Reps Y.K (Fadd (FX ⟨m, g⟩ (ze.oc ++ ze.oi) σ) D) H3 ys acc := Reps.keep (k3s.keep.mono fun a z => .inl (sepl a z)) _ _ ra
        rw [ec] at hp
        cases b with
        | false =>
          dsimp only at hp
          rw [if_neg (by simp)]
          exact ⟨acc, ys, _, hD3, ra3, back F3 kk3, kk3, hp⟩
        | true =>
          dsimp only at hp
          rw [if_pos rfl]
          refine ⟨cG g D, e3, F3, kk3.tabs Tb1, ?_⟩
          cases ee : fe e3 with
          | bad => rw [ee] at hp; exact hp.elim
          | exc x e4 => rw [ee] at hp; exact hp.elim
          | ok y e4 =>
            intro v H4 F4 k4 r4 _
            have k4s : Kp Y.T (FL (mc ++ ze.mu) σ) H3 H4 := k4.mono fun a z => (FL_same hmz ms z).sub mem_r
            have kk4 := kk3.trans k4s
            have hD4 := dst hmz (.inr trivial) hD3 k4
            have ra4 : Reps Y.K (Fadd (FX ⟨m, g⟩ (ze.oc ++ ze.oi) σ) D) H4 ys acc := Reps.keep (k4s.keep.mono fun a z => .inl (sepl a z)) _ _ ra3
            rw [ee] at hp
            dsimp only at hp
            -- how long
            have hz : acc.length + 1 ≤ lim ∧ P (i + 1) (ys ++ [y]) (backE e1 e4 ow) := by
              rw [ra.len]
              cases q : compL tgt ow fc fe e1 (ds.drop (i + 1)) (backE e1 e4 ow) with
              | bad => rw [q] at hp; exact hp.elim
              | exc x e5 => exact absurd q (compL_nox _ _ _ _)
              | ok zs e5 =>
                rw [q] at hp
                simp only [Out.bind] at hp
                by_cases ql : (ys ++ y :: zs).length ≤ lim
                · refine ⟨by simp at ql; omega, ?_⟩
                  show PO _ _ _ _ _ _ _ _ (Out.bind (compL _ _ _ _ _ _ _) _)
                  rw [q]
                  simp only [Out.bind, List.append_assoc, List.singleton_append]
                  exact hp
                · rw [if_neg ql] at hp
                  exact hp.elim
            have rep4 : Rep Y.K (Fadd (FX ⟨m, g⟩ (ze.oc ++ ze.oi) σ) D) H4 y v := by
              have up : ∀ {o : List Nat} {a : Addr}, Fadd (FX ⟨m, g⟩ o σ) D a → FX ⟨m, cG g D⟩ o σ2 a := fun {o a} z => by
                refine (FX_same (M := ⟨m, cG g D⟩) ms).mpr ?_
                rcases z with (z | ⟨i, z1, z2, z3⟩) | z
                · exact .inl (.inl z)
                · exact .inr ⟨i, z1, z2, z3⟩
                · exact .inl (.inr z)
              have sub1 : ∀ a, Fadd (FX ⟨m, g⟩ (ze.oc ++ ze.oi) σ) D a → FX ⟨m, cG g D⟩ ze.oc σ2 a := fun a z => (up z).sub mem_l
              have sub2 : ∀ a, Fadd (FX ⟨m, g⟩ (ze.oc ++ ze.oi) σ) D a → FX ⟨m, cG g D⟩ ze.oi σ2 a := fun a z => (up z).sub mem_r
              exact Rp.rep (r4.mono sub1 sub2) fun _ z => z
            refine ⟨acc, hD4, by rw [sizeLine_eq]; have := hz.1; unfold lim at this; omega, acc ++ [v], ys ++ [y], backE e1 e4 ow, upd_same, ?_, ?_, kk4.updNew hD hD4, hz.2⟩
            · exact Reps.keep (F := Fadd (FX ⟨m, g⟩ (ze.oc ++ ze.oi) σ) D) (.put (.inr rfl)) _ _ (Reps.app ra4 (Reps.one rep4))
            · have B := back F4 kk4
              have fgD : ∀ a, a = D → FX ⟨m, cG g D⟩ [] σ a := fun a z => .inl (.inr z)
              refine ⟨B.len, fun i d e mi => ?_, fun i d e mi => ?_, B.un, B.inj, fun a ga => ?_, B.gno, fun ns e => ?_, B.exn⟩
              · obtain ⟨v, h1, h2⟩ := B.val i d e mi
                exact ⟨v, h1, Rep.keep (.put (fgD D rfl)) _ _ h2⟩
              · obtain ⟨a, vs, xs, h1, h2, h3, h4⟩ := B.mt i d e mi
                refine ⟨a, vs, xs, h1, h2, ?_, Reps.keep (.put (fgD D rfl)) _ _ h4⟩
                rw [upd_ne (fun z => B.gno i a mi h1 (.inr z))]
                exact h3
              · by_cases q : a = D
                · exact ⟨_, by rw [q]; exact upd_same⟩
                · rw [upd_ne q]
                  exact B.gin a ga
              · obtain ⟨a, h1, h2, h3⟩ := B.scr ns e
                exact ⟨a, h1, h2.keep (.put (fgD D rfl)), h3⟩
  · have e : i = vs.length := by omega
    subst e
    refine .inl ⟨wstop, ?_⟩
    have hp : P vs.length ys ei := hp
    have hdr : ds.drop vs.length = [] := List.drop_eq_nil_of_le (by rw [eds, wrD_len, rv.len]; exact Nat.le_refl _)
    simp only [P, hdr, compL, Out.bind, List.append_nil] at hp
    by_cases ql : ys.length ≤ lim
    · rw [if_pos ql] at hp
      have hp : VP Y ⟨m, g⟩ sc ⟨mi ++ (mc ++ ze.mu), ze.oc ++ ze.oi, ze.oc ++ ze.oi, true⟩ σ H Q (.list ys) ei := hp
      have dn : ∀ {o : List Nat} {a : Addr}, FX ⟨m, g⟩ o σ a → FX ⟨m, cG g D⟩ o σ a := fun {o a} z => by
        rcases z with z | z
        · exact .inl (.inl z)
        · exact .inr z
      have Fo : Fi Y.K ⟨m, g⟩ sc σ H' ei := by
        refine ⟨Fg.len, fun i d e mi => ?_, fun i d e mi => ?_, Fg.un, Fg.inj, fun a ga => Fg.gin a (.inl ga), fun i a mi e ga => Fg.gno i a mi e (.inl ga), fun ns e => ?_, Fg.exn⟩
        · obtain ⟨v, h1, h2⟩ := Fg.val i d e mi
          exact ⟨v, h1, Rep.weak (fun a z => dn z) _ _ h2⟩
        · obtain ⟨a, vs, xs, h1, h2, h3, h4⟩ := Fg.mt i d e mi
          exact ⟨a, vs, xs, h1, h2, h3, Reps.weak (fun a z => dn z) _ _ h4⟩
        · obtain ⟨a, h1, h2, h3⟩ := Fg.scr ns e
          exact ⟨a, h1, h2.weak fun a z => dn z, h3⟩
      refine hp (.ref D) H' Fo (k1.mono (fun a z => z.sub mem_l) |>.trans (kk.mono fun a z => z.sub mem_r)) ⟨D, acc, rfl, ⟨fun z => ?_, hDl⟩, Reps.weak (fun a z => .inl z) _ _ ra⟩ fun _ xs ex => ?_
      · rcases z with z | ⟨j, z1, z2, z3⟩
        · obtain ⟨us, q⟩ := F1.gin D z
          rw [hD] at q; cases q
        · exact G1.gno j D z1 z3 (.inr rfl)
      · cases ex
        exact ⟨D, acc, rfl, Nw.back (Nw.of hD) F1 k1 im, hDl, ra⟩
    · rw [if_neg ql] at hp
      exact hp.elim
theorem je_comp {tg iter elt : Expr} {ifs : List Expr} {scope : Scope} {own : List (Str × Nat)} {pos : Pos} {fit : Env → Out (List PyData)} {fc : Env → Out Bool} {fe : Env → Out PyData} {mi mc is : List Nat} {ze : St} {tgt : Tg} {gt : TG} (O : XOk Y k true X) (hi : JI Y ⟨m, g⟩ sc W X tg iter fit mi)
    (ok : BlkOk X.N X.env.scope scope own) (ho : ownOk m sc (own.map (·.2)) = true) (tgd : TgD Y m sc tgt is gt) (his : ∀ j, j ∈ is → j ∈ own.map (·.2)) (hg : ∀ (s : Shared) (H : Hp) (C : Addr) (cl : List (Str × Addr)) (fp : List Addr), PG (X.blk s H scope (compEnvC scope cl C X.env) fp) tg gt)
    (ht : ∀ (s : Shared) (H : Hp) (C : Addr) (cl : List (Str × Addr)) (fp : List Addr), JTs Y m sc WN (X.blk s H scope (compEnvC scope cl C X.env) fp) ifs fc mc) (he : ∀ (s : Shared) (H : Hp) (C : Addr) (cl : List (Str × Addr)) (fp : List Addr) (gg : Addr → Prop), JE Y ⟨m, gg⟩ sc WN (X.blk s H scope (compEnvC scope cl C X.env) fp) elt fe ze)
    (hs : ∀ x, foldedSetIterable iter X.env x = pure x) (hm : ∀ i ∈ mc ++ ze.mu, m i = true) (s1 : sep m (mc ++ ze.mu) (ze.oc ++ ze.oi) = true) :
    JE Y ⟨m, g⟩ sc W X (.ListComp elt [⟨tg, iter, ifs, 0⟩] scope pos) (evComp tgt (own.map (·.2)) fit fc fe) ⟨mi ++ (mc ++ ze.mu), ze.oc ++ ze.oi, ze.oc ++ ze.oi, true⟩ := by
  obtain ⟨im, wi, pi, ji⟩ := hi
  exact ⟨app_M (M := ⟨m, g⟩) im hm, _, pe_lc (O.calm rfl) O.nd pi ok hg (fun s H C cl fp => ht s H C cl fp) (fun s H C cl fp => TJ.pe (he s H C cl fp)) hs, jet_comp im ji ho tgd his hm s1⟩
end
end VF
set_option Elab.async false
set_option maxRecDepth 100000
set_option maxHeartbeats 4000000
namespace VF
open PySem PySem.Spec PyProof.Rows L2
section
variable {Y : Sys} {M : MM} {sc : SC} {W : WX} {X : Cx} {σ : L2.St} {H H1 : Hp} {k : Nat}
variable {e a b c : Expr} {f g h : Env → Out PyData} {za zb zc : St} {p pos : Pos}

/-! ### pop -/
def evPop (i : Nat) (f : Env → Out PyData) (env : Env) : Out PyData := (VF.lift (getV env i) env).bind fun _ e0 => (f e0).bind fun x e1 => (match getV e1 i, x with
    | some (.list ds), .int k => (match ixN ds.length k with
      | some j => (match ds[j]? with
        | some y => if ds.length ≤ lim then .ok y (setV e1 i (.list (ds.eraseIdx j))) else .bad
        | none => .bad)
      | none => .bad)
    | _, _ => .bad)
theorem fi_put1 {i : Nat} {a : Addr} {vs : List V} {ds : List PyData} {us : List V} {env : Env} (F : Fi Y.K M sc σ H env) (m : M i = true) (e : σ[i]? = some (some (.ref a))) (hp : H a = some (.lst us)) (r : Reps Y.K (FX M [] σ) H ds vs) :
    Fi Y.K M sc σ (upd H a (.lst vs)) (setV env i (.list ds)) := by
  have k : Kp Y.T (· ∈ [a]) H (upd H a (.lst vs)) := Kp.put (by simp) hp
  have fx : ∀ b, b ∈ [a] → FX M [] σ b := fun b hb => by
    rw [List.mem_singleton.mp hb]
    exact .inr ⟨i, m, by simp, e⟩
  exact F.put (is := [i]) (as := [a]) (rs := [.list ds]) (by simp) (fun j hj => by rw [List.mem_singleton.mp hj]; exact m) ⟨a, [], rfl, e, rfl⟩ k ⟨a, [], ds, vs, rfl, rfl, upd_same, Reps.keep (k.keep.mono fx) _ _ r, rfl⟩
theorem je_pop {i : Nat} {x : Str} {p1 p2 : Pos} (hx : PE X (.Name x p1) (tVar i)) (m : M i = true) (hb : attributeBase (.Name x p1) "pop" X.env (eval (.Name x p1) X.env) = eval (.Name x p1) X.env)
    (hf : ((backTo pos (starEach [e] X.env)).all (fun x => !x.1) && (backToKw pos (keywordEach [] X.env)).all (fun x => x.1.isSome) && decide ([e].length + ([] : List Keyword).length + (if ([] : List Keyword).isEmpty then 0 else 1) < 30)) = true)
    (hl : (p2.endLine == pos.line) = true) (hs : starEach [e] X.env = (false, eval e X.env) :: starEach [] X.env) (ja : JE Y M sc W X e f za) :
    JE Y M sc W X (.Call (.Attribute (.Name x p1) "pop" p2) [e] [] pos) (evPop i f) ⟨i :: za.mu, [], [], false⟩ := by
  obtain ⟨am, t, pa, ja⟩ := ja
  have am' : ∀ j ∈ i :: za.mu, M j = true := fun j hj => (List.mem_cons.mp hj).elim (fun z => by rw [z]; exact m) (am j)
  refine ⟨am', _, pe_bm PySem.F.plainAttrs_list PySem.F.slot_list_pop PySem.F.type_list_pop mt_popAt hx (pa_one pa hs) hb hf hl hs rfl, fun σ H env Q F Tb h => ?_⟩
  obtain ⟨d0, e0, h⟩ := h.bind.lift
  obtain ⟨q, us, xs, g1, rfl, g3, g4⟩ := F.mt i d0 (getV_some e0) m
  refine ⟨_, g1, .inl ⟨rfl, us, .inl (.inl g3)⟩, ?_⟩
  refine ja σ H env _ F Tb ((h.bind.to (fun j hj => List.mem_cons_of_mem _ hj) .refl).imp fun x e1 h1 v H1 F1 k1 r1 _ => ?_)
  cases eg : getV e1 i with
  | none => rw [eg] at h1; exact h1.elim
  | some d1 =>
    rw [eg] at h1
    obtain ⟨q', us1, xs1, f1, rfl, f3, f4⟩ := F1.mt i d1 (getV_some eg) m
    rw [g1] at f1
    cases f1
    cases x <;> try exact h1.elim
    rename_i kk _
    dsimp only at h1
    cases ei : ixN xs1.length kk with
    | none => rw [ei] at h1; exact h1.elim
    | some j =>
      rw [ei] at h1
      dsimp only at h1
      cases ey : xs1[j]? with
      | none => rw [ey] at h1; exact h1.elim
      | some y =>
        rw [ey] at h1
        dsimp only at h1
        by_cases hz : xs1.length ≤ lim
        case neg => rw [if_neg hz] at h1; exact h1.elim
        rw [if_pos hz] at h1
        unfold lim at hz
        have ev := rp_int r1
        subst ev
        obtain ⟨yv, hy, ry⟩ := Reps.get f4 ey
        have hlen := f4.len
        obtain ⟨i1, i2, i3, i4⟩ := ixN_seq ei
        refine ⟨q, us1, kk, j, yv, rfl, rfl, f3, ?_, ?_, by rw [hlen]; exact i1, hy, ?_⟩
        · omega
        · omega
        · have F2 := fi_put1 F1 m g1 f3 (f4.eraseIdx j)
          have h1 : VP Y M sc ⟨i :: za.mu, [], [], false⟩ σ H Q y (setV e1 i (.list (xs1.eraseIdx j))) := h1
          have kp : Kp Y.T (FL (i :: za.mu) σ) H1 (upd H1 q (.lst (us1.eraseIdx j))) := Kp.put ⟨i, by simp, g1⟩ f3
          refine h1 yv _ F2 ((k1.mono fun a z => z.sub fun j hj => List.mem_cons_of_mem _ hj).trans kp) (Rp.of (Rep.keep (kp.keep.mono fun a z => ?_) _ _ ry)) (fun z => by cases z)
          obtain ⟨j', j1, j2⟩ := z
          exact .inr ⟨j', am' j' j1, by simp, j2⟩

/-! ### index, the number of unlike ones -/
theorem tup_is {pins : List (Addr × Obj)} {s : Shared} {F : Addr → Prop} {a : Addr} {vs : List V} (I : Inv X pins σ H s) (r : RdT X.K F H a vs) : ∃ ob, s.heap.get? a = some ob ∧ ob.dict = none := by
  rcases r with ⟨_, o, hd, ho⟩ | ⟨o, its, n, ho, _, hd, _⟩
  · obtain ⟨e, _⟩ := I.hok a _ ho
    exact ⟨o, e, hd⟩
  · exact ⟨o, I.kIn a o ho, hd⟩
theorem is_tup {pins : List (Addr × Obj)} {s : Shared} {F : Addr → Prop} {a : Addr} {vs : List V} (I : Inv X pins σ H s) (r : RdT X.K F H a vs) : s.TypeIs (.ref a) "tuple" := by
  obtain ⟨its, _, pl, _⟩ := I.tuple r.sq
  exact pl.typeIs
def tIdx (K : PySem.W.Frag) (to te : TE) : TE := fun σ H Q => to σ H fun x H1 => ∃ (l : Addr) (ns : List Int), x = .ref l ∧
  (((∃ xs, SqL K H1 l xs) ∧ te σ H1 fun y H2 => ∃ k : Int, y = .int k ∧ SqL K H2 l (ns.map V.int) ∧ k ∈ ns ∧ Q (.int (ns.idxOf k : Nat)) H2) ∨
  ((∃ F xs, RdT K F H1 l xs) ∧ te σ H1 fun y H2 => ∃ k : Int, y = .int k ∧ SqT K H2 l (ns.map V.int) ∧ k ∈ ns ∧ Q (.int (ns.idxOf k : Nat)) H2))
theorem pe_idxOf {o e : Expr} {to te : TE} {p2 pos : Pos} (ho : PE X o to) (he : PE X e te) (hb : attributeBase o "index" X.env (eval o X.env) = eval o X.env)
    (hf : ((backTo pos (starEach [e] X.env)).all (fun x => !x.1) && (backToKw pos (keywordEach [] X.env)).all (fun x => x.1.isSome) && decide ([e].length + ([] : List Keyword).length + (if ([] : List Keyword).isEmpty then 0 else 1) < 30)) = true)
    (hl : (p2.endLine == pos.line) = true) (hs : starEach [e] X.env = (false, eval e X.env) :: starEach [] X.env) : PE X (.Call (.Attribute o "index" p2) [e] [] pos) (tIdx X.K to te) := by
  refine ⟨fun pins s σ H Q I h => ?_⟩
  refine wpAny_Call_method_late hb hf hl rfl (thn (ho.run pins s σ H _ I h) fun v s1 hv => ?_)
  obtain ⟨x, H1, I1, r1, l, ns, ex, q⟩ := hv
  subst ex
  have hva : v = .ref l := r1
  subst hva
  have tail : ∀ {id : String} {R : V → Hp → Prop}, te σ H1 R → (∀ u s2 y H2, Inv X pins σ H2 s2 → RelV y u → R y H2 → wpAny (model X.prog X.w) X.A (call (.builtin id) [.ref l, u]) (EP X pins σ Q) X.xe s2) →
      wpAny (model X.prog X.w) X.A (callWith pos (.builtin id) [.ref l] (backTo pos (starEach [e] X.env)) []) (EP X pins σ Q) X.xe s1 := fun {id R} hq hh => by
    have hA := (pa_one he hs).run pos pins s1 σ H1 (fun vs H2 => match vs with | [y] => R y H2 | _ => False) I1 hq
    rw [hs] at hA ⊢
    refine Calls.callWith_builtin (by show (false || (backTo pos (starEach [] X.env)).any (·.1)) = false; rfl) (Calls.evalArgs_plain ?_)
    refine thn hA fun us s2 ⟨vs, H2, I2, r2, q2⟩ => ?_
    cases r2 with
    | nil => exact q2.elim
    | cons ru rt =>
      cases rt with
      | nil => exact hh _ s2 _ H2 I2 ru q2
      | cons _ _ => exact q2.elim
  rcases q with ⟨⟨xs, hq⟩, q⟩ | ⟨⟨F, xs, hq⟩, q⟩
  · obtain ⟨h1, h2⟩ := tyV_is (T := "list") I1 r1 (.inl ⟨rfl, xs, hq⟩)
    refine ⟨"list", _, PySem.F.plainAttrs_list, PySem.F.slot_list_index, PySem.F.type_list_index, h1, h2, tail q fun u s2 y H2 I2 ru hR => ?_⟩
    obtain ⟨k, rfl, hS, hk, qq⟩ := hR
    obtain ⟨t, rfl⟩ := ru
    obtain ⟨its, rv, pl, hz⟩ := I2.list hS
    exact SeqAt.list_index_ints pl.isList (ints_of_vals rv) (by rw [List.length_map] at hz; exact hz) hk ⟨.int _, H2, I2.tok _, ⟨_, rfl⟩, qq⟩
  · refine ⟨"tuple", _, PySem.F.plainAttrs_tuple, PySem.F.slot_tuple_index, PySem.F.type_tuple_index, is_tup I1 hq, fun a e => ?_, tail q fun u s2 y H2 I2 ru hR => ?_⟩
    · cases e
      exact tup_is I1 hq
    · obtain ⟨k, rfl, hS, hk, qq⟩ := hR
      obtain ⟨t, rfl⟩ := ru
      obtain ⟨its, rv, pl, hz⟩ := I2.tuple hS
      have pt : s2.heap.IsTuple l its.toArray := pl
      exact SeqAt.tuple_index_ints pt (ints_of_vals rv) hk ⟨.int _, H2, I2.tok _, ⟨_, rfl⟩, qq⟩
def evIdx (f g : Env → Out PyData) (env : Env) : Out PyData := (f env).bind fun x e1 => (VF.lift ((items x).bind intsOf) e1).bind fun ns e1 => (g e1).bind fun y e2 => (match y with
    | .int k => if k ∈ ns then .ok (.int (ns.idxOf k : Nat)) e2 else .bad
    | _ => .bad)
theorem je_index {o : Expr} {p2 : Pos} (hK : X.K = Y.K) (hb : attributeBase o "index" X.env (eval o X.env) = eval o X.env)
    (hf : ((backTo pos (starEach [e] X.env)).all (fun x => !x.1) && (backToKw pos (keywordEach [] X.env)).all (fun x => x.1.isSome) && decide ([e].length + ([] : List Keyword).length + (if ([] : List Keyword).isEmpty then 0 else 1) < 30)) = true)
    (hl : (p2.endLine == pos.line) = true) (hs : starEach [e] X.env = (false, eval e X.env) :: starEach [] X.env) (ja : JE Y M sc W X o f za) (jb : JE Y M sc W X e g zb) (s : sep M.m zb.mu za.oc = true) (s' : sep M.m zb.mu za.oi = true) :
    JE Y M sc W X (.Call (.Attribute o "index" p2) [e] [] pos) (evIdx f g) ⟨za.mu ++ zb.mu, [], [], false⟩ := by
  obtain ⟨am, ta, pa, ja⟩ := ja
  obtain ⟨bm, tb, pb, jb⟩ := jb
  refine ⟨app_M am bm, _, pe_idxOf pa pb hb hf hl hs, fun σ H env Q F Tb h => ?_⟩
  refine ja σ H env _ F Tb ((h.bind.to mem_l .refl).imp fun x e1 h1 u H1 F1 k1 r1 _ => ?_)
  have k1' : Kp Y.T (FL (za.mu ++ zb.mu) σ) H H1 := k1.mono fun a z => z.sub mem_l
  obtain ⟨ns, en, h1⟩ := h1.bind.lift
  obtain ⟨ds, ei, en⟩ := Option.bind_eq_some_iff.mp en
  have ed := ints_map en
  subst ed
  rw [hK]
  have fin : ∀ (R : Hp → Prop), (∀ H2, Rp Y.K (FX M za.oc σ) (FX M za.oi σ) H2 x u → R H2) → tb σ H1 fun y H2 => ∃ k : Int, y = .int k ∧ R H2 ∧ k ∈ ns ∧ Q (.int (ns.idxOf k : Nat)) H2 := fun R hR => by
    refine jb σ H1 e1 _ F1 (k1.tabs Tb) ((h1.bind.to mem_r k1').imp fun y e2 h2 v H2 F2 k2 r2 _ => ?_)
    cases y <;> try exact h2.elim
    rename_i kk _
    dsimp only at h2
    by_cases hk : kk ∈ ns
    · rw [if_pos hk] at h2
      refine ⟨kk, rp_int r2, hR H2 (r1.keep k2.keep (fun a z => sep_FL s z) (fun a z => sep_FL s' z)), hk, ?_⟩
      exact h2 _ H2 F2 (k1'.trans (k2.mono fun a z => z.sub mem_r)) rfl (fun z => by cases z)
    · rw [if_neg hk] at h2
      exact h2.elim
  cases x with
  | list xs =>
    cases ei
    obtain ⟨l, vs, rfl, t, rr⟩ := r1
    refine ⟨l, ns, rfl, .inl ⟨⟨vs, t.sq⟩, fin (fun H2 => SqL Y.K H2 l (ns.map V.int)) fun H2 r2 => ?_⟩⟩
    obtain ⟨l', vs', e', t', rr'⟩ := r2
    cases e'
    rw [← Reps.ints rr']
    exact t'.sq
  | tuple xs =>
    cases ei
    obtain ⟨l, vs, rfl, t, rr⟩ := r1
    refine ⟨l, ns, rfl, .inr ⟨⟨_, vs, t⟩, fin (fun H2 => SqT Y.K H2 l (ns.map V.int)) fun H2 r2 => ?_⟩⟩
    obtain ⟨l', vs', e', t', rr'⟩ := r2
    cases e'
    rw [← Reps.ints rr']
    exact t'.sq
  | none => cases ei
  | bool _ => cases ei
  | int _ => cases ei
  | str _ => cases ei
  | dict _ => cases ei

/-! ### how many unlike ones -/
theorem dedI_mem : ∀ {ns : List Int} {k : Int}, k ∈ dedI ns ↔ k ∈ ns
  | [], k => by simp [dedI]
  | n :: ns, k => by
    unfold dedI
    by_cases h : n ∈ dedI ns
    · rw [if_pos h, dedI_mem, List.mem_cons]
      exact ⟨.inr, fun z => z.elim (fun e => by rw [e]; exact dedI_mem.mp h) id⟩
    · rw [if_neg h, List.mem_cons, List.mem_cons, dedI_mem]
theorem dedI_nodup : ∀ ns : List Int, (dedI ns).Nodup
  | [] => .nil
  | n :: ns => by
    unfold dedI
    by_cases h : n ∈ dedI ns
    · rw [if_pos h]; exact dedI_nodup ns
    · rw [if_neg h]; exact List.nodup_cons.mpr ⟨h, dedI_nodup ns⟩
def tLenSetT (K : PySem.W.Frag) (ta : TE) : TE := fun σ H Q => ta σ H fun x H1 => ∃ (l : Addr) (ns : List Int), x = .ref l ∧ SqT K H1 l (ns.map V.int) ∧ ns.length ≤ 1000 ∧ Q (.int ((dedI ns).length : Nat)) H1
theorem pe_lenSetT {ta : TE} {p2 q : Pos} (hg : Gl X "len") (hm : X.mg "len" = none) (hg2 : Gl X "set") (hm2 : X.mg "set" = none) (ha : PE X a ta) (hc : X.calm = true)
    (na : starEach [a] X.env = (false, eval a X.env) :: starEach [] X.env) : PE X (.Call (.Name "len" p) [.Call (.Name "set" p2) [a] [] q] [] pos) (tLenSetT X.K ta) := by
  refine ⟨fun pins s σ H Q I h => ?_⟩
  refine Call_ (ld_blt I hg hm boot_len (PyProof.Rows.callWith_builtin1 (PyProof.Rows.args_cons ?_ rfl) rfl rfl))
  refine Call_ (ld_blt I hg2 hm2 boot_set (PyProof.Rows.callWith_type1 (PyProof.Rows.args_cons (thn (ha.run pins s σ H _ I h) fun v s1 hv => PyProof.Rows.args_nil ?_) na) na rfl))
  obtain ⟨x, H1, I1, r1, l, ns, ex, hq, hl, q1⟩ := hv
  subst ex
  obtain rfl : v = .ref l := r1
  obtain ⟨its, rv, pt, hz⟩ := I1.tuple hq
  refine call_set_tupI ns (I1.ok.hd hc) (show s1.heap.IsTuple l its.toArray from pt) (show IntsAre its.toArray.toList ns from ints_of_vals rv) (by unfold scanBound; omega) fun h' tk c R hcn kk => PyProof.Rows.args_nil ?_
  obtain ⟨o, es, ep, t, ho, hex, hd, _, nd, hmem, hb, hf, hn, _, _⟩ := R
  have I2 : Inv X pins σ H1 { s1 with heap := h', toks := tk } := I1.kept kk
  have hlen : c = (dedI ns).length := by
    have pm : (es.toList.map keyOf).Perm (dedI ns) := (List.perm_ext_iff_of_nodup nd (dedI_nodup ns)).mpr fun k => by
      rw [← hmem k, dedI_mem, decide_eq_true_eq]
    have := pm.length_eq
    rw [List.length_map, Array.length_toList] at this
    omega
  have hs : es.size = (dedI ns).length := by omega
  exact call_len_set ho hex hd hf (by unfold scanBound at hb; omega) ⟨.int _, H1, I2.tok _, ⟨_, by rw [hs]⟩, q1⟩
theorem je_lenset {p2 q : Pos} (O : XOk Y k true X) (hg : Gl X "len") (hm : X.mg "len" = none) (hg2 : Gl X "set") (hm2 : X.mg "set" = none) (na : starEach [a] X.env = (false, eval a X.env) :: starEach [] X.env) (ja : JE Y M sc W X a f za) :
    JE Y M sc W X (.Call (.Name "len" p) [.Call (.Name "set" p2) [a] [] q] [] pos) (fun env => (f env).bind fun x e1 => VF.lift (biD .lenset x) e1) ⟨za.mu, [], [], false⟩ := by
  obtain ⟨am, ta, pa, ja⟩ := ja
  refine ⟨am, _, pe_lenSetT hg hm hg2 hm2 pa (O.calm rfl) na, fun σ H env Q F Tb h => ?_⟩
  refine ja σ H env _ F Tb (h.bind.imp fun x e1 h1 u H1 F1 k1 r1 _ => ?_)
  obtain ⟨z, ez, h2⟩ := h1.lift
  have h9 : VP Y M sc ⟨za.mu, [], [], false⟩ σ H Q z e1 := h2
  clear h1 h2
  cases x <;> simp only [biD] at ez <;> try (cases ez; done)
  rename_i ds
  obtain ⟨ns, en, ez⟩ := Option.bind_eq_some_iff.mp ez
  split at ez
  · rename_i hl
    obtain ⟨l, vs, rfl, t, rr⟩ := r1
    cases ez
    have ed := ints_map en
    subst ed
    have tq := t.sq
    rw [Reps.ints rr] at tq
    exact ⟨l, ns, rfl, O.K ▸ tq, hl, h9 _ H1 F1 k1 rfl (fun z => by cases z)⟩
  · cases ez
end
end VF
set_option Elab.async false
set_option maxRecDepth 100000
set_option maxHeartbeats 4000000
namespace VF
open PySem PySem.Spec PyProof.Rows L2
section
variable {Y : Sys} {M : MM} {sc : SC} {W : WX} {X : Cx} {σ : L2.St} {H H1 : Hp} {k : Nat}
variable {e a b c : Expr} {f g h : Env → Out PyData} {fs : Env → Out (List PyData)} {za zb zc : St} {p pos kpos : Pos} {ma mb oa ob : List Nat}

/-! ### keywords -/
def JK (Y : Sys) (M : MM) (sc : SC) (W : WX) (X : Cx) (kws : List Keyword) (f : Env → Out (List PyData)) (mu oc : List Nat) : Prop := (∀ i ∈ mu, M i = true) ∧ ∃ t, PK X kws t ∧ JAt Y M sc W t f mu oc
theorem jk_nil : JK Y M sc W X [] (fun env => .ok [] env) [] [] := ⟨by simp, _, pk_nil, fun σ H env Q F Tb h => h [] H F .refl rfl⟩
theorem rep_app {x : PyData} {u : V} {o o' : List Nat} (r3 : Rp Y.K (FX M o σ) (FX M o' σ) H x u) : Rep Y.K (FX M (o ++ o') σ) H x u :=
  Rp.rep (r3.mono (fun a z => (FX_app z).1) (fun a z => (FX_app z).2)) fun _ z => z
theorem jk_cons {nm : Option Str} {kws : List Keyword} (ja : JE Y M sc W X e f za) (jb : JK Y M sc W X kws fs mb ob) (s : sep M.m mb za.oc = true) (s' : sep M.m mb za.oi = true) :
    JK Y M sc W X (⟨nm, e, kpos⟩ :: kws) (fun env => (f env).bind fun x e1 => (fs e1).bind fun xs e2 => .ok (x :: xs) e2) (za.mu ++ mb) (za.oc ++ za.oi ++ ob) := by
  obtain ⟨am, ta, pa, ja⟩ := ja
  obtain ⟨bm, tb, pb, jb⟩ := jb
  refine ⟨app_M am bm, _, pk_cons pa pb, fun σ H env Q F Tb h => ?_⟩
  refine ja σ H env _ F Tb ((h.bind.to mem_l .refl).imp fun x e1 h1 u H1 F1 k1 r1 _ => ?_)
  have k1' : Kp Y.T (FL (za.mu ++ mb) σ) H H1 := k1.mono fun a z => z.sub mem_l
  refine jb σ H1 e1 _ F1 (k1.tabs Tb) ((h1.bind.to mem_r k1').imp fun ys e2 h2 vs H2 F2 k2 r2 => ?_)
  have r3 := r1.keep k2.keep (fun a z => sep_FL s z) (fun a z => sep_FL s' z)
  exact h2 (u :: vs) H2 F2 (k1'.trans (k2.mono fun a z => z.sub mem_r)) ⟨u, vs, rfl, Rep.weak (fun a z => (FX_app z).1) _ _ (rep_app r3), Reps.weak (fun a z => (FX_app z).2) _ _ r2⟩
theorem pick_reps {K : PySem.W.Frag} {F : Addr → Prop} {ds : List PyData} {vs : List V} (r : Reps K F H ds vs) : ∀ {is : List Nat} {xs : List PyData}, pick is ds = some xs → ∃ ys, pick is vs = some ys ∧ Reps K F H xs ys
  | [], xs, h => by cases h; exact ⟨[], rfl, rfl⟩
  | i :: is, xs, h => by
    simp only [pick, Option.bind_eq_some_iff, Option.map_eq_some_iff] at h
    obtain ⟨x, h1, xr, h2, rfl⟩ := h
    obtain ⟨v, e1, r1⟩ := r.get h1
    obtain ⟨ys, e2, r2⟩ := pick_reps r h2
    exact ⟨v :: ys, by simp [pick, e1, e2], v, ys, rfl, r1, r2⟩
theorem pick_vals {vs : List V} {us : List Value} (r : Vals vs us) : ∀ {is : List Nat} {ys : List V}, pick is vs = some ys → ∃ zs, pick is us = some zs ∧ Vals ys zs
  | [], xs, h => by cases h; exact ⟨[], rfl, .nil⟩
  | i :: is, xs, h => by
    simp only [pick, Option.bind_eq_some_iff, Option.map_eq_some_iff] at h
    obtain ⟨x, h1, xr, h2, rfl⟩ := h
    obtain ⟨v, e1, r1⟩ := r.get h1
    obtain ⟨ys, e2, r2⟩ := pick_vals r h2
    exact ⟨v :: ys, by simp [pick, e1, e2], .cons r1 r2⟩
theorem pick_len {α : Type} : ∀ {is : List Nat} {l xs : List α}, pick is l = some xs → xs.length = is.length
  | [], _, xs, h => by cases h; rfl
  | i :: is, l, xs, h => by
    simp only [pick, Option.bind_eq_some_iff, Option.map_eq_some_iff] at h
    obtain ⟨x, h1, xr, h2, rfl⟩ := h
    simp [pick_len h2]
def evCallk (sig : Str → Option Sig) (cs : Calls) (f : Str) (ks : List Str) (fs : Env → Out (List PyData)) (env : Env) : Out PyData := (fs env).bind fun ds e => (match sig f with
    | some s => (match kperm s.ps ks ds with
      | some xs => callS sig cs f [] xs e
      | none => .bad)
    | none => .bad)
def tCallKS (sp : Sp) (E : L2.St → XK) (ix : List Nat) (t : TA) : TE := fun σ H Q => t σ H fun vs H1 => ∃ ys, pick ix vs = some ys ∧ sp ys H1 Q (E σ)
theorem je_callk {cs : Calls} {sig : Str → Option Sig} {f : Str} {s : Sig} {ks : List Str} {kws : List Keyword} {fr : Bool} (O : XOk Y k true X) (fns : Fns Y cs k sig) (tk : Takes X W) (hs : sig f = some s) (hf : fr = true → s.fr = true) (hkl : (f, ks) ∈ Y.kl)
    (hg : Gl X f) (ja : JK Y M sc W X kws fs ma oa) (hall : (backToKw pos (keywordEach kws X.env)).all (·.1.isSome) = true) (hks : (backToKw pos (keywordEach kws X.env)).filterMap (·.1) = ks)
    (hpl : ((backTo pos (starEach [] X.env)).any (·.1) || (backToKw pos (keywordEach kws X.env)).any (·.1.isNone)) = false) :
    JE Y M sc W X (.Call (.Name f p) [] kws pos) (evCallk sig cs f ks fs) ⟨ma, oa, oa, fr⟩ := by
  obtain ⟨am, t, pa, ja⟩ := ja
  obtain ⟨fa, fd, I⟩ := fns f s hs
  have Fo := I.ok
  have hm := I.mg
  have hk := I.kp
  have hb := I.kb ks hkl
  obtain ⟨P, w, K, mg, base, xnd, un, room, calm⟩ := O
  rw [← P, ← w, ← K, ← mg, ← base] at Fo
  rw [← mg] at hm
  rw [← K] at hk hb
  refine ⟨am, tCallKS (spV Y cs f s) (WE W) (kix s.ps ks) (fun σ H Q => t σ H fun vs H1 => vs.length = ks.length ∧ Q vs H1), ⟨fun pins st σ H Q J h => ?_⟩, fun σ H env Q F0 Tb h => ?_⟩
  · refine wpAny_Call_Name_kw (ld_glob J hg hm ?_ I.db)
    refine PySem.W.callWith_KW0 (h₀ := X.base) J.ok.mod.kin hk hall (thn (pa.run pos pins st σ H _ J h) fun us s1 ⟨vs, H1, I1, r, hl, ys, ep, q⟩ => ⟨I1.kIn, ?_⟩) hpl
    rw [hks]
    obtain ⟨zs, ez, rz⟩ := pick_vals r ep
    have b := hb s1 us zs I1.kIn (by rw [← r.length]; exact hl) ez
    refine wpAny_call (codeAny_mono (Fo.run X.A X.stack s1 H1 ⟨[], ks.zip us⟩ zs ys Q (WE W σ) (room rfl) I1.env0 b rz q) fun r s' hq => ?_)
    cases r with
    | error e => exact passAt tk σ pins H1 s1 e s' I1 hq
    | ok fl =>
      cases fl with
      | ret u => exact I1.after hq
      | next => exact False.elim hq
      | brk => exact False.elim hq
      | cont => exact False.elim hq
  · refine ja σ H env _ F0 Tb (h.bind.imp fun ds e1 h1 ws H1 F1 k1 r1 => ?_)
    rw [hs] at h1
    dsimp only at h1
    cases ep : kperm s.ps ks ds with
    | none => rw [ep] at h1; exact h1.elim
    | some xs =>
      rw [ep] at h1
      dsimp only at h1
      unfold kperm at ep
      split at ep
      · rename_i hl
        obtain ⟨ys, e2, r2⟩ := pick_reps r1 ep
        refine ⟨by rw [r1.len]; exact hl.2, ys, e2, ?_⟩
        obtain ⟨g1, g2, h1⟩ := callS_len hs h1
        exact call_core (rs := []) (as := []) (ma := ma) am .nil (.inl rfl) hf rfl F1 (k1.tabs Tb) k1 r2 g1 g2 h1
      · cases ep

/-! ### the script's first cells -/
theorem je_stake {ns : List Int} {n j : Nat} {e : Expr} {p2 p3 pos : Pos} (hsc : sc.ns = some ns) (hx : PE X e (tVar 0)) (hK : X.K = Y.K) : JE Y M sc W X (.Subscript e (.Slice none (some (.Constant (.int (n : Nat)) j p2)) none p3) pos) (fun env => .ok (.list ((ns.take n).map .int)) env) ⟨[], [], [], true⟩ := by
  refine ⟨by simp, _, pe_slice sl_list hx po_none (po_some pe_int), fun σ H env Q F Tb h => ?_⟩
  obtain ⟨a, h1, h2, h3⟩ := F.scr ns hsc
  have h : VP Y M sc ⟨[], [], [], true⟩ σ H Q (.list ((ns.take n).map .int)) env := h
  refine ⟨V.ref a, h1, n, rfl, ?_⟩
  refine ⟨a, _, rfl, hK ▸ h2.sq, fun p hp => ?_⟩
  have e : cutV (ns.map V.int) none (some (n : Int)) = (ns.take n).map V.int := by
    unfold cutV
    rw [HT.sIx_none, HT.sIx_nat, List.drop_zero, Nat.sub_zero, List.length_map, ← List.map_take]
    congr 1
    rcases Nat.le_total n ns.length with q | q
    · rw [Nat.min_eq_left q]
    · rw [Nat.min_eq_right q, List.take_of_length_le (Nat.le_refl _), List.take_of_length_le q]
  rw [e]
  exact new_list (by simp) h F .refl (Reps.of_ints _) hp
/-- how many cells the script has -/
theorem je_slen {ns : List Int} {e : Expr} {p pos : Pos} (hsc : sc.ns = some ns) (hx : PE X e (tVar 0)) (hK : X.K = Y.K) (hs : starEach [e] X.env = (false, eval e X.env) :: starEach [] X.env) (hg : Gl X "len") (hm : X.mg "len" = none) : JE Y M sc W X (.Call (.Name "len" p) [e] [] pos) (fun env => .ok (.int ns.length) env) ⟨[], [], [], true⟩ := by
  refine ⟨by simp, _, pe_callB call_len_seq hg hm (by decide +kernel) (pa_cons hx pa_nil hs) (by decide) (by decide) (he := hs), fun σ H env Q F Tb h => ?_⟩
  obtain ⟨a, h1, h2, h3⟩ := F.scr ns hsc
  have h : VP Y M sc ⟨[], [], [], true⟩ σ H Q (.int ns.length) env := h
  refine ⟨V.ref a, h1, a, ns.map V.int, rfl, .inl (hK ▸ h2.sq), ?_⟩
  rw [List.length_map]
  exact h _ H F .refl (Rp.of (F := FX M [] σ) (d := .int _) rfl) (fun _ _ z => by cases z)
end
end VF
set_option Elab.async false
set_option maxRecDepth 100000
set_option maxHeartbeats 4000000
namespace VF
open PySem PySem.Spec PyProof.Rows L2

/-! ### which slots an expression changes -/
def Same (l : List Nat) (env e1 : Env) : Prop := e1.length = env.length ∧ ∀ i, i ∉ l → e1[i]? = env[i]?
theorem Same.refl {l env} : Same l env env := ⟨rfl, fun _ _ => rfl⟩
theorem Same.trans {l env e1 e2} (a : Same l env e1) (b : Same l e1 e2) : Same l env e2 := ⟨b.1.trans a.1, fun i h => (b.2 i h).trans (a.2 i h)⟩
theorem Same.sub {l l' env e1} (a : Same l env e1) (h : ∀ i, i ∈ l → i ∈ l') : Same l' env e1 := ⟨a.1, fun i hi => a.2 i fun z => hi (h i z)⟩
/-- f changes the slots at l alone -/
def SFr {α : Type} (l : List Nat) (f : Env → Out α) : Prop := ∀ env a e1, f env = .ok a e1 → Same l env e1
theorem bind_ok {α β : Type} {m : Out α} {f : α → Env → Out β} {b : β} {e : Env} (h : m.bind f = .ok b e) : ∃ a e1, m = .ok a e1 ∧ f a e1 = .ok b e := by
  cases m with
  | ok a e1 => exact ⟨a, e1, rfl, h⟩
  | exc _ _ => cases h
  | bad => cases h
theorem lift_ok {α : Type} {o : Option α} {a : α} {e e1 : Env} (h : VF.lift o e = .ok a e1) : o = some a ∧ e1 = e := by
  cases o with
  | none => cases h
  | some b => cases h; exact ⟨rfl, rfl⟩
theorem SFr.bind {α β : Type} {l : List Nat} {f : Env → Out α} {g : α → Env → Out β} (hf : SFr l f) (hg : ∀ a, SFr l (g a)) : SFr l fun env => (f env).bind g := fun env b e h => by
  obtain ⟨a, e1, h1, h2⟩ := bind_ok h
  exact (hf env a e1 h1).trans (hg a e1 b e h2)
theorem SFr.sub {α : Type} {l l' : List Nat} {f : Env → Out α} (hf : SFr l f) (h : ∀ i, i ∈ l → i ∈ l') : SFr l' f := fun env a e1 q => (hf env a e1 q).sub h
theorem SFr.lift {α : Type} {l : List Nat} {o : Env → Option α} : SFr l (fun env => VF.lift (o env) env) := fun env a e1 h => by
  obtain ⟨_, rfl⟩ := lift_ok h
  exact .refl
theorem SFr.nox {α : Type} {l : List Nat} {f : Env → Out α} (hf : SFr l f) : SFr l fun env => (f env).nox := fun env a e1 h => by
  refine hf env a e1 ?_
  revert h
  show (f env).nox = _ → _
  cases f env <;> intro h <;> first | exact h | cases h
theorem SFr.pure {α : Type} {l : List Nat} {a : α} : SFr l (fun env => .ok a env) := fun env a e1 h => by cases h; exact .refl
theorem SFr.bad {α : Type} {l : List Nat} : SFr l (fun _ : Env => (.bad : Out α)) := fun env a e1 h => by cases h
theorem setsV_same (is : List Nat) (ds : List PyData) (env : Env) : Same is env (setsV env is ds) := ⟨setsV_len is ds env, fun i h => setsV_ne is ds env h⟩
theorem callS_same {sig : Str → Option Sig} {cs : Calls} {f : Str} {rs : List Nat} {ds : List PyData} : SFr rs (fun e => callS sig cs f rs ds e) := fun env a e1 h => by
  unfold callS at h
  try dsimp only at h
  split at h
  · split at h
    · unfold callD at h
      try dsimp only at h
      split at h
      · cases h
      · split at h
        · cases h; exact setsV_same _ _ _
        · cases h
        · cases h
    · cases h
  · cases h
theorem backE_same {own : List Nat} {env e1 : Env} {l : List Nat} (h : Same (own ++ l) env e1) : Same l env (backE env e1 own) := by
  refine ⟨by rw [backE_len]; exact h.1, fun i hi => ?_⟩
  by_cases q : i ∈ own
  · by_cases hl : i < env.length
    · have : ∀ (vs : List Nat), i ∈ vs → (backE env e1 vs)[i]? = env[i]? := by
        intro vs
        induction vs with
        | nil => intro z; cases z
        | cons v vs ih =>
          intro z
          unfold backE
          by_cases qq : v = i
          · subst qq
            rw [List.getElem?_set_self (by rw [backE_len, h.1]; exact hl), List.getElem?_eq_getElem hl]
            simp
          · rw [List.getElem?_set_ne qq]
            exact ih ((List.mem_cons.mp z).resolve_left (Ne.symm qq))
      exact this own q
    · rw [List.getElem?_eq_none (by rw [backE_len, h.1]; omega), List.getElem?_eq_none (by omega)]
  · rw [backE_out q]
    exact h.2 i fun z => (List.mem_append.mp z).elim q hi
theorem wipe_same {own : List Nat} {env : Env} : Same own env (wipeE env own) := ⟨wipeE_len _, fun i h => wipeE_out h⟩
theorem tgSet_same {tg : Tg} {d : PyData} {env e1 : Env} (h : tgSet tg d env = some e1) : Same (tgI tg) env e1 := by
  cases tg with
  | n i =>
    cases h
    refine ⟨by simp [setV], fun j hj => ?_⟩
    unfold setV
    rw [List.getElem?_set_ne fun z => hj (by rw [z]; simp [tgI])]
  | t is =>
    cases d <;> simp only [tgSet] at h <;> try (cases h; done)
    all_goals
      split at h
      · cases h; exact setsV_same _ _ _
      · cases h
theorem compL_same {tg : Tg} {own l : List Nat} {c : Env → Out Bool} {g : Env → Out PyData} (hc : SFr l c) (hg : SFr l g) (ht : ∀ i, i ∈ tgI tg → i ∈ own ∨ i ∈ l) {env0 : Env} : ∀ (ds : List PyData) (env : Env), Same l env0 env → ∀ ys e, compL tg own c g env0 ds env = .ok ys e → Same l env0 e
  | [], env, h, ys, e, q => by cases q; exact h
  | d :: ds, env, h, ys, e, q => by
    unfold compL at q
    have step : ∀ {e2 : Env}, Same (own ++ l) env e2 → Same l env0 (backE env0 e2 own) := fun {e2} s2 => backE_same ((h.sub fun i hi => List.mem_append_right _ hi).trans s2)
    split at q
    · cases q
    · rename_i e1 he1
      have s1 : Same (own ++ l) env e1 := (wipe_same.sub fun i hi => List.mem_append_left _ hi).trans ((tgSet_same he1).sub fun i hi => (ht i hi).elim (fun z => List.mem_append_left _ z) fun z => List.mem_append_right _ z)
      split at q
      · rename_i e2 he2
        have s2 := s1.trans ((hc _ _ _ he2).sub fun i hi => List.mem_append_right _ hi)
        split at q
        · rename_i y e3 he3
          have s3 := s2.trans ((hg _ _ _ he3).sub fun i hi => List.mem_append_right _ hi)
          obtain ⟨ys', e4, q1, q2⟩ := bind_ok q
          cases q2
          exact compL_same hc hg ht ds _ (step s3) _ _ q1
        · cases q
      · rename_i e2 he2
        have s2 := s1.trans ((hc _ _ _ he2).sub fun i hi => List.mem_append_right _ hi)
        exact compL_same hc hg ht ds _ (step s2) _ _ q
      · cases q
theorem mr {l l' : List Nat} : ∀ i, i ∈ l' → i ∈ l ++ l' := fun _ h => List.mem_append_right _ h
theorem ml {l l' : List Nat} : ∀ i, i ∈ l → i ∈ l ++ l' := fun _ h => List.mem_append_left _ h
theorem mm {l l' l'' : List Nat} : ∀ i, i ∈ l' → i ∈ l ++ (l' ++ l'') := fun i h => mr i (ml i h)
theorem mrr {l l' l'' : List Nat} : ∀ i, i ∈ l'' → i ∈ l ++ (l' ++ l'') := fun i h => mr i (mr i h)
section
variable (C : Cfg) (cs : Calls)
mutual
theorem ev_same : ∀ x : E, SFr (muE x) (ev C cs x)
  | .v i => SFr.lift
  | .int _ => SFr.pure
  | .bl _ => SFr.pure
  | .str _ => SFr.pure
  | .non => SFr.pure
  | .glob _ => SFr.lift
  | .tup es => SFr.bind (evs_same es) fun a => by split <;> first | exact SFr.pure | exact SFr.bad
  | .lst es => SFr.bind (evs_same es) fun a => by split <;> first | exact SFr.pure | exact SFr.bad
  | .bin _ a b => SFr.bind ((ev_same a).sub ml) fun x => SFr.bind ((ev_same b).sub mr) fun y => SFr.lift
  | .neg a => SFr.bind (ev_same a) fun x => by cases x <;> first | exact SFr.pure | exact SFr.bad
  | .cmp _ a b => SFr.bind ((ev_same a).sub ml) fun x => SFr.bind ((ev_same b).sub mr) fun y => SFr.bind SFr.lift fun k => SFr.pure
  | .isc _ a _ => SFr.bind (ev_same a) fun x => SFr.pure
  | .chain _ _ a b c => SFr.bind ((ev_same a).sub ml) fun x => SFr.bind ((ev_same b).sub mm) fun y => SFr.bind SFr.lift fun k => by
      cases k
      · exact SFr.pure
      · exact SFr.bind ((ev_same c).sub mrr) fun z => SFr.bind SFr.lift fun k => SFr.pure
  | .not a => SFr.bind (ev_same a) fun x => SFr.bind SFr.lift fun k => SFr.pure
  | .one _ a => ev_same a
  | .bop o a b => SFr.bind ((ev_same a).sub ml) fun x => SFr.bind SFr.lift fun k => by
      by_cases h : k = o
      · simp only [h, if_true]; exact (ev_same b).sub mr
      · simp only [h, if_false]; exact SFr.pure
  | .ite c a b => SFr.bind ((ev_same c).sub ml) fun x => SFr.bind SFr.lift fun k => by
      cases k
      · exact (ev_same b).sub mrr
      · exact (ev_same a).sub mm
  | .idx a b => SFr.bind ((ev_same a).sub ml) fun x => SFr.bind ((ev_same b).sub mr) fun y => SFr.lift
  | .sl a lo hi => SFr.bind ((ev_same a).sub ml) fun x => SFr.bind ((evO_same lo).sub mm) fun y => SFr.bind ((evO_same hi).sub mrr) fun z => SFr.lift
  | .rev a => SFr.bind (ev_same a) fun x => by cases x <;> first | exact SFr.pure | exact SFr.bad
  | .toL it => SFr.bind (evIt_same it) fun x => SFr.pure
  | .toT it => SFr.bind (evIt_same it) fun x => SFr.pure
  | .call f rs es => SFr.bind SFr.lift fun _ => SFr.bind ((evs_same es).sub mr) fun ds => callS_same.sub ml
  | .callk f ks es => SFr.bind (evs_same es) fun ds => by
      cases C.sig f with
      | none => exact SFr.bad
      | some s =>
        cases h : kperm s.ps ks ds with
        | none => simp only [h]; exact SFr.bad
        | some xs => simp only [h]; exact callS_same.sub fun i hi => by cases hi
  | .bi _ a => SFr.bind (ev_same a) fun x => SFr.lift
  | .bi2 _ a b => SFr.bind ((ev_same a).sub ml) fun x => SFr.bind ((ev_same b).sub mr) fun y => SFr.lift
  | .pop i a => SFr.bind SFr.lift fun _ => SFr.bind ((ev_same a).sub fun j hj => List.mem_cons_of_mem _ hj) fun x => fun env d e1 h => by
      try dsimp only at h
      split at h
      · split at h
        · split at h
          · split at h
            · cases h
              exact (setsV_same [i] [_] env).sub fun j hj => by rw [List.mem_singleton.mp hj]; exact List.mem_cons_self
            · cases h
          · cases h
        · cases h
      · cases h
  | .index a b => SFr.bind ((ev_same a).sub ml) fun x => SFr.bind SFr.lift fun ns => SFr.bind ((ev_same b).sub mr) fun y => by
      cases y <;> first | exact SFr.bad | (dsimp only; split <;> first | exact SFr.pure | exact SFr.bad)
  | .setop _ a b => SFr.bind ((ev_same a).sub ml) fun x => SFr.bind SFr.lift fun ns => SFr.bind ((ev_same b).sub mr) fun y => SFr.lift
  | .starts a b => SFr.bind ((ev_same a).sub ml) fun x => SFr.bind ((ev_same b).sub mr) fun y => by
      cases x <;> cases y <;> first | exact SFr.pure | exact SFr.bad
  | .sortset a => SFr.bind (ev_same a) fun x => SFr.lift
  | .stake n => SFr.pure
  | .shd => SFr.pure
  | .slen => SFr.pure
  | .maxk a r df => SFr.bind SFr.lift fun rk => SFr.bind (ev_same a) fun x => SFr.lift
  | .comp tg own it c g => SFr.bind ((evIt_same it).sub ml) fun ds => fun env d e1 h => by
      obtain ⟨ys, e2, h1, h2⟩ := bind_ok h
      split at h2
      · cases h2
        refine (compL_same (l := muO c ++ (muE g ++ (tgI tg).filter fun i => !own.contains i)) ((evC_same c).sub ml) ((ev_same g).sub mm) (fun i hi => ?_) ds env .refl _ _ h1).sub mr
        by_cases q : i ∈ own
        · exact .inl q
        · exact .inr (mrr i (List.mem_filter.mpr ⟨hi, by simpa using q⟩))
      · cases h2
  | .fstr es => SFr.bind (evs_same es).nox fun ds => SFr.bind SFr.lift fun s => SFr.pure
theorem evO_same : ∀ x : Eo, SFr (muO x) (evO C cs x)
  | .no => SFr.pure
  | .y e => SFr.bind (ev_same e) fun x => SFr.bind SFr.lift fun i => SFr.pure
theorem evC_same : ∀ x : Eo, SFr (muO x) (evC C cs x)
  | .no => SFr.pure
  | .y e => SFr.bind (ev_same e) fun x => SFr.lift
theorem evIt_same : ∀ x : VF.It, SFr (muI x) (evIt C cs x)
  | .seq e => SFr.bind (ev_same e) fun x => SFr.lift
  | .enum e => SFr.bind (ev_same e) fun x => SFr.lift
  | .rng1 a => SFr.bind (ev_same a) fun x => by cases x <;> first | exact SFr.bad | (dsimp only; split <;> first | exact SFr.pure | exact SFr.bad)
  | .rng2 a b => SFr.bind ((ev_same a).sub ml) fun x => SFr.bind ((ev_same b).sub mr) fun y => by cases x <;> cases y <;> first | exact SFr.bad | (dsimp only; split <;> first | exact SFr.pure | exact SFr.bad)
theorem evs_same : ∀ x : Es, SFr (muEs x) (evs C cs x)
  | .nil => SFr.pure
  | .cons a es => SFr.bind ((ev_same a).sub ml) fun x => SFr.bind ((evs_same es).sub mr) fun xs => SFr.pure
end
end
end VF
set_option Elab.async false
set_option maxRecDepth 100000
set_option maxHeartbeats 4000000
namespace VF
open PySem PySem.Spec PyProof.Rows L2

/-! ### what stays through statements -/
def Own (M : MM) (σ : L2.St) (G0 : Addr → Prop) (H0 : Hp) : Prop := ∀ a i, M i = true → σ[i]? = some (some (.ref a)) → G0 a ∨ Nw H0 a
structure Tr (T : List (Addr × Str)) (M : MM) (nr : Nat) (σ : L2.St) (H : Hp) (σ' : L2.St) (H' : Hp) : Prop where
  ref : ∀ i, i < nr → σ'[i]? = σ[i]?
  go : ∀ (H0 : Hp) (G0 : Addr → Prop), Kp T G0 H0 H → Own M σ G0 H0 → Kp T G0 H0 H' ∧ Own M σ' G0 H0
section
variable {T : List (Addr × Str)} {M : MM} {nr : Nat} {σ σ' σ2 : L2.St} {H H' H2 : Hp}
theorem Tr.refl : Tr T M nr σ H σ H := ⟨fun _ _ => rfl, fun _ _ k o => ⟨k, o⟩⟩
theorem Tr.trans (a : Tr T M nr σ H σ' H') (b : Tr T M nr σ' H' σ2 H2) : Tr T M nr σ H σ2 H2 :=
  ⟨fun i h => (b.ref i h).trans (a.ref i h), fun H0 G0 k o => let ⟨k1, o1⟩ := a.go H0 G0 k o; b.go H0 G0 k1 o1⟩
theorem Kp.own {mu : List Nat} {G0 : Addr → Prop} {H0 : Hp} (k0 : Kp T G0 H0 H) (o : Own M σ G0 H0) (k : Kp T (FL mu σ) H H') (mM : ∀ i ∈ mu, M i = true) : Kp T G0 H0 H' := by
  refine ⟨fun b u e n nt => k.keep b u (k0.keep b u e n nt) (fun z => ?_) nt, fun t => k.tabs (k0.tabs t)⟩
  obtain ⟨i, h1, h2⟩ := z
  rcases o b i (mM i h1) h2 with q | q
  · exact n q
  · obtain ⟨ps, q⟩ := q u e
    exact nt ps q
theorem Tr.exp {mu : List Nat} (k : Kp T (FL mu σ) H H') (mM : ∀ i ∈ mu, M i = true) : Tr T M nr σ H σ H' := ⟨fun _ _ => rfl, fun _ _ k0 o => ⟨k0.own o k mM, o⟩⟩
theorem Tr.other (h : ∀ i, M i = true → σ'[i]? = σ[i]?) (hr : ∀ i, i < nr → M i = true) : Tr T M nr σ H σ' H :=
  ⟨fun i hi => h i (hr i hi), fun H0 G0 k0 o => ⟨k0, fun a i m e => o a i m (by rw [← h i m]; exact e)⟩⟩
theorem Nw.old {G0 : Addr → Prop} {H0 : Hp} {a : Addr} (k0 : Kp T G0 H0 H) (n : Nw H a) : G0 a ∨ Nw H0 a := by
  by_cases g : G0 a
  · exact .inl g
  · refine .inr fun o e => ?_
    by_cases t : ∃ ps, o = .tbl ps
    · exact t
    · exact n o (k0.keep a o e g fun ps z => t ⟨ps, z⟩)
theorem Tr.newM {mu : List Nat} {i : Nat} {a : Addr} (k : Kp T (FL mu σ) H H') (mM : ∀ i ∈ mu, M i = true) (n : Nw H a) (hi : nr ≤ i) : Tr T M nr σ H (σ.set i (some (.ref a))) H' := by
  refine ⟨fun j hj => by rw [List.getElem?_set_ne (by omega)], fun H0 G0 k0 o => ⟨k0.own o k mM, fun b j m e => ?_⟩⟩
  by_cases q : i = j
  · subst q
    by_cases hl : i < σ.length
    · rw [List.getElem?_set_self hl] at e
      cases e
      exact Nw.old k0 n
    · rw [List.getElem?_eq_none (by simpa using hl)] at e; cases e
  · rw [List.getElem?_set_ne q] at e
    exact o b j m e
end
/-- lists that are not this def's to hand on -/
def RF (M : MM) (nr : Nat) (σ : L2.St) : Addr → Prop := fun a => M.g a ∨ ∃ i, i < nr ∧ σ[i]? = some (some (.ref a))
structure RetOk (Y : Sys) (M : MM) (nr : Nat) (fr : Bool) (σ : L2.St) (H : Hp) (σ' : L2.St) (H' : Hp) (d : PyData) (v : V) : Prop where
  rep : Rep Y.K (RF M nr σ') H' d v
  fre : fr = true → ∀ (H0 : Hp) (G0 : Addr → Prop), Kp Y.T G0 H0 H → Own M σ G0 H0 → ∀ xs, d = .list xs → ∃ a vs, v = .ref a ∧ (G0 a ∨ Nw H0 a) ∧ (∀ i, i < nr → σ'[i]? ≠ some (some (.ref a))) ∧ H' a = some (.lst vs) ∧ Reps Y.K (Fadd (RF M nr σ') a) H' xs vs
def POs (Y : Sys) (M : MM) (sc : SC) (W : WX) (nr : Nat) (fr : Bool) (σ : L2.St) (H : Hp) (D : Ends) : Out Flw → Prop
  | .bad => False
  | .ok .nx e => ∀ σ' H', Fi Y.K M sc σ' H' e → Tr Y.T M nr σ H σ' H' → D.nx σ' H'
  | .ok (.ret d) e => ∀ v σ' H', Fi Y.K M sc σ' H' e → Tr Y.T M nr σ H σ' H' → RetOk Y M nr fr σ H σ' H' d v → D.rt v H'
  | .exc x e => ∀ cls dd σ' H', Fi Y.K M sc σ' H' e → Tr Y.T M nr σ H σ' H' → ExRo Y x cls dd H' → W cls dd σ' H'
section
variable (Y : Sys) (M : MM) (sc : SC) (W : WX) (nr : Nat) (fr : Bool) (X : Cx)
def JSt (t : TS) (f : Env → Out Flw) : Prop := ∀ D σ H env, Fi Y.K M sc σ H env → LamX.Tabs Y.T H → POs Y M sc W nr fr σ H D (f env) → t D σ H
def JS (s : Stmt) (f : Env → Out Flw) : Prop := ∃ t, PS X s t ∧ JSt Y M sc W nr fr t f
def JSs (s : List Stmt) (f : Env → Out Flw) : Prop := ∃ t, PSs X s t ∧ JSt Y M sc W nr fr t f
end
section
variable {Y : Sys} {M : MM} {sc : SC} {W : WX} {nr : Nat} {fr : Bool} {X : Cx} {σ σ1 : L2.St} {H H1 : Hp} {D : Ends} {k : Nat}
variable {e a b c : Expr} {f g h : Env → Out PyData} {fs : Env → Out (List PyData)} {za zb zc : St} {p pos : Pos} {ma mb oa ob mc : List Nat} {s : Stmt} {fS gS : Env → Out Flw} {env : Env}
theorem RetOk.to {σ' : L2.St} {H' : Hp} {d : PyData} {v : V} (r : RetOk Y M nr fr σ1 H1 σ' H' d v) (t : Tr Y.T M nr σ H σ1 H1) : RetOk Y M nr fr σ H σ' H' d v :=
  ⟨r.rep, fun hf H0 G0 k o => let ⟨k1, o1⟩ := t.go H0 G0 k o; r.fre hf H0 G0 k1 o1⟩
theorem POs.to {o : Out Flw} (h : POs Y M sc W nr fr σ H D o) (t : Tr Y.T M nr σ H σ1 H1) : POs Y M sc W nr fr σ1 H1 D o := by
  cases o with
  | bad => exact h
  | exc x e => exact fun cls dd σ' H' F t' r => h cls dd σ' H' F (t.trans t') r
  | ok fl e =>
    cases fl with
    | nx => exact fun σ' H' F t' => h σ' H' F (t.trans t')
    | ret d => exact fun v σ' H' F t' r => h v σ' H' F (t.trans t') (r.to t)
/-- a statement that begins with an expression -/
theorem POs.expr {α : Type} {P : α → Env → Prop} {mu : List Nat} {m : Out α} {gg : α → Env → Out Flw} (mM : ∀ i ∈ mu, M i = true) (h : POs Y M sc W nr fr σ H D (m.bind gg)) (hP : ∀ d e1, m = .ok d e1 → POs Y M sc W nr fr σ H D (gg d e1) → P d e1) : PO Y M sc W mu σ H P m := by
  cases m with
  | bad => exact h
  | ok d e1 => exact hP d e1 rfl h
  | exc x e1 => exact fun cls dd H' F k r => h cls dd σ H' F (.exp k mM) r

/-! ### sequences -/
theorem jss_nil : JSs Y M sc W nr fr X [] (fun env => .ok .nx env) := ⟨_, pss_nil, fun D σ H env F Tb h => h σ H F .refl⟩
def evSeq (fS gS : Env → Out Flw) (env : Env) : Out Flw := (fS env).bind fun f e => (match f with
    | .nx => gS e
    | .ret d => .ok (.ret d) e)
/-- tables stay -/
theorem Tr.tabs {σ' : L2.St} {H' : Hp} (t : Tr Y.T M nr σ H σ' H') (F : Fi Y.K M sc σ H env) (Tb : LamX.Tabs Y.T H) : LamX.Tabs Y.T H' := (t.go H (fun a => ∃ i, M i = true ∧ σ[i]? = some (some (.ref a))) .refl (fun a i m e => .inl ⟨i, m, e⟩)).1.tabs Tb
theorem jss_cons {rest : List Stmt} (h1 : JS Y M sc W nr fr X s fS) (h2 : JSs Y M sc W nr fr X rest gS) : JSs Y M sc W nr fr X (s :: rest) (evSeq fS gS) := by
  obtain ⟨t, p1, j1⟩ := h1
  obtain ⟨u, p2, j2⟩ := h2
  refine ⟨_, pss_cons p1 p2, fun D σ H env F Tb h => ?_⟩
  refine j1 { D with nx := u D } σ H env F Tb ?_
  unfold evSeq at h
  cases q : fS env with
  | bad => rw [q] at h; exact h
  | exc x e => rw [q] at h; exact h
  | ok fl e =>
    rw [q] at h
    cases fl with
    | nx => exact fun σ' H' F' t' => j2 D σ' H' e F' (t'.tabs F Tb) (POs.to (show POs Y M sc W nr fr σ H D (gS e) from h) t')
    | ret d => exact h

/-! ### name = e -/
/-- an expression for a name's value -/
def JAs (Y : Sys) (M : MM) (sc : SC) (W : WX) (X : Cx) (i : Nat) (x : Str) (p pos : Pos) (e : Expr) (f : Env → Out PyData) (z : St) : Prop := (∀ i ∈ z.mu, M i = true) ∧ ∃ t, PS X (.Assign [.Name x p] e pos) (tAsg t (gName i)) ∧ JEt Y M sc W t f z
theorem jas_je {i : Nat} {x : Str} (hN : X.N.Nodup) (hi : X.N[i]? = some x) (hx : Loc X.env.scope x) (hf : X.fn x = true ∨ X.env.scope.names.lookup x = some .local) (hs : swapsWith e (some (.Name x p)) pos.line X.env = pure false) (ja : JE Y M sc W X e f za) : JAs Y M sc W X i x p pos e f za :=
  let ⟨am, t, pa, j⟩ := ja; ⟨am, t, ps_set hN hi hx pa hs hf, j⟩
theorem FL_M {mu : List Nat} (mM : ∀ i ∈ mu, M i = true) : ∀ a, FL mu σ a → FX M [] σ a := fun a ⟨i, h1, h2⟩ => .inr ⟨i, mM i h1, by simp, h2⟩
theorem own1 {i : Nat} (h : ownOk M.m sc [i] = true) : M i = false ∧ ¬ fx sc i := by
  simp only [ownOk, List.all_cons, List.all_nil, Bool.and_true, Bool.and_eq_true, Bool.not_eq_true'] at h
  exact ⟨h.1, frS_fx h.2⟩
theorem js_asg {i : Nat} {x : Str} (hr : ∀ j, j < nr → M j = true) (ho : ownOk M.m sc [i] = true) (hc : za.oc = []) (hi : za.oi = []) (ja : JAs Y M sc W X i x p pos e f za) :
    JS Y M sc W nr fr X (.Assign [.Name x p] e pos) (fun env => (f env).bind fun d e1 => .ok .nx (setV e1 i d)) := by
  obtain ⟨am, t, pa, ja⟩ := ja
  obtain ⟨h1, h2⟩ := own1 ho
  refine ⟨_, pa, fun D σ H env F Tb h => ?_⟩
  refine ja σ H env _ F Tb (h.expr am fun d e1 _ q => ?_)
  intro v H' F1 k1 r1 _
  rw [hc, hi] at r1
  exact q _ H' (F1.set h1 h2 (Rp.rep r1 fun _ z => z)) ((Tr.exp k1 am).trans (.other (fun j mj => by rw [List.getElem?_set_ne (fun z => by rw [← z, h1] at mj; cases mj)]) hr))
theorem flat_reps {K : PySem.W.Frag} {F F' : Addr → Prop} {H H' : Hp} : ∀ {ds : List PyData} {vs : List V}, ds.all flat = true → Reps K F H ds vs → Reps K F' H' ds vs
  | [], _, _, r => r
  | y :: ys, _, h, r => by
    obtain ⟨v, vr, ev, r1, r2⟩ := r
    simp only [List.all_cons, Bool.and_eq_true] at h
    refine ⟨v, vr, ev, ?_, flat_reps h.2 r2⟩
    have := h.1
    cases y <;> first | exact r1 | cases this
/-- a list of its own comes to a slot -/
theorem Fi.setM {i : Nat} {q : Addr} {vs : List V} {ds : List PyData} {mu : List Nat} {e1 : Env} (F : Fi Y.K M sc σ H env) (F1 : Fi Y.K M sc σ H1 e1) (k : Kp Y.T (FL mu σ) H H1) (mM : ∀ i ∈ mu, M i = true) (sm : Same mu env e1) (fl : ∀ j ∈ mu, flatAt e1 j = true)
    (m : M i = true) (h0 : ¬ fx sc i) (n : Nw H q) (hq : H1 q = some (.lst vs)) (r : Reps Y.K (Fadd (FX M [] σ) q) H1 ds vs) : Fi Y.K M sc (σ.set i (some (.ref q))) H1 (setV e1 i (.list ds)) := by
  have kx : Keep (Fadd (FX M [] σ) q) H H1 := k.keep.mono fun a z => .inl (FL_M mM a z)
  have fx : ∀ a, FX M [] (σ.set i (some (.ref q))) a → Fadd (FX M [] σ) q a := fun a z => by
    rcases z with g | ⟨j, z1, _, z3⟩
    · exact .inl (.inl g)
    · by_cases e : i = j
      · subst e
        by_cases hl : i < σ.length
        · rw [List.getElem?_set_self hl] at z3
          cases z3
          exact .inr rfl
        · rw [List.getElem?_eq_none (by simpa using hl)] at z3; cases z3
      · rw [List.getElem?_set_ne e] at z3
        exact .inl (.inr ⟨j, z1, by simp, z3⟩)
  -- no other slot has the list
  have nq : ∀ j, M j = true → σ[j]? ≠ some (some (.ref q)) := fun j mj e => by
    obtain ⟨xs, us, _, hh⟩ := F.lst mj e
    obtain ⟨ps, z⟩ := n _ hh
    cases z
  refine ⟨by simp [setV, F1.len], fun j d e mj => ?_, fun j d e mj => ?_, fun j mj e => ?_, fun j j' b mj mj' e e' => ?_, fun b g => F1.gin b g, fun j b mj e => ?_, fun ns e => ?_, fun j b e => ⟨by rw [List.getElem?_set_ne (fun z => h0 (by rw [z]; exact .inr ⟨b, e⟩))]; exact (F.exn j b e).1, (F.exn j b e).2⟩⟩
  · have hne : i ≠ j := fun z => by rw [← z, m] at mj; cases mj
    unfold setV at e
    rw [List.getElem?_set_ne hne] at e
    have hj : j ∉ mu := fun z => by rw [mM j z] at mj; cases mj
    have e0 : env[j]? = some (some d) := by rw [← sm.2 j hj]; exact e
    obtain ⟨v, g1, g2⟩ := F.val j d e0 mj
    exact ⟨v, by rw [List.getElem?_set_ne hne]; exact g1, Rep.weak fx _ _ (Rep.keep kx _ _ (Rep.add n _ _ g2))⟩
  · unfold setV at e
    by_cases hne : i = j
    · subst hne
      have hl : i < e1.length := by
        have := (List.getElem?_eq_some_iff.mp e).1
        simpa using this
      rw [List.getElem?_set_self hl] at e
      cases e
      exact ⟨q, vs, ds, by rw [List.getElem?_set_self (by rw [← F1.len]; exact hl)], rfl, hq, Reps.weak fx _ _ r⟩
    · rw [List.getElem?_set_ne hne] at e
      obtain ⟨a, vs', xs, g1, g2, g3, g4⟩ := F1.mt j d e mj
      refine ⟨a, vs', xs, by rw [List.getElem?_set_ne hne]; exact g1, g2, g3, ?_⟩
      by_cases hj : j ∈ mu
      · have := fl j hj
        unfold flatAt at this
        rw [show getV e1 j = some d by unfold getV; rw [e]; rfl, g2] at this
        dsimp only at this
        exact flat_reps this g4
      · have e0 : env[j]? = some (some d) := by rw [← sm.2 j hj]; exact e
        obtain ⟨a0, vs0, xs0, f1, f2, f3, f4⟩ := F.mt j d e0 mj
        rw [g1] at f1
        cases f1
        rw [g2] at f2
        cases f2
        have : H1 a = some (.lst vs0) := k.keep a _ f3 (fun z => by
          obtain ⟨j', j1, j2⟩ := z
          exact hj (by rw [F.inj j j' a mj (mM j' j1) g1 j2]; exact j1)) (fun ps z => by cases z)
        rw [g3] at this
        cases this
        exact Reps.weak fx _ _ (Reps.keep kx _ _ (Reps.add n _ _ f4))
  · unfold setV at e
    by_cases hne : i = j
    · subst hne
      by_cases hl : i < e1.length
      · rw [List.getElem?_set_self hl] at e; cases e
      · rw [List.getElem?_eq_none (by simpa using hl)] at e; cases e
    · rw [List.getElem?_set_ne hne] at e
      rw [List.getElem?_set_ne hne]
      exact F1.un j mj e
  · have pick1 : ∀ {j}, M j = true → (σ.set i (some (.ref q)))[j]? = some (some (.ref b)) → (i = j ∧ b = q) ∨ (i ≠ j ∧ σ[j]? = some (some (.ref b))) := fun {j} mj e => by
      by_cases hne : i = j
      · subst hne
        by_cases hl : i < σ.length
        · rw [List.getElem?_set_self hl] at e
          cases e
          exact .inl ⟨rfl, rfl⟩
        · rw [List.getElem?_eq_none (by simpa using hl)] at e; cases e
      · rw [List.getElem?_set_ne hne] at e
        exact .inr ⟨hne, e⟩
    rcases pick1 mj e with ⟨a1, a2⟩ | ⟨a1, a2⟩ <;> rcases pick1 mj' e' with ⟨b1, b2⟩ | ⟨b1, b2⟩
    · rw [← a1, ← b1]
    · subst a2; exact absurd b2 (nq j' mj')
    · subst b2; exact absurd a2 (nq j mj)
    · exact F.inj j j' b mj mj' a2 b2
  · by_cases hne : i = j
    · subst hne
      by_cases hl : i < σ.length
      · rw [List.getElem?_set_self hl] at e
        cases e
        intro g
        obtain ⟨us, hh⟩ := F.gin q g
        obtain ⟨ps, z⟩ := n _ hh
        cases z
      · rw [List.getElem?_eq_none (by simpa using hl)] at e; cases e
    · rw [List.getElem?_set_ne hne] at e
      exact F.gno j b mj e
  · obtain ⟨a, g1, g2, g3⟩ := F.scr ns e
    exact ⟨a, by rw [List.getElem?_set_ne (fun z => h0 (by rw [z]; exact .inl ⟨by rw [e]; simp, rfl⟩))]; exact g1, (g2.add n).keep kx |>.weak fx, g3⟩
theorem js_asgM {i : Nat} {x : Str} {mu : List Nat} (hf : SFr mu f) (mM : ∀ j ∈ mu, M j = true) (hmu : ∀ j ∈ za.mu, j ∈ mu) (m : M i = true) (hi : nr ≤ i) (h0 : ¬ fx sc i) (hfr : za.fr = true) (hoi : za.oi = []) (ja : JAs Y M sc W X i x p pos e f za) :
    JS Y M sc W nr fr X (.Assign [.Name x p] e pos) (fun env => (f env).bind fun d e1 => match d with
    | .list _ => if mu.all (flatAt e1) then .ok .nx (setV e1 i d) else .bad
    | _ => .bad) := by
  obtain ⟨am, t, pa, ja⟩ := ja
  refine ⟨_, pa, fun D σ H env F Tb h => ?_⟩
  refine ja σ H env _ F Tb (h.expr am fun d e1 ed q => ?_)
  intro v H' F1 k1 r1 f1
  cases d <;> try exact q.elim
  rename_i ds
  dsimp only at q
  by_cases ha : mu.all (flatAt e1) = true
  · rw [if_pos ha] at q
    obtain ⟨a, vs, rfl, n, hl, r⟩ := f1 hfr ds rfl
    rw [hoi] at r
    have k2 : Kp Y.T (FL mu σ) H H' := k1.mono fun a z => z.sub hmu
    exact q _ H' (F.setM F1 k2 mM (hf _ _ _ ed) (fun j hj => List.all_eq_true.mp ha j hj) m h0 n hl r) (.newM k2 mM n hi)
  · rw [if_neg ha] at q
    exact q.elim
/-- a new list of plain items -/
theorem jas_flat {i : Nat} {x : Str} (hfr : za.fr = true) (ja : JAs Y M sc W X i x p pos e f za) : JAs Y M sc W X i x p pos e (fun env => (f env).bind fun d e1 => if flatL d then .ok d e1 else .bad) ⟨za.mu, [], [], true⟩ := by
  obtain ⟨am, t, pa, ja⟩ := ja
  refine ⟨am, t, pa, fun σ H env Q F Tb h => ja σ H env Q F Tb (h.bind.imp fun d e1 h1 v H' F1 k1 r1 f1 => ?_)⟩
  by_cases hc : flatL d = true
  · rw [if_pos hc] at h1
    cases d <;> try (cases hc; done)
    rename_i ds
    have hc : ds.all flat = true := hc
    obtain ⟨a, vs, rfl, n, hl, r⟩ := f1 hfr ds rfl
    have nf : ¬ FX M [] σ a := by
      rintro (g | ⟨j, z1, _, z3⟩)
      · obtain ⟨us, hh⟩ := F.gin a g
        obtain ⟨ps, z⟩ := n _ hh
        cases z
      · obtain ⟨xs, us, _, hh⟩ := F.lst z1 z3
        obtain ⟨ps, z⟩ := n _ hh
        cases z
    exact h1 _ H' F1 k1 ⟨a, vs, rfl, ⟨nf, hl⟩, flat_reps hc r⟩ fun _ ds' e' => by cases e'; exact ⟨a, vs, rfl, n, hl, flat_reps hc r⟩
  · rw [if_neg hc] at h1
    exact h1.elim
/-- name += e, name -= e, of whole numbers -/
theorem js_augI {i : Nat} {x : Str} {p1 pos : Pos} {sub : Bool} (hN : X.N.Nodup) (hr : ∀ j, j < nr → M j = true) (ho : ownOk M.m sc [i] = true) (hi : X.N[i]? = some x) (hx : Loc X.env.scope x) (hf : X.fn x = true ∨ X.env.scope.names.lookup x = some .local) (ja : JE Y M sc W X e f za) :
    JS Y M sc W nr fr X (.AugAssign (.Name x p1) (if sub then .Sub else .Add) e pos) (fun env => (VF.lift (getI env i) env).bind fun a e0 => (f e0).bind fun y e1 => (VF.lift (augD sub a y) e1).bind fun z e2 => .ok .nx (setV e2 i z)) := by
  obtain ⟨am, t, pa, ja⟩ := ja
  obtain ⟨h1, h2⟩ := own1 ho
  have hop : PIp X (if sub then .Sub else .Add) (ipI fun i j => if sub then i - j else i + j) := by
    cases sub with
    | true => exact ip_sub
    | false => exact ip_add
  refine ⟨_, ps_aug hN hi hx pa hop hf, fun D σ H env F Tb h => ?_⟩
  dsimp only at h
  cases eg : getI env i with
  | none => rw [eg] at h; exact h.elim
  | some a =>
    rw [eg] at h
    have ev : getV env i = some (.int a) := by
      unfold getI at eg
      split at eg
      · rename_i z hz
        cases eg
        exact hz
      · cases eg
    obtain ⟨v, g1, g2⟩ := F.val i _ (getV_some ev) h1
    have g2 : v = .int a := g2
    subst g2
    refine ⟨_, g1, ?_⟩
    refine ja σ H env _ F Tb (POs.expr am (show POs Y M sc W nr fr σ H D (Out.bind _ _) from h) fun d e1 ed q => fun u H' F1 k1 r1 fz => ?_)
    cases d <;> try exact q.elim
    rename_i b
    have eu : u = .int b := rp_int r1
    subst eu
    have q : ∀ σ' H2, Fi Y.K M sc σ' H2 (setV e1 i (.int (if sub then a - b else a + b))) → Tr Y.T M nr σ H σ' H2 → D.nx σ' H2 := q
    refine ⟨a, b, rfl, rfl, ?_⟩
    exact q _ H' (F1.set h1 h2 rfl) ((Tr.exp k1 am).trans (.other (fun j mj => by rw [List.getElem?_set_ne (fun z => by rw [← z, h1] at mj; cases mj)]) hr))
end
end VF
set_option Elab.async false
set_option maxRecDepth 100000
set_option maxHeartbeats 4000000
namespace VF
open PySem PySem.Spec PyProof.Rows L2
section
variable {Y : Sys} {M : MM} {sc : SC} {W : WX} {nr : Nat} {fr : Bool} {X : Cx} {σ σ1 : L2.St} {H H1 : Hp} {D : Ends} {k : Nat}
variable {e a b c : Expr} {f g h : Env → Out PyData} {fs : Env → Out (List PyData)} {za zb zc : St} {p pos : Pos} {ma mb oa ob mc : List Nat} {s : Stmt} {fS gS : Env → Out Flw} {env : Env}
theorem nrM {m : Nat → Bool} {gg : Addr → Prop} (hr : ∀ j, j < nr → m j = true) : ∀ j, j < nr → (⟨m, gg⟩ : MM) j = true := hr

/-! ### small ones -/
theorem js_pass : JS Y M sc W nr fr X (.Pass pos) (fun env => .ok .nx env) := ⟨_, ps_pass, fun D σ H env F Tb h => h σ H F .refl⟩
theorem js_expr (hs : swapsWith e none pos.line X.env = pure false) (ja : JE Y M sc W X e f za) : JS Y M sc W nr fr X (.Expr e pos) (fun env => (f env).bind fun _ e1 => .ok .nx e1) := by
  obtain ⟨am, t, pa, ja⟩ := ja
  refine ⟨_, ps_expr pa hs, fun D σ H env F Tb h => ?_⟩
  exact ja σ H env _ F Tb (h.expr am fun d e1 _ q => fun v H' F1 k1 r1 _ => q σ H' F1 (.exp k1 am))
theorem js_if {p q : List Stmt} (jc : JT Y M sc W X c f mc) (ja : JSs Y M sc W nr fr X p fS) (jb : JSs Y M sc W nr fr X q gS) :
    JS Y M sc W nr fr X (.If c p q pos) (fun env => (f env).bind fun x e1 => (VF.lift (tru x) e1).bind fun k e => if k then fS e else gS e) := by
  obtain ⟨cm, tc, pc, jc⟩ := jc
  obtain ⟨ta, pa, ja⟩ := ja
  obtain ⟨tb, pb, jb⟩ := jb
  refine ⟨_, ps_if pc pa pb, fun D σ H env F Tb h => ?_⟩
  refine jc σ H env _ F Tb (h.expr cm fun x e1 _ q => ?_)
  cases et : tru x with
  | none => rw [et] at q; exact q.elim
  | some k =>
    rw [et] at q
    have q : POs Y M sc W nr fr σ H D (if k = true then fS e1 else gS e1) := q
    refine ⟨k, rfl, fun H' F' k' => ?_⟩
    cases k with
    | true => exact ja D σ H' e1 F' (k'.tabs Tb) (q.to (.exp k' cm))
    | false => exact jb D σ H' e1 F' (k'.tabs Tb) (q.to (.exp k' cm))

/-! ### return -/
def retOk (nr : Nat) (fr : Bool) (z : St) : Bool := (z.oc ++ z.oi).all (fun i => decide (nr ≤ i)) && (!fr || z.fr)
theorem js_ret0 : JS Y M sc W nr fr X (.Return none pos) (fun env => .ok (.ret .none) env) :=
  ⟨_, ps_retN, fun D σ H env F Tb h => h _ σ H F .refl ⟨rfl, fun _ _ _ _ _ xs e => by cases e⟩⟩
theorem rf_fx {o : List Nat} (hr : ∀ j, j < nr → M j = true) (ho : ∀ i ∈ o, nr ≤ i) (a : Addr) (z : RF M nr σ a) : FX M o σ a := by
  rcases z with z | ⟨i, z1, z2⟩
  · exact .inl z
  · exact .inr ⟨i, hr i z1, fun q => by have := ho i q; omega, z2⟩
theorem js_ret (hr : ∀ j, j < nr → M j = true) (ok : retOk nr fr za = true) (ja : JE Y M sc W X e f za) : JS Y M sc W nr fr X (.Return (some e) pos) (fun env => (f env).bind fun d e1 => .ok (.ret d) e1) := by
  obtain ⟨am, t, pa, ja⟩ := ja
  simp only [retOk, Bool.and_eq_true, Bool.or_eq_true, List.all_eq_true, decide_eq_true_eq, Bool.not_eq_true'] at ok
  obtain ⟨o1, o2⟩ := ok
  refine ⟨_, ps_ret pa, fun D σ H env F Tb h => ?_⟩
  refine ja σ H env _ F Tb (h.expr am fun d e1 ed q => fun v H' F1 k1 r1 f1 => ?_)
  have rfc := rf_fx (σ := σ) hr fun i hi => o1 i (List.mem_append_left za.oi hi)
  have rfi := rf_fx (σ := σ) hr fun i hi => o1 i (List.mem_append_right za.oc hi)
  refine q v σ H' F1 (.exp k1 am) ⟨Rp.rep (r1.mono rfc rfi) fun _ z => z, fun hfr H0 G0 k0 ow xs ex => ?_⟩
  rcases o2 with o2 | o2
  · rw [hfr] at o2; cases o2
  · obtain ⟨a, vs, rfl, n, hl, r⟩ := f1 o2 xs ex
    refine ⟨a, vs, rfl, Nw.old k0 n, fun i hi hs => ?_, hl, Reps.weak (fun b z => z.elim (fun q => .inl (rfi b q)) .inr) _ _ r⟩
    obtain ⟨_, us, _, hh⟩ := F.lst (hr i hi) hs
    obtain ⟨ps, z⟩ := n _ hh
    cases z
theorem js_retM {i : Nat} {x : Str} (hr : ∀ j, j < nr → M j = true) (m : M i = true) (hi : nr ≤ i) (hx : PE X (.Name x p) (tVar i)) : JS Y M sc W nr fr X (.Return (some (.Name x p)) pos) (fun env => (VF.lift (getV env i) env).bind fun d e1 => .ok (.ret d) e1) := by
  refine ⟨_, ps_ret hx, fun D σ H env F Tb h => ?_⟩
  dsimp only at h
  cases eg : getV env i with
  | none => rw [eg] at h; exact h.elim
  | some d =>
    rw [eg] at h
    have h : ∀ v σ' H', Fi Y.K M sc σ' H' env → Tr Y.T M nr σ H σ' H' → RetOk Y M nr fr σ H σ' H' d v → D.rt v H' := h
    obtain ⟨a, vs, xs, g1, rfl, g3, g4⟩ := F.mt i d (getV_some eg) m
    have rf := fun b (z : RF M nr σ b) => rf_fx (o := []) hr (by simp) b z
    have away : ¬ RF M nr σ a := by
      rintro (g | ⟨j, z1, z2⟩)
      · exact F.gno i a m g1 g
      · have := F.inj i j a m (hr j z1) g1 z2
        omega
    refine ⟨_, g1, h _ σ H F .refl ⟨⟨a, vs, rfl, ⟨away, g3⟩, Reps.weak rf _ _ g4⟩, fun _ H0 G0 k0 ow xs' ex => ?_⟩⟩
    cases ex
    refine ⟨a, vs, rfl, ow a i m g1, fun j hj hs => away (.inr ⟨j, hj, hs⟩), g3, Reps.weak (fun b z => ?_) _ _ g4⟩
    rcases z with z | rfl
    · exact rf b z
    · exact .inr ⟨i, m, by simp, g1⟩

/-! ### several names -/
theorem Tr.tg {is : List Nat} {σ2 : L2.St} (hr : ∀ j, j < nr → M j = true) (ho : ownOk M.m sc is = true) (h : ∀ j, j ∉ is → σ2[j]? = σ[j]?) : Tr Y.T M nr σ H σ2 H := .other (fun i mi => h i (own_M ho mi)) hr
theorem js_asgT {is : List Nat} {tg : Expr} {gt : TG} (hr : ∀ j, j < nr → M j = true) (ho : ownOk M.m sc is = true) (td : TgD Y M.m sc (.t is) is gt) (hc : za.oc = []) (hi : za.oi = []) (pg : PG X tg gt) (ja : JE Y M sc W X e f za)
    (hs : swapsWithSole [tg] e pos.line X.env = pure false) (hw : swappedStores [tg] e X.env = pure none) (h1 : (assignEach [tg] X.env).map (·.2) = [assign tg X.env]) :
    JS Y M sc W nr fr X (.Assign [tg] e pos) (fun env => (f env).bind fun d e1 => match tgSet (.t is) d e1 with | some e2 => .ok .nx e2 | none => .bad) := by
  obtain ⟨am, t, pa, ja⟩ := ja
  refine ⟨_, ps_asg pa pg hs hw h1, fun D σ H env F Tb h => ?_⟩
  refine ja σ H env _ F Tb (h.expr am fun d e1 _ q => fun v H' F1 k1 r1 _ => ?_)
  cases et : tgSet (.t is) d e1 with
  | none => rw [et] at q; exact q.elim
  | some e2 =>
    rw [et] at q
    rw [hc, hi] at r1
    have q : ∀ σ' H', Fi Y.K M sc σ' H' e2 → Tr Y.T M nr σ H σ' H' → D.nx σ' H' := q
    exact td.go M.g σ H' e1 d v e2 _ F1 (Rp.rep r1 fun _ z => z) et fun σ2 F2 o2 l2 => q σ2 H' F2 ((Tr.exp k1 am).trans (.tg hr ho o2))
theorem vals2' {vs : List V} (h : vs.length = 2) : ∃ u v, vs = [u, v] := match vs, h with | [u, v], _ => ⟨u, v, rfl⟩
theorem js_par {i j : Nat} {x y : Str} {px py pt pos : Pos} {kt k2 : Nat} {pt2 : Pos} (hcm : X.calm = true) (hN : X.N.Nodup) (hr : ∀ j, j < nr → M j = true) (ho : ownOk M.m sc [i, j] = true) (hij : i ≠ j) (hi : X.N[i]? = some x) (hj : X.N[j]? = some y) (hx : X.env.scope.names.lookup x = some .local) (hy : X.env.scope.names.lookup y = some .local)
    (hw : swappedStores [.Tuple [.Name x px, .Name y py] kt pt] (.Tuple [a, b] k2 pt2) X.env = pure (some [x, y])) (hs : swapsWithSole [.Tuple [.Name x px, .Name y py] kt pt] (.Tuple [a, b] k2 pt2) pos.line X.env = pure false) (ja : JA Y M sc W X [a, b] fs ma []) :
    JS Y M sc W nr fr X (.Assign [.Tuple [.Name x px, .Name y py] kt pt] (.Tuple [a, b] k2 pt2) pos) (fun env => (fs env).bind fun ds e1 => if ds.length = 2 then .ok .nx (setsV e1 [i, j] ds) else .bad) := by
  obtain ⟨am, t, pa, ja⟩ := ja
  refine ⟨_, ps_par hcm hN hi hj hij hx hy pa hw hs, fun D σ H env F Tb h => ?_⟩
  refine ja σ H env _ F Tb (h.expr am fun ds e1 _ q => fun vs H' F1 k1 r1 => ?_)
  by_cases hl : ds.length = 2
  · rw [if_pos hl] at q
    obtain ⟨u, v, rfl⟩ := vals2' (by rw [r1.len]; exact hl)
    refine ⟨u, v, rfl, ?_⟩
    have q : ∀ σ' H', Fi Y.K M sc σ' H' (setsV e1 [i, j] ds) → Tr Y.T M nr σ H σ' H' → D.nx σ' H' := q
    have := gnames_run (Y := Y) (m := M.m) (gg := M.g) (Q := fun σ2 H2 => Fi Y.K M sc σ2 H2 (setsV e1 [i, j] ds) ∧ (∀ l, l ∉ [i, j] → σ2[l]? = σ[l]?) ∧ H2 = H') ho (by simpa using hl) F1 r1 fun σ2 F2 o2 l2 => ⟨F2, o2, rfl⟩
    obtain ⟨_, _, e1', _, _, e2', e3', g1, g2, _⟩ := this
    cases e1'
    cases e2'
    exact q _ H' g1 ((Tr.exp k1 am).trans (.tg hr ho g2))
  · rw [if_neg hl] at q
    exact q.elim
theorem vals3' {vs : List V} (h : vs.length = 3) : ∃ u v w, vs = [u, v, w] := match vs, h with | [u, v, w], _ => ⟨u, v, w, rfl⟩
theorem js_par3 {i j l : Nat} {x y z : Str} {px py pz pt pos : Pos} {kt k2 : Nat} {pt2 : Pos} (hcm : X.calm = true) (hN : X.N.Nodup) (hr : ∀ j, j < nr → M j = true) (ho : ownOk M.m sc [i, j, l] = true) (hij : i ≠ j) (hil : i ≠ l) (hjl : j ≠ l) (hi : X.N[i]? = some x) (hj : X.N[j]? = some y) (hl : X.N[l]? = some z)
    (hx : X.env.scope.names.lookup x = some .local) (hy : X.env.scope.names.lookup y = some .local) (hz : X.env.scope.names.lookup z = some .local)
    (hw : swappedStores [.Tuple [.Name x px, .Name y py, .Name z pz] kt pt] (.Tuple [a, b, c] k2 pt2) X.env = pure (some [x, y, z])) (hs : swapsWithSole [.Tuple [.Name x px, .Name y py, .Name z pz] kt pt] (.Tuple [a, b, c] k2 pt2) pos.line X.env = pure false) (ja : JA Y M sc W X [a, b, c] fs ma []) :
    JS Y M sc W nr fr X (.Assign [.Tuple [.Name x px, .Name y py, .Name z pz] kt pt] (.Tuple [a, b, c] k2 pt2) pos) (fun env => (fs env).bind fun ds e1 => if ds.length = 3 then .ok .nx (setsV e1 [i, j, l] ds) else .bad) := by
  obtain ⟨am, t, pa, ja⟩ := ja
  refine ⟨_, ps_par3 hcm hN hi hj hl hij hil hjl hx hy hz pa hw hs, fun D σ H env F Tb h => ?_⟩
  refine ja σ H env _ F Tb (h.expr am fun ds e1 _ q => fun vs H' F1 k1 r1 => ?_)
  by_cases hl : ds.length = 3
  · rw [if_pos hl] at q
    obtain ⟨u, v, w, rfl⟩ := vals3' (by rw [r1.len]; exact hl)
    refine ⟨u, v, w, rfl, ?_⟩
    have q : ∀ σ' H', Fi Y.K M sc σ' H' (setsV e1 [i, j, l] ds) → Tr Y.T M nr σ H σ' H' → D.nx σ' H' := q
    have := gnames_run (Y := Y) (m := M.m) (gg := M.g) (Q := fun σ2 H2 => Fi Y.K M sc σ2 H2 (setsV e1 [i, j, l] ds) ∧ (∀ o, o ∉ [i, j, l] → σ2[o]? = σ[o]?) ∧ H2 = H') ho (by simpa using hl) F1 r1 fun σ2 F2 o2 l2 => ⟨F2, o2, rfl⟩
    obtain ⟨_, _, e1', _, _, e2', _, _, e3', e4', g1, g2, _⟩ := this
    cases e1'
    cases e2'
    cases e3'
    exact q _ H' g1 ((Tr.exp k1 am).trans (.tg hr ho g2))
  · rw [if_neg hl] at q
    exact q.elim
theorem js_parL {i j : Nat} {x y : Str} {px py pt pos pl : Pos} {kt k2 : Nat} {pt2 : Pos} {mu : List Nat} (hcm : X.calm = true) (hN : X.N.Nodup) (hf : SFr mu f) (mM : ∀ j ∈ mu, M j = true) (hmu : ∀ j ∈ za.mu, j ∈ mu) (mi : M i = true) (mj : M j = true) (ni : nr ≤ i) (nj : nr ≤ j) (h0 : ¬ fx sc i ∧ ¬ fx sc j) (hij : i ≠ j) (hfr : za.fr = true) (hoi : za.oi = [])
    (hi : X.N[i]? = some x) (hj : X.N[j]? = some y) (hx : X.env.scope.names.lookup x = some .local) (hy : X.env.scope.names.lookup y = some .local)
    (hw : swappedStores [.Tuple [.Name x px, .Name y py] kt pt] (.Tuple [a, .List [] pl] k2 pt2) X.env = pure (some [x, y])) (hs : swapsWithSole [.Tuple [.Name x px, .Name y py] kt pt] (.Tuple [a, .List [] pl] k2 pt2) pos.line X.env = pure false)
    (hst : starEach [a, .List [] pl] X.env = (false, eval a X.env) :: starEach [.List [] pl] X.env) (ja : JE Y M sc W X a f za) :
    JS Y M sc W nr fr X (.Assign [.Tuple [.Name x px, .Name y py] kt pt] (.Tuple [a, .List [] pl] k2 pt2) pos) (fun env => (f env).bind fun d e1 => match d with
      | .list _ => if mu.all (flatAt e1) then .ok .nx (setV (setV e1 i d) j (.list [])) else .bad
      | _ => .bad) := by
  obtain ⟨am, t, pa, ja⟩ := ja
  refine ⟨_, ps_par hcm hN hi hj hij hx hy (pa_cons pa (pa_cons (pe_lst pa_nil) pa_nil rfl) hst) hw hs, fun D σ H env F Tb h => ?_⟩
  refine ja σ H env _ F Tb (h.expr am fun d e1 ed q => fun v H' F1 k1 r1 f1 => ?_)
  cases d <;> try exact q.elim
  rename_i ds
  dsimp only at q
  by_cases ha : mu.all (flatAt e1) = true
  · rw [if_pos ha] at q
    have q : ∀ σ' H2, Fi Y.K M sc σ' H2 (setV (setV e1 i (.list ds)) j (.list [])) → Tr Y.T M nr σ H σ' H2 → D.nx σ' H2 := q
    obtain ⟨a', vs, rfl, n, hl, r⟩ := f1 hfr ds rfl
    rw [hoi] at r
    have k2 : Kp Y.T (FL mu σ) H H' := k1.mono fun a z => z.sub hmu
    have F2 := F.setM F1 k2 mM (hf _ _ _ ed) (fun j hj => List.all_eq_true.mp ha j hj) mi h0.1 n hl r
    refine ⟨Nat.zero_le _, fun p hp => ⟨_, _, rfl, ?_⟩⟩
    have k3 : Kp Y.T (FL [] (σ.set i (some (.ref a')))) H' (upd H' p (.lst [])) := .new hp
    have F3 := F2.setM (ds := []) (F2.grow (.new (F := F0) hp)) k3 (by simp) (.refl : Same [] _ _) (by simp) mj h0.2 (Nw.of hp) upd_same rfl
    exact q _ _ F3 ((Tr.newM k2 mM n ni).trans (.newM k3 (by simp) (Nw.of hp) nj))
  · rw [if_neg ha] at q
    exact q.elim

/-! ### lists of one's own change -/
theorem js_seti {i : Nat} {x : Str} {ix : Expr} {p1 tp : Pos} (hx : PE X (.Name x p1) (tVar i)) (m : M i = true) (hc : za.oc = []) (hi : za.oi = []) (ja : JE Y M sc W X e f za) (jb : JE Y M sc W X ix g zb) (zbm : zb.mu = [])
    (hs : swapsWithSole [.Subscript (.Name x p1) ix tp] e pos.line X.env = pure false) (hw : swappedStores [.Subscript (.Name x p1) ix tp] e X.env = pure none) (h1 : (assignEach [.Subscript (.Name x p1) ix tp] X.env).map (·.2) = [assign (.Subscript (.Name x p1) ix tp) X.env])
    (hb : ∀ v, assign (.Subscript (.Name x p1) ix tp) X.env v = (do
      let ov ← holding [v] (eval (.Name x p1) X.env)
      let iv ← holding [v, ov] (eval ix X.env)
      standAt tp
      holding [v, ov, iv] (setItem ov iv v)
      release [v, ov, iv] [])) :
    JS Y M sc W nr fr X (.Assign [.Subscript (.Name x p1) ix tp] e pos) (fun env => (f env).bind fun d e1 => (VF.lift (getV e1 i) e1).bind fun _ e1 => (g e1).bind fun k e2 => match getV e2 i, k with
    | some (.list ds), .int k => (match ixN ds.length k with
      | some j => .ok .nx (setV e2 i (.list (ds.set j d)))
      | none => .bad)
    | _, _ => .bad) := by
  obtain ⟨am, t, pa, ja⟩ := ja
  obtain ⟨bm, tb, pb, jb⟩ := jb
  refine ⟨_, ps_asg pa (pg_sub hx pb set_list hb) hs hw h1, fun D σ H env F Tb h => ?_⟩
  refine ja σ H env _ F Tb (h.expr am fun d e1 _ q => fun v H' F1 k1 r1 _ => ?_)
  cases eg : getV e1 i with
  | none => rw [eg] at q; exact q.elim
  | some d1 =>
    rw [eg] at q
    obtain ⟨a', vs, xs, g1, rfl, g3, g4⟩ := F1.mt i d1 (getV_some eg) m
    refine ⟨_, g1, ?_⟩
    have q1 := POs.to (h := q) (Tr.exp (nr := nr) k1 am)
    refine jb σ H' e1 _ F1 (k1.tabs Tb) (POs.expr bm (show POs Y M sc W nr fr σ H' D (Out.bind _ _) from q1) fun kk e2 _ q2 => fun kv H2 F2 k2 rk _ => ?_)
    cases eg2 : getV e2 i with
    | none => rw [eg2] at q2; exact q2.elim
    | some d2 =>
      obtain ⟨a2, vs2, xs2, f1, rfl, f3, f4⟩ := F2.mt i d2 (getV_some eg2) m
      rw [g1] at f1
      cases f1
      rw [eg2] at q2
      cases kk <;> try exact q2.elim
      rename_i kk _ _
      dsimp only at q2
      cases ei : ixN xs2.length kk with
      | none => rw [ei] at q2; exact q2.elim
      | some j =>
        rw [ei] at q2
        have q2 : ∀ σ' H3, Fi Y.K M sc σ' H3 (setV e2 i (.list (xs2.set j d))) → Tr Y.T M nr σ H' σ' H3 → D.nx σ' H3 := q2
        have ek := rp_int rk
        subst ek
        rw [hc, hi] at r1
        rw [zbm] at k2
        have rd : Rep Y.K (FX M [] σ) H2 d v := Rep.keep (k2.keep.mono fun a z => by obtain ⟨_, z, _⟩ := z; cases z) _ _ (Rp.rep r1 fun _ z => z)
        refine ⟨a', vs2, kk, j, rfl, rfl, f3, by rw [f4.len]; exact ei, ?_⟩
        have kp : Kp Y.T (FL [i] σ) H2 (upd H2 a' (.lst (vs2.set j v))) := Kp.put ⟨i, by simp, g1⟩ f3
        refine q2 σ _ (fi_put1 F2 m g1 f3 (f4.set j rd)) ((Tr.exp k2 (by simp)).trans (.exp kp fun j hj => by rw [List.mem_singleton.mp hj]; exact m))
theorem set_same {σ : L2.St} {i : Nat} {x : V} (h : σ[i]? = some (some x)) : σ.set i (some x) = σ := by
  obtain ⟨hl, e⟩ := List.getElem?_eq_some_iff.mp h
  rw [← e]
  exact List.set_getElem_self hl
/-- xs += e, e a new list -/
theorem js_ext {i : Nat} {x : Str} {p1 : Pos} (hN : X.N.Nodup) (m : M i = true) (hfr : za.fr = true) (hoi : za.oi = []) (hi : X.N[i]? = some x) (hx : Loc X.env.scope x) (hf : X.fn x = true ∨ X.env.scope.names.lookup x = some .local) (ja : JE Y M sc W X e f za) :
    JS Y M sc W nr fr X (.AugAssign (.Name x p1) .Add e pos) (fun env => (VF.lift (getV env i) env).bind fun _ e0 => (f e0).bind fun d e1 => match getV e1 i, d with
    | some (.list ds), .list es => if ds.length + es.length ≤ lim then .ok .nx (setV e1 i (.list (ds ++ es))) else .bad
    | _, _ => .bad) := by
  obtain ⟨am, t, pa, ja⟩ := ja
  refine ⟨_, ps_aug hN hi hx pa (fun pins s σ H x y v u Q I r1 r2 h => iop_ext pins s σ H x y v u Q I r1 r2 h : PIp X .Add rExt2) hf, fun D σ H env F Tb h => ?_⟩
  dsimp only at h
  cases eg : getV env i with
  | none => rw [eg] at h; exact h.elim
  | some d0 =>
    rw [eg] at h
    obtain ⟨a', vs, xs, g1, rfl, g3, g4⟩ := F.mt i d0 (getV_some eg) m
    refine ⟨_, g1, ?_⟩
    refine ja σ H env _ F Tb (POs.expr am (show POs Y M sc W nr fr σ H D (Out.bind _ _) from h) fun d e1 _ q => fun v H' F1 k1 r1 f1 => ?_)
    cases eg2 : getV e1 i with
    | none => rw [eg2] at q; exact q.elim
    | some d2 =>
      obtain ⟨a2, vs2, xs2, h1, rfl, h3, h4⟩ := F1.mt i d2 (getV_some eg2) m
      rw [g1] at h1
      cases h1
      rw [eg2] at q
      cases d <;> try exact q.elim
      rename_i es _
      dsimp only at q
      by_cases hln : xs2.length + es.length ≤ lim
      · rw [if_pos hln] at q
        have q : ∀ σ' H3, Fi Y.K M sc σ' H3 (setV e1 i (.list (xs2 ++ es))) → Tr Y.T M nr σ H σ' H3 → D.nx σ' H3 := q
        obtain ⟨b, zs, rfl, n1, n2, n3⟩ := f1 hfr es rfl
        rw [hoi] at n3
        refine ⟨a', b, vs2, zs, rfl, rfl, h3, n2, by rw [h4.len, n3.len, sizeLine_eq]; unfold lim at hln; omega, ?_⟩
        show D.nx (σ.set i (some (V.ref a'))) (upd H' a' (.lst (vs2 ++ zs)))
        rw [set_same g1]
        have kp : Kp Y.T (FL [i] σ) H' (upd H' a' (.lst (vs2 ++ zs))) := Kp.put ⟨i, by simp, g1⟩ h3
        exact q σ _ (fi_put1 F1 m g1 h3 (Reps.app h4 (Reps.weak (fun a z => .inl z) _ _ n3))) ((Tr.exp k1 am).trans (.exp kp fun j hj => by rw [List.mem_singleton.mp hj]; exact m))
      · rw [if_neg hln] at q; exact q.elim
/-- xs[i], by values -/
theorem get_list : PGet X (rIxL X.K) := by
  intro pins s σ H x y v u Q I rx ry h
  obtain ⟨p, xs, i, z, rfl, rfl, hq, he, q⟩ := h
  cases rx
  obtain ⟨t, rfl⟩ := ry
  obtain ⟨its, r, pl, hz⟩ := I.list hq
  obtain ⟨j, h1, h2, h3, h4, h5⟩ := atI_get he
  obtain ⟨w, ew, rw'⟩ := r.get h2
  have hl := r.length
  have hn := line63
  have fin : EP X pins σ Q w s := ⟨z, H, I, rw', q⟩
  by_cases h0 : 0 ≤ i
  · have hj : i.toNat = j := by
      rw [seqIndex_of h0 h5] at h1
      exact Option.some.inj h1
    exact wpAny_getItem_list pl.isList h0 (by omega) (by rw [hj]; simpa using ew) fin
  · have hj : (i + (its.toArray.size : Int)).toNat = j := by
      rw [seqIndex_neg (by omega) h4] at h1
      rw [List.size_toArray, ← hl]
      exact Option.some.inj h1
    exact wpAny_getItem_list_neg pl.isList (by omega) (by rw [List.size_toArray] <;> omega) (by omega) (by rw [hj]; simpa using ew) fin
/-- xs[i] += e, xs[i] -= e, of whole numbers -/
theorem js_seta {i : Nat} {x : Str} {ix : Expr} {p1 tp : Pos} {sub : Bool} (hK : X.K = Y.K) (hx : PE X (.Name x p1) (tVar i)) (m : M i = true) (ja : JE Y M sc W X e f za) (jb : JE Y M sc W X ix g zb)
    (ha : ∀ ov iv new, augStore ix ov iv new = (do holding [new, ov, iv] (setItem ov iv new); release [new, ov, iv] []; pure .next)) :
    JS Y M sc W nr fr X (.AugAssign (.Subscript (.Name x p1) ix tp) (if sub then .Sub else .Add) e pos) (fun env => (VF.lift (getV env i) env).bind fun _ e0 => (g e0).bind fun k e1 => (VF.lift (((getV e1 i).bind fun x => idxD x k).bind intD) e1).bind fun a e1 => (f e1).bind fun y e2 => (VF.lift (augD sub a y) e2).bind fun z e3 => match getV e3 i, k with
    | some (.list ds), .int k => (match ixN ds.length k with
      | some j => .ok .nx (setV e3 i (.list (ds.set j z)))
      | none => .bad)
    | _, _ => .bad) := by
  obtain ⟨am, t, pa, ja⟩ := ja
  obtain ⟨bm, tb, pb, jb⟩ := jb
  have hop : PIp X (if sub then .Sub else .Add) (ipI fun i j => if sub then i - j else i + j) := by
    cases sub with
    | true => exact ip_sub
    | false => exact ip_add
  refine ⟨_, ps_augS hx pb get_list pa hop set_list ha, fun D σ H env F Tb h => ?_⟩
  dsimp only at h
  cases eg : getV env i with
  | none => rw [eg] at h; exact h.elim
  | some d0 =>
    rw [eg] at h
    obtain ⟨a', vs, xs, g1, rfl, g3, g4⟩ := F.mt i d0 (getV_some eg) m
    refine ⟨_, g1, ?_⟩
    refine jb σ H env _ F Tb (POs.expr bm (show POs Y M sc W nr fr σ H D (Out.bind _ _) from h) fun kk e1 _ q => fun kv H1 F1 k1 rk _ => ?_)
    cases eg1 : getV e1 i with
    | none => rw [eg1] at q; exact q.elim
    | some d1 =>
      obtain ⟨a1, vs1, xs1, h1, rfl, h3, h4⟩ := F1.mt i d1 (getV_some eg1) m
      rw [g1] at h1
      cases h1
      rw [eg1] at q
      cases kk <;> try exact q.elim
      rename_i kk _ _
      have ek := rp_int rk
      subst ek
      have q : POs Y M sc W nr fr σ H D ((VF.lift ((atI xs1 kk).bind intD) e1).bind _) := q
      cases ea : atI xs1 kk with
      | none => rw [ea] at q; exact q.elim
      | some da =>
        rw [ea] at q
        cases da <;> try exact q.elim
        rename_i a0
        obtain ⟨j0, j1, j2⟩ := getElem_of_atI ea
        obtain ⟨w, w1, w2⟩ := h4.get j1
        have w2 : w = .int a0 := w2
        subst w2
        refine ⟨a', vs1, kk, .int a0, rfl, rfl, ?_, ?_, ?_⟩
        · rw [hK]; exact .inl (.inl h3)
        · unfold atI
          rw [h4.len, j2]
          exact w1
        · have q1 := POs.to (h := q) (Tr.exp (nr := nr) k1 bm)
          refine ja σ H1 e1 _ F1 (k1.tabs Tb) (POs.expr am (show POs Y M sc W nr fr σ H1 D (Out.bind _ _) from q1) fun y e2 _ q2 => fun yv H2 F2 k2 ry _ => ?_)
          cases y <;> try exact q2.elim
          rename_i b0 _ _
          have ey := rp_int ry
          subst ey
          refine ⟨a0, b0, rfl, rfl, ?_⟩
          cases eg2 : getV e2 i with
          | none => rw [show (VF.lift (augD sub a0 (.int b0)) e2) = .ok _ e2 from rfl] at q2; dsimp only [Out.bind] at q2; rw [eg2] at q2; exact q2.elim
          | some d2 =>
            obtain ⟨a2, vs2, xs2, f1, rfl, f3, f4⟩ := F2.mt i d2 (getV_some eg2) m
            rw [g1] at f1
            cases f1
            rw [show (VF.lift (augD sub a0 (.int b0)) e2) = .ok _ e2 from rfl] at q2
            dsimp only [Out.bind] at q2
            rw [eg2] at q2
            dsimp only at q2
            cases ei : ixN xs2.length kk with
            | none => rw [ei] at q2; exact q2.elim
            | some j =>
              rw [ei] at q2
              have q2 : ∀ σ' H3, Fi Y.K M sc σ' H3 (setV e2 i (.list (xs2.set j (.int (if sub then a0 - b0 else a0 + b0))))) → Tr Y.T M nr σ H1 σ' H3 → D.nx σ' H3 := q2
              refine ⟨a', vs2, kk, j, rfl, rfl, f3, by rw [f4.len]; exact ei, ?_⟩
              have kp : Kp Y.T (FL [i] σ) H2 (upd H2 a' (.lst (vs2.set j (.int (if sub then a0 - b0 else a0 + b0))))) := Kp.put ⟨i, by simp, g1⟩ f3
              exact q2 σ _ (fi_put1 F2 m g1 f3 (f4.set j rfl)) ((Tr.exp k2 am).trans (.exp kp fun j hj => by rw [List.mem_singleton.mp hj]; exact m))
theorem js_app {i : Nat} {x : Str} {p1 p2 cp : Pos} (hx : PE X (.Name x p1) (tVar i)) (m : M i = true) (hc : za.oc = []) (hi : za.oi = []) (hb : attributeBase (.Name x p1) "append" X.env (eval (.Name x p1) X.env) = eval (.Name x p1) X.env)
    (hf : ((backTo cp (starEach [e] X.env)).all (fun x => !x.1) && (backToKw cp (keywordEach [] X.env)).all (fun x => x.1.isSome) && decide ([e].length + ([] : List Keyword).length + (if ([] : List Keyword).isEmpty then 0 else 1) < 30)) = true)
    (hl : (p2.endLine == cp.line) = true) (hs : starEach [e] X.env = (false, eval e X.env) :: starEach [] X.env) (hw : swapsWith (.Call (.Attribute (.Name x p1) "append" p2) [e] [] cp) none pos.line X.env = pure false) (ja : JE Y M sc W X e f za) :
    JS Y M sc W nr fr X (.Expr (.Call (.Attribute (.Name x p1) "append" p2) [e] [] cp) pos) (fun env => (VF.lift (getV env i) env).bind fun _ e0 => (f e0).bind fun d e1 => match getV e1 i with
    | some (.list ds) => if ds.length < lim then .ok .nx (setV e1 i (.list (ds ++ [d]))) else .bad
    | _ => .bad) := by
  obtain ⟨am, t, pa, ja⟩ := ja
  refine ⟨_, ps_expr (pe_bm PySem.F.plainAttrs_list PySem.F.slot_list_append PySem.F.type_list_append mt_append hx (pa_one pa hs) hb hf hl hs rfl) hw, fun D σ H env F Tb h => ?_⟩
  dsimp only at h
  cases eg : getV env i with
  | none => rw [eg] at h; exact h.elim
  | some d0 =>
    rw [eg] at h
    obtain ⟨a', vs, xs, g1, rfl, g3, g4⟩ := F.mt i d0 (getV_some eg) m
    refine ⟨_, g1, .inl ⟨rfl, vs, .inl (.inl g3)⟩, ?_⟩
    refine ja σ H env _ F Tb (POs.expr am (show POs Y M sc W nr fr σ H D (Out.bind _ _) from h) fun d e1 _ q => fun v H' F1 k1 r1 _ => ?_)
    cases eg2 : getV e1 i with
    | none => rw [eg2] at q; exact q.elim
    | some d2 =>
      obtain ⟨a2, vs2, xs2, f1, rfl, f3, f4⟩ := F1.mt i d2 (getV_some eg2) m
      rw [g1] at f1
      cases f1
      rw [eg2] at q
      dsimp only at q
      by_cases hln : xs2.length < lim
      · rw [if_pos hln] at q
        have q : ∀ σ' H3, Fi Y.K M sc σ' H3 (setV e1 i (.list (xs2 ++ [d]))) → Tr Y.T M nr σ H σ' H3 → D.nx σ' H3 := q
        rw [hc, hi] at r1
        refine ⟨a', vs2, v, rfl, rfl, f3, by rw [f4.len, sizeLine_eq]; unfold lim at hln; omega, ?_⟩
        have kp : Kp Y.T (FL [i] σ) H' (upd H' a' (.lst (vs2 ++ [v]))) := Kp.put ⟨i, by simp, g1⟩ f3
        exact q σ _ (fi_put1 F1 m g1 f3 (Reps.app f4 (Reps.one (Rp.rep r1 fun _ z => z)))) ((Tr.exp k1 am).trans (.exp kp fun j hj => by rw [List.mem_singleton.mp hj]; exact m))
      · rw [if_neg hln] at q
        exact q.elim

/-- a name and a new list of one's own -/
theorem js_parN {i j : Nat} {x y : Str} {px py pt pos pl : Pos} {kt k2 : Nat} {pt2 : Pos} (hcm : X.calm = true) (hN : X.N.Nodup) (hr : ∀ j, j < nr → M j = true) (ho : ownOk M.m sc [i] = true) (mj : M j = true) (nj : nr ≤ j) (h0 : ¬ fx sc j) (hij : i ≠ j) (hoc : za.oc = []) (hoi : za.oi = [])
    (hi : X.N[i]? = some x) (hj : X.N[j]? = some y) (hx : X.env.scope.names.lookup x = some .local) (hy : X.env.scope.names.lookup y = some .local)
    (hw : swappedStores [.Tuple [.Name x px, .Name y py] kt pt] (.Tuple [a, .List [] pl] k2 pt2) X.env = pure (some [x, y])) (hs : swapsWithSole [.Tuple [.Name x px, .Name y py] kt pt] (.Tuple [a, .List [] pl] k2 pt2) pos.line X.env = pure false)
    (hst : starEach [a, .List [] pl] X.env = (false, eval a X.env) :: starEach [.List [] pl] X.env) (ja : JE Y M sc W X a f za) :
    JS Y M sc W nr fr X (.Assign [.Tuple [.Name x px, .Name y py] kt pt] (.Tuple [a, .List [] pl] k2 pt2) pos) (fun env => (f env).bind fun d e1 => .ok .nx (setV (setV e1 i d) j (.list []))) := by
  obtain ⟨am, t, pa, ja⟩ := ja
  obtain ⟨o1, o2⟩ := own1 ho
  refine ⟨_, ps_par hcm hN hi hj hij hx hy (pa_cons pa (pa_cons (pe_lst pa_nil) pa_nil rfl) hst) hw hs, fun D σ H env F Tb h => ?_⟩
  refine ja σ H env _ F Tb (h.expr am fun d e1 ed q => fun v H' F1 k1 r1 _ => ?_)
  have q : ∀ σ' H2, Fi Y.K M sc σ' H2 (setV (setV e1 i d) j (.list [])) → Tr Y.T M nr σ H σ' H2 → D.nx σ' H2 := q
  rw [hoc, hoi] at r1
  have F2 := F1.set o1 o2 (Rp.rep r1 fun _ z => z)
  refine ⟨Nat.zero_le _, fun p hp => ⟨_, _, rfl, ?_⟩⟩
  have k3 : Kp Y.T (FL [] (σ.set i (some v))) H' (upd H' p (.lst [])) := .new hp
  have F3 := F2.setM (ds := []) (F2.grow (.new (F := F0) hp)) k3 (by simp) (.refl : Same [] _ _) (by simp) mj h0 (Nw.of hp) upd_same rfl
  exact q _ _ F3 (((Tr.exp k1 am).trans (.other (fun j mj => by rw [List.getElem?_set_ne (fun z => by rw [← z, o1] at mj; cases mj)]) hr)).trans (.newM k3 (by simp) (Nw.of hp) nj))
theorem insD_eq {xs us : List PyData} {y : PyData} (h : insD (.list xs) us = some y) : ∃ k d, us = [.int k, d] ∧ (0 ≤ k ∧ k < 1000000 ∧ xs.length < lim) ∧ y = .list (xs.take k.toNat ++ [d] ++ xs.drop k.toNat) := by
  unfold insD at h
  split at h
  · rename_i e
    cases e
    split at h
    · rename_i hc
      cases h
      exact ⟨_, _, rfl, hc, rfl⟩
    · cases h
  · cases h
/-- xs.insert(k, y) -/
theorem js_ins {i : Nat} {x : Str} {p1 p2 cp : Pos} {ma : List Nat} (hx : PE X (.Name x p1) (tVar i)) (m : M i = true) (hb : attributeBase (.Name x p1) "insert" X.env (eval (.Name x p1) X.env) = eval (.Name x p1) X.env)
    (hf : ((backTo cp (starEach [a, b] X.env)).all (fun x => !x.1) && (backToKw cp (keywordEach [] X.env)).all (fun x => x.1.isSome) && decide ([a, b].length + ([] : List Keyword).length + (if ([] : List Keyword).isEmpty then 0 else 1) < 30)) = true)
    (hl : (p2.endLine == cp.line) = true) (hs : starEach [a, b] X.env = (false, eval a X.env) :: starEach [b] X.env) (hpl : (backTo cp (starEach [b] X.env)).any (·.1) = false) (hw : swapsWith (.Call (.Attribute (.Name x p1) "insert" p2) [a, b] [] cp) none pos.line X.env = pure false) (ja : JA Y M sc W X [a, b] fs ma []) :
    JS Y M sc W nr fr X (.Expr (.Call (.Attribute (.Name x p1) "insert" p2) [a, b] [] cp) pos) (fun env => (VF.lift (getV env i) env).bind fun _ e0 => (fs e0).bind fun us e1 => (VF.lift ((getV e1 i).bind fun x => insD x us) e1).bind fun y e1 => .ok .nx (setV e1 i y)) := by
  obtain ⟨am, t, pa, ja⟩ := ja
  refine ⟨_, ps_expr (pe_bm PySem.F.plainAttrs_list PySem.F.slot_list_insert PySem.F.type_list_insert mt_insert hx pa hb hf hl hs hpl) hw, fun D σ H env F Tb h => ?_⟩
  dsimp only at h
  cases eg : getV env i with
  | none => rw [eg] at h; exact h.elim
  | some d0 =>
    rw [eg] at h
    obtain ⟨a', vs, xs, g1, rfl, g3, g4⟩ := F.mt i d0 (getV_some eg) m
    refine ⟨_, g1, .inl ⟨rfl, vs, .inl (.inl g3)⟩, ?_⟩
    refine ja σ H env _ F Tb (POs.expr am (show POs Y M sc W nr fr σ H D (Out.bind _ _) from h) fun us e1 _ q => fun ws H' F1 k1 r1 => ?_)
    cases eg2 : getV e1 i with
    | none => rw [eg2] at q; exact q.elim
    | some d2 =>
      obtain ⟨a2, vs2, xs2, f1, rfl, f3, f4⟩ := F1.mt i d2 (getV_some eg2) m
      rw [g1] at f1
      cases f1
      rw [eg2] at q
      cases ez : insD (.list xs2) us with
      | none =>
        have q : POs Y M sc W nr fr σ H D (Out.bind (VF.lift (insD (.list xs2) us) e1) _) := q
        rw [ez] at q
        exact q.elim
      | some y =>
        have q : POs Y M sc W nr fr σ H D (Out.bind (VF.lift (insD (.list xs2) us) e1) (fun y e1 => .ok .nx (setV e1 i y))) := q
        rw [ez] at q
        have q2 : ∀ σ' H3, Fi Y.K M sc σ' H3 (setV e1 i y) → Tr Y.T M nr σ H σ' H3 → D.nx σ' H3 := q
        obtain ⟨k, d, rfl, ⟨c1, c2, c3⟩, rfl⟩ := insD_eq ez
        obtain ⟨w1, w2, rfl, r2, r3⟩ := r1
        obtain ⟨w3, w4, rfl, r4, r5⟩ := r3
        have r5 : w4 = [] := r5
        subst r5
        have ew : w1 = .int k := r2
        subst ew
        refine ⟨a', vs2, k, w3, rfl, rfl, f3, by rw [f4.len, sizeLine_eq]; unfold lim at c3; omega, c1, by omega, ?_⟩
        have kp : Kp Y.T (FL [i] σ) H' (upd H' a' (.lst (vs2.take k.toNat ++ [w3] ++ vs2.drop k.toNat))) := Kp.put ⟨i, by simp, g1⟩ f3
        exact q2 σ _ (fi_put1 F1 m g1 f3 (((f4.take _).app (Reps.one r4)).app (f4.drop _))) ((Tr.exp k1 am).trans (.exp kp fun j hj => by rw [List.mem_singleton.mp hj]; exact m))
/-- .. where a name is a cell's -/
theorem js_parNT {i j : Nat} {ts : List Expr} {pt pos pl : Pos} {kt k2 : Nat} {pt2 : Pos} (hcm : X.calm = true) (hK : X.K = Y.K) (hr : ∀ j, j < nr → M j = true) (ho : ownOk M.m sc [i] = true) (mj : M j = true) (nj : nr ≤ j) (h0 : ¬ fx sc j) (hoc : za.oc = []) (hoi : za.oi = [])
    (pgs : PGs X ts (gNames [i, j])) (hn : (assignEach ts X.env).length = 2) (hnst : (assignEach ts X.env).findIdx? (·.1) = none)
    (hw : swappedStores [.Tuple ts kt pt] (.Tuple [a, .List [] pl] k2 pt2) X.env = pure none) (hs : swapsWithSole [.Tuple ts kt pt] (.Tuple [a, .List [] pl] k2 pt2) pos.line X.env = pure false)
    (hst : starEach [a, .List [] pl] X.env = (false, eval a X.env) :: starEach [.List [] pl] X.env) (ja : JE Y M sc W X a f za) :
    JS Y M sc W nr fr X (.Assign [.Tuple ts kt pt] (.Tuple [a, .List [] pl] k2 pt2) pos) (fun env => (f env).bind fun d e1 => .ok .nx (setV (setV e1 i d) j (.list []))) := by
  obtain ⟨am, t, pa, ja⟩ := ja
  obtain ⟨o1, o2⟩ := own1 ho
  refine ⟨_, ps_asg (pe_tupF (pa_cons pa (pa_cons (pe_lst pa_nil) pa_nil rfl) hst)) (pg_tup hcm pgs hn hnst) hs hw rfl, fun D σ H env F Tb h => ?_⟩
  refine ja σ H env _ F Tb (h.expr am fun d e1 ed q => fun v H' F1 k1 r1 _ => ?_)
  have q : ∀ σ' H2, Fi Y.K M sc σ' H2 (setV (setV e1 i d) j (.list [])) → Tr Y.T M nr σ H σ' H2 → D.nx σ' H2 := q
  rw [hoc, hoi] at r1
  have F2 := F1.set o1 o2 (Rp.rep r1 fun _ z => z)
  refine ⟨Nat.zero_le _, fun p hp => ⟨by show 2 ≤ sizeLine; rw [sizeLine_eq]; decide, fun p2 o hp2 hod => ?_⟩⟩
  refine ⟨p2, [v, .ref p], rfl, .inl (.inr ⟨o, upd_same⟩), rfl, v, _, rfl, .ref p, _, rfl, rfl, ?_⟩
  have k3 : Kp Y.T (FL [] (σ.set i (some v))) H' (upd H' p (.lst [])) := .new hp
  have F3 := F2.setM (ds := []) (F2.grow (.new (F := F0) hp)) k3 (by simp) (.refl : Same [] _ _) (by simp) mj h0 (Nw.of hp) upd_same rfl
  have k4 : Kp Y.T (FL [] ((σ.set i (some v)).set j (some (.ref p)))) (upd H' p (.lst [])) (upd (upd H' p (.lst [])) p2 (.frz o (.tup [v, .ref p]))) := .new hp2
  have F4 := F3.grow (.new (F := F0) (o := .frz o (.tup [v, .ref p])) hp2)
  exact q _ _ F4 ((((Tr.exp k1 am).trans (.other (fun j mj => by rw [List.getElem?_set_ne (fun z => by rw [← z, o1] at mj; cases mj)]) hr)).trans (.newM k3 (by simp) (Nw.of hp) nj)).trans (.exp k4 (by simp)))
end
end VF
set_option Elab.async false
set_option maxRecDepth 100000
set_option maxHeartbeats 4000000
namespace VF
open PySem PySem.Spec PyProof.Rows L2
section
variable {K : PySem.W.Frag} {F F' : Addr → Prop} {H : Hp}
theorem TrL.apart {a vs} (h : TrL F H a vs) (n : ∀ a, F' a → F a ∨ Nw H a) : TrL F' H a vs := ⟨fun q => (n a q).elim h.1 fun z => VF.Rd.ne (.inl h.2) z (fun ps z => by cases z) rfl, h.2⟩
theorem RdT.apart {a vs} (h : RdT K F H a vs) (n : ∀ a, F' a → F a ∨ Nw H a) : RdT K F' H a vs := h.elim (fun ⟨m, o, d, z⟩ => .inl ⟨fun q => (n a q).elim m fun w => VF.Rd.ne (.inr ⟨o, z⟩) w (fun ps z => by cases z) rfl, o, d, z⟩) .inr
mutual
theorem Rep.apart (n : ∀ a, F' a → F a ∨ Nw H a) : ∀ (d : PyData) (v : V), Rep K F H d v → Rep K F' H d v
  | .none, _, h => h
  | .bool _, _, h => h
  | .int _, _, h => h
  | .str _, _, h => h
  | .list ds, v, h => by obtain ⟨a, vs, e, r, q⟩ := h; exact ⟨a, vs, e, r.apart n, Reps.apart n ds vs q⟩
  | .tuple ds, v, h => by obtain ⟨a, vs, e, r, q⟩ := h; exact ⟨a, vs, e, r.apart n, Reps.apart n ds vs q⟩
  | .dict _, _, h => h.elim
theorem Reps.apart (n : ∀ a, F' a → F a ∨ Nw H a) : ∀ (ds : List PyData) (vs : List V), Reps K F H ds vs → Reps K F' H ds vs
  | [], _, h => h
  | d :: ds, vs, h => by obtain ⟨v, r, e, h1, h2⟩ := h; exact ⟨v, r, e, Rep.apart n d v h1, Reps.apart n ds r h2⟩
end
end
section
variable {Y : Sys} {M : MM} {sc : SC} {W : WX} {nr : Nat} {fr : Bool} {X : Cx} {σ σ1 : L2.St} {H H1 : Hp} {D : Ends} {k : Nat}
variable {e a b c : Expr} {f g h : Env → Out PyData} {mc mi is : List Nat} {pos : Pos} {bS : Env → Out Flw} {env : Env}
theorem own_fx {σ' : L2.St} {H' : Hp} (t : Tr Y.T M nr σ H1 σ' H') : Keep (FX M [] σ) H1 H' ∧ ∀ a, FX M [] σ' a → FX M [] σ a ∨ Nw H1 a := by
  obtain ⟨k, o⟩ := t.go H1 (FX M [] σ) .refl (fun a i m e => .inl (.inr ⟨i, m, by simp, e⟩))
  exact ⟨k.keep, fun a z => z.elim (fun g => .inl (.inl g)) fun ⟨i, z1, _, z3⟩ => o a i z1 z3⟩
theorem rep_later {σ' : L2.St} {H' : Hp} {d : PyData} {v : V} (t : Tr Y.T M nr σ H1 σ' H') (r : Rep Y.K (FX M [] σ) H1 d v) : Rep Y.K (FX M [] σ') H' d v := by
  obtain ⟨kx, o⟩ := own_fx t
  have r1 : Rep Y.K (fun a => FX M [] σ a ∨ FX M [] σ' a) H1 d v := Rep.apart (fun a z => z.elim .inl (o a)) _ _ r
  exact Rep.weak (fun a z => .inr z) _ _ (Rep.keep (kx.mono fun a z => .inl z) _ _ r1)
/-! ### for -/
theorem js_for {tg iter : Expr} {body : List Stmt} {tgt : Tg} {gt : TG} {fit : Env → Out (List PyData)} (hp : PassesOwn (model X.prog X.w) X.A X.env X.xe) (hcm : X.calm = true) (hr : ∀ j, j < nr → M j = true) (ho : ownOk M.m sc is = true) (hi : JI Y M sc W X tg iter fit mi) (td : TgD Y M.m sc tgt is gt) (pg : PG X tg gt)
    (jb : JSs Y M sc W nr fr X body bS) (hs : ∀ x, foldedSetIterable iter X.env x = pure x) : JS Y M sc W nr fr X (.For tg iter body [] pos) (fun env => (fit env).bind fun ds e => forL tgt bS ds e) := by
  obtain ⟨im, wi, pi, ji⟩ := hi
  obtain ⟨tb, pb, jb⟩ := jb
  refine ⟨_, ps_for hp hcm pi pg pb hs, fun D σ H env F Tb h => ?_⟩
  refine ji σ H env _ F Tb (h.expr im fun ds e1 _ q => fun J H1 F1 k1 wk => ?_)
  obtain ⟨wr, es, vs, rfl, rv, wk⟩ := wk
  have t1 : Tr Y.T M nr σ H σ H1 := .exp k1 im
  refine ⟨fun i n σ' H' => n = vs.length - i ∧ i ≤ vs.length ∧ ∃ ei, Fi Y.K M sc σ' H' ei ∧ Tr Y.T M nr σ H1 σ' H' ∧ POs Y M sc W nr fr σ H D (forL tgt bS ((wrD wr es).drop i) ei), ⟨vs.length, by simp, Nat.zero_le _, e1, F1, .refl, q⟩, ?_⟩
  rintro i n σ' H' ⟨rfl, hi, ei, F', t', q'⟩
  obtain ⟨kx, ow⟩ := own_fx t'
  obtain ⟨wgo, wstop⟩ := wk H' kx
  by_cases hlt : i < vs.length
  · refine .inr ⟨(wgo i vs[i] (by simp [hlt])).1, fun σ3 H3 => ∃ ei, Fi Y.K M sc σ3 H3 ei ∧ Tr Y.T M nr σ H1 σ3 H3 ∧ POs Y M sc W nr fr σ H D (forL tgt bS ((wrD wr es).drop (i + 1)) ei), fun σ3 H3 c => ⟨vs.length - (i + 1), by omega, rfl, hlt, c⟩, fun x H'' y => ?_⟩
    have yd := (wgo i vs[i] (by simp [hlt])).2 x H'' y
    obtain ⟨d0, hd0, rd0⟩ := Reps.get' rv (i := i) (v := vs[i]) (by simp [hlt])
    obtain ⟨ky, rd⟩ := yd_rep (T0 := Y.T) yd (rep_later t' rd0) fun a z => F'.out z
    have hd : (wrD wr es)[i]? = some (wr1 wr i d0) := by rw [wrD_get, hd0]; rfl
    generalize wr1 wr i d0 = d at hd rd
    have hdr : (wrD wr es).drop i = d :: (wrD wr es).drop (i + 1) := by
      obtain ⟨hl, e⟩ := List.getElem?_eq_some_iff.mp hd
      rw [List.drop_eq_getElem_cons hl, e]
    replace F' := F'.grow ky.keep
    replace t' := t'.trans (.exp (mu := []) ky.grow (by simp))
    rw [hdr] at q'
    unfold forL at q'
    cases et : tgSet tgt d ei with
    | none => rw [et] at q'; exact q'.elim
    | some e2 =>
      rw [et] at q'
      dsimp only at q'
      refine td.go M.g σ' H'' ei d _ e2 _ F' rd et fun σ2 F2 o2 l2 => ?_
      have t2 : Tr Y.T M nr σ' H'' σ2 H'' := .tg hr ho o2
      refine jb _ σ2 H'' e2 F2 ((t1.trans t').tabs F Tb) ?_
      cases eb : bS e2 with
      | bad => rw [eb] at q'; exact q'
      | exc x e3 =>
        rw [eb] at q'
        exact POs.to (show POs Y M sc W nr fr σ H D (.exc x e3) from q') ((t1.trans t').trans t2)
      | ok fl e3 =>
        rw [eb] at q'
        cases fl with
        | nx => exact fun σ3 H3 F3 t3 => ⟨e3, F3, (t'.trans t2).trans t3, q'⟩
        | ret d => exact POs.to (show POs Y M sc W nr fr σ H D (.ok (.ret d) e3) from q') ((t1.trans t').trans t2)
  · have e : i = vs.length := by omega
    subst e
    have hdr : (wrD wr es).drop vs.length = [] := List.drop_eq_nil_of_le (by rw [wrD_len, rv.len]; exact Nat.le_refl _)
    rw [hdr] at q'
    exact .inl ⟨wstop, (show ∀ σ' H', Fi Y.K M sc σ' H' ei → Tr Y.T M nr σ H σ' H' → D.nx σ' H' from q') σ' H' F' (t1.trans t')⟩
/-! ### while -/
theorem js_whl {body : List Stmt} {n : Nat} (hp : PassesOwn (model X.prog X.w) X.A X.env X.xe) (jc : JT Y M sc W X c f mc) (jb : JSs Y M sc W nr fr X body bS) :
    JS Y M sc W nr fr X (.While c body [] pos) (whlL (fun env => (f env).bind fun x e1 => VF.lift (tru x) e1) bS n) := by
  obtain ⟨cm, tc, pc, jc⟩ := jc
  obtain ⟨tb, pb, jb⟩ := jb
  refine ⟨_, ps_while hp pc pb, fun D σ H env F Tb h => ?_⟩
  refine ⟨fun m σ' H' => ∃ ei, Fi Y.K M sc σ' H' ei ∧ Tr Y.T M nr σ H σ' H' ∧ POs Y M sc W nr fr σ H D (whlL (fun env => (f env).bind fun x e1 => VF.lift (tru x) e1) bS m ei), ⟨n, env, F, .refl, h⟩, ?_⟩
  rintro m σ' H' ⟨ei, F', t', q'⟩
  cases m with
  | zero => exact q'.elim
  | succ m =>
    unfold whlL at q'
    have q1 := POs.to q' t'
    refine jc σ' H' ei _ F' (t'.tabs F Tb) (POs.expr (gg := fun x e1 => (VF.lift (tru x) e1).bind fun k e1 => if k then (bS e1).bind fun fl e2 => (match fl with
      | .nx => whlL (fun env => (f env).bind fun x e1 => VF.lift (tru x) e1) bS m e2
      | .ret d => .ok (.ret d) e2) else .ok .nx e1) cm (by rw [← bind_assoc]; exact q1) fun x e1 ed q2 => ?_)
    cases et : tru x with
    | none => rw [et] at q2; exact q2.elim
    | some kk =>
      rw [et] at q2
      refine ⟨kk, rfl, fun H2 F2 k2 => ?_⟩
      have t2 : Tr Y.T M nr σ' H' σ' H2 := .exp k2 cm
      cases kk with
      | false =>
        rw [if_neg (by simp)]
        have q2 : ∀ σ3 H3, Fi Y.K M sc σ3 H3 e1 → Tr Y.T M nr σ' H' σ3 H3 → D.nx σ3 H3 := q2
        exact q2 σ' H2 F2 t2
      | true =>
        rw [if_pos rfl]
        refine ⟨fun σ3 H3 => ∃ ei, Fi Y.K M sc σ3 H3 ei ∧ Tr Y.T M nr σ H σ3 H3 ∧ POs Y M sc W nr fr σ H D (whlL (fun env => (f env).bind fun x e1 => VF.lift (tru x) e1) bS m ei), fun σ3 H3 c => ⟨m, Nat.lt_succ_self m, c⟩, ?_⟩
        have q3 : POs Y M sc W nr fr σ H D ((bS e1).bind fun fl e2 => (match fl with
          | .nx => whlL (fun env => (f env).bind fun x e1 => VF.lift (tru x) e1) bS m e2
          | .ret d => .ok (.ret d) e2)) := by
          have hc : ((f ei).bind fun x e1 => VF.lift (tru x) e1) = .ok true e1 := by
            rw [ed]
            show VF.lift (tru x) e1 = _
            rw [et]
            rfl
          rw [hc] at q'
          exact q'
        refine jb _ σ' H2 e1 F2 ((t'.trans t2).tabs F Tb) ?_
        cases eb : bS e1 with
        | bad => rw [eb] at q3; exact q3
        | exc x e3 =>
          rw [eb] at q3
          exact POs.to (show POs Y M sc W nr fr σ H D (.exc x e3) from q3) (t'.trans t2)
        | ok fl e3 =>
          rw [eb] at q3
          cases fl with
          | nx => exact fun σ3 H3 F3 t3 => ⟨e3, F3, (t'.trans t2).trans t3, q3⟩
          | ret d => exact POs.to (show POs Y M sc W nr fr σ H D (.ok (.ret d) e3) from q3) (t'.trans t2)
end
end VF
set_option Elab.async false
set_option maxRecDepth 100000
set_option maxHeartbeats 4000000
namespace VF
open PySem PySem.Spec PyProof.Rows L2
/-! ### several clauses, each with a name for its error -/
structure Cl3 where
  cv : Value
  slot : Nat
  wish : Addr → Value → Option Addr → TS
/-- the ends of a suite, its name gone -/
def endedAt (i : Nat) (D : Ends) : Ends where
  nx τ J := D.nx (τ.set i none) J
  rt := D.rt
  bk τ J := D.bk (τ.set i none) J
  ct τ J := D.ct (τ.set i none) J
def wCls (K : PySem.W.Frag) (Wo : WX) (D : Ends) : List Cl3 → WX
  | [] => Wo
  | q :: r => fun cv dd τ J => ∃ hit, PySem.W.exmOne K cv q.cv = some hit ∧
      (hit = true → ∀ ad, J ad = none → q.wish ad cv dd (endedAt q.slot D) (τ.set q.slot (some (.ref ad))) J) ∧
      (hit = false → wCls K Wo D r cv dd τ J)
inductive ClsOk (X : Cx) : List ExceptHandler → List Cl3 → Prop
  | none : ClsOk X [] []
  | more {x nm : Str} {q : Cl3} {st : Stmt} {sts : List Stmt} {p1 p2 : Pos} {hs : List ExceptHandler} {l : List Cl3}
      (names : Names X x q.cv) (slot : X.N[q.slot]? = some nm) (loc : X.env.kindOf nm = some .local)
      (suite : ∀ (ad : Addr) (ob : Obj) (cv : Value) (dd : Option Addr) (pn : List (Addr × Obj)), Zc cv dd ob → (∃ fs, ob.data = .fields fs) → PSs (X.suite ad ((ad, ob) :: pn)) (st :: sts) (q.wish ad cv dd))
      (rest : ClsOk X hs l) : ClsOk X (.ExceptHandler (some (.Name x p1)) (some nm) (st :: sts) p2 :: hs) (q :: l)
/-- what a body's exception meets -/
def catchAt (X : Cx) (pins : List (Addr × Obj)) (D : Ends) (hs : List ExceptHandler) (er : Value) (t1 : Shared) : Prop :=
  wpAny (model X.prog X.w) X.A (noteFrame er X.env) (fun _ t2 =>
    wpAny (model X.prog X.w) X.A (setFlight er none) (fun _ t3 =>
      wpAny (model X.prog X.w) X.A (handleBy er X.env hs) (SP X pins D) X.xe t3) X.xe t2) X.xe t1
section
variable {X : Cx} {body : List Stmt} {e0 : ExceptHandler} {es : List ExceptHandler} {l : List Cl3} {pos : Pos} {tb : WX → TS} {Wo : WX}
theorem ps_try_cls (hstk : X.stack = X.env :: X.outer) (hfrm : X.env.frame = some X.env.locals) (nd : X.N.Nodup) (out : Takes X Wo)
    (inner : ∀ (W : WX) (pn : List (Addr × Obj)) (xe : Value → Shared → Prop), Takes (X.tr pn xe) W → PassesOwn (model X.prog X.w) X.A X.env xe → PSs (X.tr pn xe) body (tb W))
    (cl : ClsOk X (e0 :: es) l) : PS X (.Try body (e0 :: es) [] [] pos) (fun D σ H => tb (wCls X.K Wo D l) D σ H) := by
  constructor
  intro pins s σ H D I wish
  have okX := I.ok
  have frX : X.A.frames = some (X.env :: X.outer) := by rw [okX.frames, hstk]
  refine wpAny_Try_except (wpAny_mono ((inner (wCls X.K Wo D l) (X.pn ++ pins) (catchAt X pins D (e0 :: es)) ?thrown PassesOwn.looking).run [] s σ H D (I.toTry _) wish) ?ended fun _ _ z => z)
  case ended =>
    intro f t hf
    cases f with
    | next => obtain ⟨τ, J, q1, q2⟩ := hf; exact wpAny_execs_nil ⟨τ, J, q1.ofTry okX, q2⟩
    | brk => obtain ⟨τ, J, q1, q2⟩ := hf; exact ⟨τ, J, q1.ofTry okX, q2⟩
    | cont => obtain ⟨τ, J, q1, q2⟩ := hf; exact ⟨τ, J, q1.ofTry okX, q2⟩
    | ret u => obtain ⟨v, τ, J, q1, q2⟩ := hf; exact ⟨v, τ, J, q1.ofTry okX, q2⟩
  case thrown =>
    intro u t pack
    obtain ⟨ad, B, tI, pins2, τ, J, cv, dd, rfl, inv0, nbl, up0, sky0, free, osq, agq, due⟩ := pack
    have inv : Inv X pins τ J tI := inv0.ofTry okX
    replace sky0 : Sky B (X.env :: X.outer) ad (Zc cv dd) X.env.locals t.heap := by
      rw [← hstk]
      exact sky0
    show wpAny (model X.prog X.w) X.A (noteFrame (.ref ad) X.env) _ _ _
    refine Sky.land Zc.steady frX hfrm sky0 fun g fl up1 => ?_
    have inv1 : Inv X pins τ J { t with heap := g } := inv.landed nbl fl.1 (up0.trans up1) osq agq
    obtain ⟨ob, fs, at1, zc1, dat1⟩ := fl.there
    have apart : ad ∉ frs (X.env :: X.outer) := fun m => by
      obtain ⟨_, ob', at2, no⟩ := fl.2.2.1.mem m
      rw [at1] at at2
      cases at2
      exact no _ dat1
    have notLoc : ad ≠ X.env.locals := fun z => apart (List.mem_filterMap.mpr ⟨_, List.mem_cons_self, by rw [hfrm, z]⟩)
    have notFs : ad ∉ X.fs := fun m => by
      obtain ⟨en, m1, m2⟩ := List.mem_filterMap.mp m
      exact apart (List.mem_filterMap.mpr ⟨en, List.mem_cons_of_mem _ m1, m2⟩)
    have held := inv1.suite at1 dat1 free notLoc notFs
    have walk : ∀ {hs' : List ExceptHandler} {l' : List Cl3}, ClsOk X hs' l' → wCls X.K Wo D l' cv dd τ J →
        wpAny (model X.prog X.w) X.A (handleBy (.ref ad) X.env hs') (SP X pins D) X.xe { t with heap := g } := by
      intro hs' l' good
      induction good with
      | none =>
        intro last
        refine wpAny_handleBy_nil ?_
        obtain ⟨_, _, _, ob2, fs2, T, oT, ts2, b1, b2, b3, b4, b5⟩ := id fl
        unfold PySem.passOn
        refine wpAny_bind (wpAny_field b1 b3 b4 ?_)
        rw [if_neg (by simp)]
        have over : wpAny (model X.prog X.w) X.A (setFlight (.ref ad) X.env.frame) (fun _ t4 => wpAny (model X.prog X.w) X.A (throw (.ref ad) : Sem Flow) (SP X pins D) X.xe t4) X.xe { t with heap := g } := by
          rw [hfrm]
          refine HandSPX.setFlight_upZ fl fun g4 sky4 up4 => wpAny_throw (out _ _ ?_)
          exact ⟨ad, B, tI, pins, τ, J, cv, dd, rfl, inv, nbl, (up0.trans up1).trans up4, .inr (.inr (by rw [hstk]; exact sky4)), free, osq, agq, last⟩
        first
          | exact wpAny_bind over
          | exact wpAny_bind (wpAny_pure (wpAny_bind over))
      | @more x nm q st sts p1 p2 hs2 l2 names slot loc suite rest ih =>
        rintro ⟨hit, byKit, yes, no⟩
        refine wpAny_handleBy_cons (codeAny_handlers_test ?_) (by intro z; cases z)
        have ofTy : PySem.W.Looks (model X.prog X.w) g (typeOf (.ref ad)) cv := fun A Q E t5 k5 z => wpAny_typeOf_ref (k5 _ _ at1) (by rw [zc1.1]; exact z)
        have matches_ := PySem.W.exm_one (M := model X.prog X.w) inv1.kIn ofTy byKit
        have asked : ∀ {Q E : Value → Shared → Prop}, Q q.cv { t with heap := g } → wpAny (model X.prog X.w) (X.A.mark (some (.ref ad))) (eval (.Name x p1) X.env) Q E { t with heap := g } := fun {Q E} z => by
          obtain ⟨isG, dbg, m | ⟨m1, m2, m3⟩⟩ := names
          · exact ld_glob (X := X.suite ad ((ad, ob) :: (X.pn ++ pins))) held isG m z dbg
          · exact ld_blt (X := X.suite ad ((ad, ob) :: (X.pn ++ pins))) held isG m1 m2 z m3 dbg
        refine asked (matches_.here ?_)
        cases hit with
        | false => exact ih (no rfl)
        | true =>
          refine codeAny_handlers_suite_as ?_
          refine HandSPX.lands_againZ fl fun g4 fl4 up4 => ?_
          have inv4 : Inv X pins τ J { t with heap := g4 } := inv.landed nbl fl4.1 ((up0.trans up1).trans up4) osq agq
          obtain ⟨ob4, fs4, at4, zc4, dat4⟩ := fl4.there
          have held4 := inv4.suite at4 dat4 free notLoc notFs
          refine store_ok (X := X.suite ad ((ad, ob4) :: (X.pn ++ pins))) (v := .ref ad) held4 nd slot (.inl loc) rfl (fun t5 held5 => ?_) (.inr loc)
          refine wpAny_mono ((suite ad ob4 cv dd (X.pn ++ pins) zc4 ⟨_, dat4⟩).run [] t5 _ J _ held5 (yes rfl ad free)) (fun f t6 ran => ?_) fun _ _ z => z.elim
          cases f with
          | next => obtain ⟨τ6, J6, q1, q2⟩ := ran; exact gone_ok (q1.unsuite okX) nd slot loc fun t7 q7 => ⟨_, _, q7, q2⟩
          | brk => obtain ⟨τ6, J6, q1, q2⟩ := ran; exact gone_ok (q1.unsuite okX) nd slot loc fun t7 q7 => ⟨_, _, q7, q2⟩
          | cont => obtain ⟨τ6, J6, q1, q2⟩ := ran; exact gone_ok (q1.unsuite okX) nd slot loc fun t7 q7 => ⟨_, _, q7, q2⟩
          | ret u => obtain ⟨v6, τ6, J6, q1, r6, q2⟩ := ran; exact gone_ok (q1.unsuite okX) nd slot loc fun t7 q7 => ⟨_, _, _, q7, r6, q2⟩
    exact walk cl due
end
end VF
set_option Elab.async false
set_option maxRecDepth 100000
set_option maxHeartbeats 4000000
namespace VF
open PySem PySem.Spec PyProof.Rows L2
section
variable {Y : Sys} {M : MM} {sc : SC} {W : WX} {nr : Nat} {fr : Bool} {X : Cx} {σ σ1 : L2.St} {H H1 : Hp} {D : Ends} {k : Nat}
variable {pos : Pos} {bS hS : Env → Out Flw} {env : Env}
/-- an exception class of the program's own, without fields -/
structure ExI (Y : Sys) (cls : Str) : Prop where
  db : (cls == ("__debug__" : Str)) = false
  ex : ∃ (C : Addr) (bmB : List Value) (B newId initId : String), Y.mg cls = some (.ref C) ∧ PySem.W.keepIn Y.K (.ref C) = true ∧ ExcBaseFacts B newId initId bmB ∧ PySem.W.excIn Y.K C bmB newId = true ∧ PySem.W.subIn Y.K (.ref C) (.type "BaseException") = some true ∧ PySem.W.typeIn Y.K (.ref C) = some (.type "type")
theorem js_raise {cls m : Str} {j : Nat} {p p2 pos2 : Pos} (O : XOk Y k true X) (tk : Takes X W) (I : ExI Y cls) (hg : Gl X cls) : JS Y M sc W nr fr X (.Raise (some (.Call (.Name cls p) [.Constant (.str m) j p2] [] pos2)) none pos) (fun env => .exc ⟨cls, none⟩ env) := by
  obtain ⟨C, bmB, B, newId, initId, g1, g2, g3, g4, g5, g6⟩ := I.ex
  rw [← O.mg] at g1
  rw [← O.K] at g2 g4 g5 g6
  refine ⟨_, L2.ps_raise (O.calm rfl) tk (L2.pmk_own g3 g4 g1 g2 (L2.raises_own g5 g6) hg I.db), fun D σ H env F Tb h => ?_⟩
  rw [O.mg] at g1
  exact h _ none σ H F .refl ⟨⟨C, g1, rfl⟩, fun f d e => (by cases e), fun _ => rfl⟩

/-! ### try -/
def TJS (Y : Sys) (M : MM) (sc : SC) (W : WX) (nr : Nat) (fr : Bool) (f : Env → Out Flw) : TS := fun D σ H => ∃ env, Fi Y.K M sc σ H env ∧ LamX.Tabs Y.T H ∧ POs Y M sc W nr fr σ H D (f env)
theorem TJS.ps {b : List Stmt} {f : Env → Out Flw} (h : JSs Y M sc W nr fr X b f) : PSs X b (TJS Y M sc W nr fr f) :=
  ⟨fun pins s σ H D I ⟨env, F, Tb, q⟩ => let ⟨_, p, j⟩ := h; p.run pins s σ H D I (j D σ H env F Tb q)⟩
def JH (Y : Sys) (M : MM) (sc : SC) (W : WX) (nr : Nat) (fr : Bool) (X : Cx) (hds : List ExceptHandler) (f : Exn → Env → Out Flw) : Prop := ∃ l, HdsOk X hds l ∧
  ∀ D σ H x e cls dd, Fi Y.K M sc σ H e → LamX.Tabs Y.T H → ExRo Y x cls dd H → POs Y M sc W nr fr σ H D (f x e) → wMany X.K W D l cls dd σ H
theorem jh_nil : JH Y M sc W nr fr X [] (fun x e => .exc x e) := ⟨[], .nil, fun D σ H x e cls dd F Tb r h => h cls dd σ H F .refl r⟩
def HsI (Y : Sys) (exm : Str → Str → Option Bool) (hc : Str) (c : Value) : Prop := ∀ xc b C, exm xc hc = some b → Y.mg xc = some (.ref C) → PySem.W.exmOne Y.K (.ref C) c = some b
theorem jh_cons {exm : Str → Str → Option Bool} {hc : Str} {c : Value} {b0 : Stmt} {b : List Stmt} {np pos' : Pos} {hds : List ExceptHandler} {rS : Exn → Env → Out Flw} (hK : X.K = Y.K) (hn : Names X hc c) (hI : HsI Y exm hc c)
    (jb : ∀ a pn, JSs Y M sc WN nr fr (X.suite a pn) (b0 :: b) hS) (jr : JH Y M sc W nr fr X hds rS) :
    JH Y M sc W nr fr X (.ExceptHandler (some (.Name hc np)) none (b0 :: b) pos' :: hds) (fun x e => match exm x.cls hc with
    | some true => (hS e).nox
    | some false => rS x e
    | none => .bad) := by
  obtain ⟨l, hl, jr⟩ := jr
  refine ⟨(c, fun _ _ _ => TJS Y M sc WN nr fr hS) :: l, .cons hn (fun a oe cls d pn _ _ => TJS.ps (jb a _)) hl, fun D σ H x e cls dd F Tb r h => ?_⟩
  obtain ⟨C, h1, h2⟩ := r.cls
  dsimp only at h
  cases ex : exm x.cls hc with
  | none => rw [ex] at h; exact h.elim
  | some bb =>
    rw [ex] at h
    refine ⟨bb, by rw [hK, h2]; exact hI _ _ _ ex h1, fun eb a _ => ?_, fun eb => ?_⟩
    · subst eb
      dsimp only at h
      refine ⟨e, F, Tb, ?_⟩
      cases q : hS e with
      | bad => rw [q] at h; exact h
      | exc x' e' => rw [q] at h; exact h.elim
      | ok fl e' =>
        rw [q] at h
        cases fl with
        | nx => exact h
        | ret d => exact h
    · subst eb
      exact jr D σ H x e cls dd F Tb r h
theorem js_try {body : List Stmt} {h0 : ExceptHandler} {hds : List ExceptHandler} {hT : Exn → Env → Out Flw} (hs : X.stack = X.env :: X.outer) (hf : X.env.frame = some X.env.locals) (tk : Takes X W)
    (jb : ∀ (W' : WX) (pn : List (Addr × Obj)) (xe : Value → Shared → Prop), Takes (X.tr pn xe) W' → PassesOwn (model X.prog X.w) X.A X.env xe → JSs Y M sc W' nr fr (X.tr pn xe) body bS) (jh : JH Y M sc W nr fr X (h0 :: hds) hT) :
    JS Y M sc W nr fr X (.Try body (h0 :: hds) [] [] pos) (fun env => match bS env with
    | .ok f e => .ok f e
    | .exc x e => hT x e
    | .bad => .bad) := by
  obtain ⟨l, hl, jh⟩ := jh
  refine ⟨_, ps_try_many (tb := fun W' => TJS Y M sc W' nr fr bS) hs hf tk (fun W' pn xe tk' hp => TJS.ps (jb W' pn xe tk' hp)) hl, fun D σ H env F Tb h => ?_⟩
  refine ⟨env, F, Tb, ?_⟩
  dsimp only at h
  cases q : bS env with
  | bad => rw [q] at h; exact h
  | ok fl e =>
    rw [q] at h
    cases fl with
    | nx => exact h
    | ret d => exact h
  | exc x e =>
    rw [q] at h
    exact fun cls dd σ' H' F' t' r => jh D σ' H' x e cls dd F' (t'.tabs F Tb) r (POs.to h t')
/-! ### except .. as -/
/-- what a suite for an error of each class does -/
def tblAt (f : Str → Option (Env → Out Flw)) (i : Nat) (exm : Str → Str → Option Bool) (hc : Str) (x : Exn) (e : Env) : Out Flw := match exm x.cls hc with
  | some true => (match x.fld with
    | none => if i < e.length then (match f x.cls with
      | some g => endN i (g (e.set i none))
      | none => .bad) else .bad
    | some _ => .bad)
  | some false => .exc x e
  | none => .bad
/-- the suite's own wish -/
def asT (Y : Sys) (M : MM) (sc : SC) (nr : Nat) (fr : Bool) (i : Nat) (f : Str → Option (Env → Out Flw)) : Addr → Value → Option Addr → TS := fun a cls d D σ H =>
  ∃ c g env C, f c = some g ∧ Y.mg c = some (.ref C) ∧ cls = .ref C ∧ d = none ∧ Fi Y.K M ⟨sc.ns, some (i, a)⟩ σ H env ∧ LamX.Tabs Y.T H ∧ POs Y M ⟨sc.ns, some (i, a)⟩ WN nr fr σ H D (g env)
/-- the slot of an error's name -/
theorem Fi.held {i : Nat} {a : Addr} {e : Env} (F : Fi Y.K M sc σ H e) (hi : i < σ.length) (mi : M i = false) (n0 : ¬ fx sc i) (hx : sc.x = none) : Fi Y.K M ⟨sc.ns, some (i, a)⟩ (σ.set i (some (.ref a))) H (e.set i none) := by
  have ne : ∀ {j}, M j = true → i ≠ j := fun {j} mj z => by rw [z, mj] at mi; cases mi
  have F1 : Fi Y.K M sc (σ.set i (some (.ref a))) H (e.set i none) := by
    refine F.other (fun j mj => ⟨List.getElem?_set_ne (ne mj), List.getElem?_set_ne (ne mj)⟩) (fun j q => List.getElem?_set_ne (fun z => n0 (by rw [z]; exact q))) (by simp) (by simp) fun j d e1 mj => ?_
    by_cases q : i = j
    · subst q
      by_cases hl : i < e.length
      · rw [List.getElem?_set_self hl] at e1; cases e1
      · rw [List.getElem?_eq_none (by simpa using hl)] at e1; cases e1
    · rw [List.getElem?_set_ne q] at e1
      obtain ⟨v, h1, h2⟩ := F.val j d e1 mj
      exact ⟨v, by rw [List.getElem?_set_ne q]; exact h1, h2⟩
  exact ⟨F1.len, F1.val, F1.mt, F1.un, F1.inj, F1.gin, F1.gno, fun ns e1 => F1.scr ns e1, fun j b e1 => by
    cases e1
    exact ⟨List.getElem?_set_self hi, mi⟩⟩
/-- the name is gone -/
theorem Fi.unheld {i : Nat} {a : Addr} {e : Env} (F : Fi Y.K M ⟨sc.ns, some (i, a)⟩ σ H e) (mi : M i = false) (n0 : ¬ fx sc i) (hx : sc.x = none) {σ' : L2.St} (hs : ∀ j, j ≠ i → σ'[j]? = σ[j]?) (hl : σ'.length = σ.length) : Fi Y.K M sc σ' H (e.set i none) := by
  have F0 : Fi Y.K M sc σ H e := ⟨F.len, F.val, F.mt, F.un, F.inj, F.gin, F.gno, fun ns e1 => F.scr ns e1, fun j b e1 => by rw [hx] at e1; cases e1⟩
  have ne : ∀ {j}, M j = true → j ≠ i := fun {j} mj z => by rw [← z, mj] at mi; cases mi
  refine F0.other (fun j mj => ⟨hs j (ne mj), List.getElem?_set_ne (Ne.symm (ne mj))⟩) (fun j q => hs j (fun z => n0 (by rw [← z]; exact q))) hl (by simp) fun j d e1 mj => ?_
  by_cases q : i = j
  · subst q
    by_cases hl : i < e.length
    · rw [List.getElem?_set_self hl] at e1; cases e1
    · rw [List.getElem?_eq_none (by simpa using hl)] at e1; cases e1
  · rw [List.getElem?_set_ne q] at e1
    obtain ⟨v, h1, h2⟩ := F0.val j d e1 mj
    exact ⟨v, by rw [hs j (Ne.symm q)]; exact h1, h2⟩
theorem js_try_as {exm : Str → Str → Option Bool} {hc n : Str} {i : Nat} {c : Value} {b0 : Stmt} {b : List Stmt} {np pos' : Pos} {body : List Stmt} {f : Str → Option (Env → Out Flw)} (hs : X.stack = X.env :: X.outer) (hf : X.env.frame = some X.env.locals) (tk : Takes X W) (hK : X.K = Y.K)
    (hN : X.N.Nodup) (hi : X.N[i]? = some n) (hln : X.env.kindOf n = some .local) (hn : Names X hc c) (hI : HsI Y exm hc c) (mi : M i = false) (n0 : ¬ fx sc i) (hx : sc.x = none) (hr : ∀ j, j < nr → M j = true)
    (jb : ∀ (W' : WX) (pn : List (Addr × Obj)) (xe : Value → Shared → Prop), Takes (X.tr pn xe) W' → PassesOwn (model X.prog X.w) X.A X.env xe → JSs Y M sc W' nr fr (X.tr pn xe) body bS)
    (js : ∀ c g C (a : Addr) (oe : Obj) (pn : List (Addr × Obj)), f c = some g → Y.mg c = some (.ref C) → Zc (.ref C) none oe → (∃ vs, oe.data = .fields vs) → JSs Y M ⟨sc.ns, some (i, a)⟩ WN nr fr (X.suite a ((a, oe) :: pn)) (b0 :: b) g) :
    JS Y M sc W nr fr X (.Try body [.ExceptHandler (some (.Name hc np)) (some n) (b0 :: b) pos'] [] [] pos) (fun env => match bS env with
    | .ok f e => .ok f e
    | .exc x e => tblAt f i exm hc x e
    | .bad => .bad) := by
  refine ⟨_, ps_try_as (ts := asT Y M sc nr fr i f) (tb := fun W' => TJS Y M sc W' nr fr bS) hs hf hN hi hln hn tk (fun W' pn xe tk' hp => TJS.ps (jb W' pn xe tk' hp)) (fun a oe cls d pn hz hv => ⟨fun pins s σ H D I h => ?_⟩), fun D σ H env F Tb h => ?_⟩
  · obtain ⟨cn, g, env, C, h1, h2, rfl, rfl, F, Tb, q⟩ := h
    obtain ⟨_, p, j⟩ := js cn g C a oe pn h1 h2 hz hv
    exact p.run pins s σ H D I (j D σ H env F Tb q)
  · refine ⟨env, F, Tb, ?_⟩
    dsimp only at h
    cases q : bS env with
    | bad => rw [q] at h; exact h
    | ok fl e =>
      rw [q] at h
      cases fl with
      | nx => exact h
      | ret d => exact h
    | exc x e =>
      rw [q] at h
      refine fun cls dd σ' H' F' t' r => ?_
      have h : POs Y M sc W nr fr σ H D (tblAt f i exm hc x e) := h
      unfold tblAt at h
      obtain ⟨C, g1, g2⟩ := r.cls
      cases ex : exm x.cls hc with
      | none => rw [ex] at h; exact h.elim
      | some bb =>
        rw [ex] at h
        refine ⟨bb, by rw [hK, g2]; exact hI _ _ _ ex g1, fun eb a ha => ?_, fun eb => ?_⟩
        · subst eb
          dsimp only at h
          cases hfl : x.fld with
          | some q => rw [hfl] at h; exact h.elim
          | none =>
            rw [hfl] at h
            dsimp only at h
            by_cases hil0 : i < e.length
            case neg => rw [if_neg hil0] at h; exact h.elim
            rw [if_pos hil0] at h
            have hil : i < σ'.length := by rw [← F'.len]; exact hil0
            cases hff : f x.cls with
            | none => rw [hff] at h; exact h.elim
            | some g =>
              rw [hff] at h
              dsimp only at h
              have F1 := F'.held (a := a) hil mi n0 hx
              have t1 : Tr Y.T M nr σ' H' (σ'.set i (some (.ref a))) H' := .other (fun j mj => by rw [List.getElem?_set_ne (fun z => by rw [z, mj] at mi; cases mi)]) hr
              refine ⟨x.cls, g, e.set i none, C, hff, g1, g2, r.nof hfl, F1, t'.tabs F Tb, ?_⟩
              cases qg : g (e.set i none) with
              | bad => rw [qg] at h; exact h
              | exc x' e' => rw [qg] at h; exact h.elim
              | ok fl e' =>
                rw [qg] at h
                cases fl with
                | nx =>
                  have h : ∀ σ2 H2, Fi Y.K M sc σ2 H2 (e'.set i none) → Tr Y.T M nr σ H σ2 H2 → D.nx σ2 H2 := h
                  intro σ2 H2 F2 t2
                  refine h _ H2 (F2.unheld mi n0 hx (fun j hj => List.getElem?_set_ne (Ne.symm hj)) (by simp)) ((t'.trans (t1.trans t2)).trans (.other (fun j mj => by rw [List.getElem?_set_ne (fun z => by rw [z, mj] at mi; cases mi)]) hr))
                | ret d =>
                  have h : ∀ v σ2 H2, Fi Y.K M sc σ2 H2 (e'.set i none) → Tr Y.T M nr σ H σ2 H2 → RetOk Y M nr fr σ H σ2 H2 d v → D.rt v H2 := h
                  intro v σ2 H2 F2 t2 r2
                  exact h v σ2 H2 (F2.unheld mi n0 hx (fun j _ => rfl) rfl) (t'.trans (t1.trans t2)) (r2.to (t'.trans t1))
        · subst eb
          dsimp only at h
          exact h cls dd σ' H' F' t' r
/-! ### several clauses, each with a name -/
def JM (Y : Sys) (M : MM) (sc : SC) (W : WX) (nr : Nat) (fr : Bool) (X : Cx) (hds : List ExceptHandler) (f : Exn → Env → Out Flw) : Prop := ∃ l, ClsOk X hds l ∧
  ∀ D σ H x e cls dd, Fi Y.K M sc σ H e → LamX.Tabs Y.T H → ExRo Y x cls dd H → POs Y M sc W nr fr σ H D (f x e) → wCls X.K W D l cls dd σ H
theorem jm_nil : JM Y M sc W nr fr X [] (fun x e => .exc x e) := ⟨[], .none, fun D σ H x e cls dd F Tb r h => h cls dd σ H F .refl r⟩
/-- one clause, then the others -/
def tblM (f : Str → Option (Env → Out Flw)) (i : Nat) (exm : Str → Str → Option Bool) (hc : Str) (rest : Exn → Env → Out Flw) (x : Exn) (e : Env) : Out Flw := match exm x.cls hc with
  | some true => (match x.fld with
    | none => if i < e.length then (match f x.cls with
      | some g => endN i (g (e.set i none))
      | none => .bad) else .bad
    | some _ => .bad)
  | some false => rest x e
  | none => .bad
theorem jm_cons {exm : Str → Str → Option Bool} {hc n : Str} {i : Nat} {c : Value} {b0 : Stmt} {b : List Stmt} {np pos' : Pos} {hds : List ExceptHandler} {rS : Exn → Env → Out Flw} {f : Str → Option (Env → Out Flw)} (hK : X.K = Y.K)
    (hi : X.N[i]? = some n) (hln : X.env.kindOf n = some .local) (hn : Names X hc c) (hI : HsI Y exm hc c) (mi : M i = false) (n0 : ¬ fx sc i) (hx : sc.x = none) (hr : ∀ j, j < nr → M j = true)
    (js : ∀ c g C (a : Addr) (oe : Obj) (pn : List (Addr × Obj)), f c = some g → Y.mg c = some (.ref C) → Zc (.ref C) none oe → (∃ vs, oe.data = .fields vs) → JSs Y M ⟨sc.ns, some (i, a)⟩ WN nr fr (X.suite a ((a, oe) :: pn)) (b0 :: b) g)
    (jr : JM Y M sc W nr fr X hds rS) : JM Y M sc W nr fr X (.ExceptHandler (some (.Name hc np)) (some n) (b0 :: b) pos' :: hds) (tblM f i exm hc rS) := by
  obtain ⟨l, hl, jr⟩ := jr
  refine ⟨⟨c, i, asT Y M sc nr fr i f⟩ :: l, .more (q := ⟨c, i, asT Y M sc nr fr i f⟩) hn hi hln (fun a oe cls d pn hz hv => ⟨fun pins s σ H D I h => ?_⟩) hl, fun D σ H x e cls dd F Tb r h => ?_⟩
  · obtain ⟨cn, g, env, C, h1, h2, rfl, rfl, F, Tb, q⟩ := h
    obtain ⟨_, p, j⟩ := js cn g C a oe pn h1 h2 hz hv
    exact p.run pins s σ H D I (j D σ H env F Tb q)
  · unfold tblM at h
    obtain ⟨C, g1, g2⟩ := r.cls
    cases ex : exm x.cls hc with
    | none => rw [ex] at h; exact h.elim
    | some bb =>
      rw [ex] at h
      refine ⟨bb, by rw [hK, g2]; exact hI _ _ _ ex g1, fun eb a ha => ?_, fun eb => ?_⟩
      · subst eb
        dsimp only at h
        cases hfl : x.fld with
        | some q => rw [hfl] at h; exact h.elim
        | none =>
          rw [hfl] at h
          dsimp only at h
          by_cases hil0 : i < e.length
          case neg => rw [if_neg hil0] at h; exact h.elim
          rw [if_pos hil0] at h
          have hil : i < σ.length := by rw [← F.len]; exact hil0
          cases hff : f x.cls with
          | none => rw [hff] at h; exact h.elim
          | some g =>
            rw [hff] at h
            dsimp only at h
            have F1 := F.held (a := a) hil mi n0 hx
            have t1 : Tr Y.T M nr σ H (σ.set i (some (.ref a))) H := .other (fun j mj => by rw [List.getElem?_set_ne (fun z => by rw [z, mj] at mi; cases mi)]) hr
            refine ⟨x.cls, g, e.set i none, C, hff, g1, g2, r.nof hfl, F1, Tb, ?_⟩
            cases qg : g (e.set i none) with
            | bad => rw [qg] at h; exact h
            | exc x' e' => rw [qg] at h; exact h.elim
            | ok fl e' =>
              rw [qg] at h
              cases fl with
              | nx =>
                have h : ∀ σ2 H2, Fi Y.K M sc σ2 H2 (e'.set i none) → Tr Y.T M nr σ H σ2 H2 → D.nx σ2 H2 := h
                intro σ2 H2 F2 t2
                refine h _ H2 (F2.unheld mi n0 hx (fun j hj => List.getElem?_set_ne (Ne.symm hj)) (by simp)) ((t1.trans t2).trans (.other (fun j mj => by rw [List.getElem?_set_ne (fun z => by have z : i = j := z; rw [z, mj] at mi; cases mi)]) hr))
              | ret d =>
                have h : ∀ v σ2 H2, Fi Y.K M sc σ2 H2 (e'.set i none) → Tr Y.T M nr σ H σ2 H2 → RetOk Y M nr fr σ H σ2 H2 d v → D.rt v H2 := h
                intro v σ2 H2 F2 t2 r2
                exact h v σ2 H2 (F2.unheld mi n0 hx (fun j _ => rfl) rfl) (t1.trans t2) (r2.to t1)
      · subst eb
        dsimp only at h
        exact jr D σ H x e cls dd F Tb r h
theorem js_try_m {body : List Stmt} {h0 : ExceptHandler} {hds : List ExceptHandler} {hT : Exn → Env → Out Flw} (hs : X.stack = X.env :: X.outer) (hf : X.env.frame = some X.env.locals) (hN : X.N.Nodup) (tk : Takes X W)
    (jb : ∀ (W' : WX) (pn : List (Addr × Obj)) (xe : Value → Shared → Prop), Takes (X.tr pn xe) W' → PassesOwn (model X.prog X.w) X.A X.env xe → JSs Y M sc W' nr fr (X.tr pn xe) body bS) (jh : JM Y M sc W nr fr X (h0 :: hds) hT) :
    JS Y M sc W nr fr X (.Try body (h0 :: hds) [] [] pos) (fun env => match bS env with
    | .ok f e => .ok f e
    | .exc x e => hT x e
    | .bad => .bad) := by
  obtain ⟨l, hl, jh⟩ := jh
  refine ⟨_, ps_try_cls (tb := fun W' => TJS Y M sc W' nr fr bS) hs hf hN tk (fun W' pn xe tk' hp => TJS.ps (jb W' pn xe tk' hp)) hl, fun D σ H env F Tb h => ?_⟩
  refine ⟨env, F, Tb, ?_⟩
  dsimp only at h
  cases q : bS env with
  | bad => rw [q] at h; exact h
  | ok fl e =>
    rw [q] at h
    cases fl with
    | nx => exact h
    | ret d => exact h
  | exc x e =>
    rw [q] at h
    exact fun cls dd σ' H' F' t' r => jh D σ' H' x e cls dd F' (t'.tabs F Tb) r (POs.to h t')
end
end VF
set_option Elab.async false
set_option maxRecDepth 100000
set_option maxHeartbeats 4000000
namespace VF
open PySem PySem.Spec PyProof.Rows L2
theorem sl_range {σ : L2.St} : ∀ {as : List Addr} {o : Nat}, (∀ j a, as[j]? = some a → σ[o + j]? = some (some (V.ref a))) → Sl σ (List.range' o as.length) as
  | [], o, _ => rfl
  | a :: as, o, h => by
    refine ⟨a, as, rfl, by simpa using h 0 a rfl, ?_⟩
    refine sl_range fun j b e => ?_
    have := h (j + 1) b (by simpa using e)
    rw [show o + 1 + j = o + (j + 1) by omega]
    exact this
theorem sl_get {σ : L2.St} : ∀ {is : List Nat} {as : List Addr} {j i : Nat}, Sl σ is as → is[j]? = some i → ∃ a, as[j]? = some a ∧ σ[i]? = some (some (V.ref a))
  | [], _, _, _, _, h => by simp at h
  | i :: is, _, 0, i', s, h => by
    obtain ⟨a, r, e, e1, e2⟩ := s
    subst e
    simp at h
    subst h
    exact ⟨a, by simp, e1⟩
  | i :: is, _, j + 1, i', s, h => by
    obtain ⟨a, r, e, e1, e2⟩ := s
    subst e
    obtain ⟨b, h1, h2⟩ := sl_get (j := j) e2 (by simpa using h)
    exact ⟨b, by simpa using h1, h2⟩
theorem refs_get {K : PySem.W.Frag} {F : Addr → Prop} {H : Hp} : ∀ {ds : List PyData} {as : List Addr} {j : Nat} {d : PyData}, Refs K F H ds as → ds[j]? = some d → ∃ a xs vs, as[j]? = some a ∧ d = .list xs ∧ H a = some (.lst vs) ∧ Reps K F H xs vs
  | [], _, _, _, _, h => by simp at h
  | d :: ds, _, 0, d', r, h => by
    obtain ⟨a, ar, xs, vs, e, e1, e2, e3, e4⟩ := r
    subst e
    simp at h
    subst h
    exact ⟨a, xs, vs, by simp, e1, e2, e3⟩
  | d :: ds, _, j + 1, d', r, h => by
    obtain ⟨a, ar, xs, vs, e, e1, e2, e3, e4⟩ := r
    subst e
    obtain ⟨b, ys, us, h1, h2⟩ := refs_get (j := j) e4 (by simpa using h)
    exact ⟨b, ys, us, by simpa using h1, h2⟩
/-- which slots own lists, at a def's entry -/
structure MOk (m : Nat → Bool) (nr np : Nat) : Prop where
  ref : ∀ j, j < nr → m j = true
  par : ∀ j, j < np → m j = true → j < nr
  le : nr ≤ np
section
variable {Y : Sys} {m : Nat → Bool} {nr : Nat} {X : Cx} {σ : L2.St} {H : Hp} {k : Nat}
theorem start_get {N : List Str} {vs : List V} {i : Nat} {v : V} (h : vs[i]? = some v) : (L2.start N vs)[i]? = some (some v) := by
  unfold L2.start
  obtain ⟨hl, e⟩ := List.getElem?_eq_some_iff.mp h
  rw [List.getElem?_append_left (by simpa using hl), List.getElem?_map, h]
  rfl
theorem start_out {N : List Str} {vs : List V} {i : Nat} (hl : vs.length ≤ i) (hN : i < N.length) : (L2.start N vs)[i]? = some none := by
  unfold L2.start
  rw [List.getElem?_append_right (by simpa using hl), List.getElem?_replicate]
  rw [if_pos (by rw [List.length_map]; omega)]
theorem start_some {N : List Str} {vs : List V} {i : Nat} {v : V} (h : (L2.start N vs)[i]? = some (some v)) : vs[i]? = some v := by
  unfold L2.start at h
  by_cases hl : i < vs.length
  · rw [List.getElem?_append_left (by simpa using hl), List.getElem?_map] at h
    cases q : vs[i]? with
    | none => rw [q] at h; cases h
    | some x => rw [q] at h; cases h; rfl
  · rw [List.getElem?_append_right (by simpa using hl), List.getElem?_replicate] at h
    split at h <;> cases h
def env0 (n np : Nat) (ds : List PyData) : Env := ds.map some ++ List.replicate (n - np) none
theorem env0_some {n np : Nat} {ds : List PyData} {i : Nat} {d : PyData} (h : (env0 n np ds)[i]? = some (some d)) : ds[i]? = some d := by
  unfold env0 at h
  by_cases hl : i < ds.length
  · rw [List.getElem?_append_left (by simpa using hl), List.getElem?_map] at h
    cases q : ds[i]? with
    | none => rw [q] at h; cases h
    | some x => rw [q] at h; cases h; rfl
  · rw [List.getElem?_append_right (by simpa using hl), List.getElem?_replicate] at h
    split at h <;> cases h
/-- the entry -/
theorem fi_start {N : List Str} {np : Nat} {as : List Addr} {ws : List V} {xs ds : List PyData} {G : Addr → Prop} (mo : MOk m nr np) (hN : np ≤ N.length) (hl : (as.map V.ref ++ ws).length = np) (ha : as.length = nr) (nd : as.Nodup) (ag : ∀ a, a ∈ as → ¬ G a) (gl : ∀ a, G a → ∃ us, H a = some (.lst us))
    (rf : Refs Y.K (Fcat as G) H xs as) (rd : Reps Y.K (Fcat as G) H ds ws) :
    Fi Y.K ⟨m, G⟩ ⟨none, none⟩ (L2.start N (as.map V.ref ++ ws)) H (env0 N.length np (xs ++ ds)) ∧ (∀ (j : Nat) (a : Addr), as[j]? = some a → (L2.start N (as.map V.ref ++ ws) : L2.St)[j]? = some (some (V.ref a))) ∧
    (∀ (i : Nat) (a : Addr), m i = true → (L2.start N (as.map V.ref ++ ws) : L2.St)[i]? = some (some (V.ref a)) → as[i]? = some a) := by
  have lx : xs.length = nr := by rw [← rf.len, ha]
  have ld : ds.length = ws.length := rd.len.symm
  have hl' := hl
  rw [List.length_append, List.length_map] at hl'
  have sref : ∀ (j : Nat) (a : Addr), as[j]? = some a → (L2.start N (as.map V.ref ++ ws) : L2.St)[j]? = some (some (V.ref a)) := fun j a e => by
    obtain ⟨h1, h2⟩ := List.getElem?_eq_some_iff.mp e
    refine start_get ?_
    rw [List.getElem?_append_left (by simpa using h1), List.getElem?_map, e]
    rfl
  have sM : ∀ (i : Nat) (a : Addr), m i = true → (L2.start N (as.map V.ref ++ ws) : L2.St)[i]? = some (some (V.ref a)) → as[i]? = some a := fun i a mi e => by
    have e1 := start_some e
    have hi : i < np := by rw [← hl]; exact (List.getElem?_eq_some_iff.mp e1).1
    have hr := mo.par i hi mi
    rw [List.getElem?_append_left (by rw [List.length_map]; omega), List.getElem?_map] at e1
    cases q : as[i]? with
    | none => rw [q] at e1; cases e1
    | some b => rw [q] at e1; cases e1; rfl
  have fx : ∀ a, FX ⟨m, G⟩ [] (L2.start N (as.map V.ref ++ ws)) a → Fcat as G a := fun a z => by
    rcases z with g | ⟨i, z1, _, z3⟩
    · exact .inl g
    · exact .inr (List.mem_of_getElem? (sM i a z1 z3))
  refine ⟨⟨?_, fun i d e mi => ?_, fun i d e mi => ?_, fun i mi e => ?_, fun i j a mi mj e1 e2 => ?_, gl, fun i a mi e g => ?_, fun ns e => (by cases e), fun _ _ e => (by cases e)⟩, sref, sM⟩
  · unfold env0 L2.start
    simp only [List.length_append, List.length_map, List.length_replicate]
    omega
  · have e1 := env0_some e
    have hi : ¬ i < nr := fun q => by
      have : m i = false := mi
      rw [mo.ref i q] at this; cases this
    rw [List.getElem?_append_right (by omega), lx] at e1
    obtain ⟨v, h1, h2⟩ := rd.get e1
    refine ⟨v, start_get ?_, Rep.weak fx _ _ h2⟩
    rw [List.getElem?_append_right (by rw [List.length_map]; omega), List.length_map, ha]
    exact h1
  · have e1 := env0_some e
    have hi : i < np := by
      have := (List.getElem?_eq_some_iff.mp e1).1
      rw [List.length_append] at this
      omega
    have hr := mo.par i hi mi
    rw [List.getElem?_append_left (by omega)] at e1
    obtain ⟨a, ys, us, h1, h2, h3, h4⟩ := refs_get rf e1
    exact ⟨a, us, ys, sref i a h1, h2, h3, Reps.weak fx _ _ h4⟩
  · have hi : ¬ i < np := fun q => by
      have hr := mo.par i q mi
      unfold env0 at e
      have hx : i < (xs ++ ds).length := by rw [List.length_append]; omega
      rw [List.getElem?_append_left (by simpa using hx), List.getElem?_map, List.getElem?_eq_getElem hx] at e
      cases e
    refine start_out (by rw [hl]; omega) ?_
    have := (List.getElem?_eq_some_iff.mp e).1
    unfold env0 at this
    simp only [List.length_append, List.length_map, List.length_replicate] at this
    omega
  · have a1 := sM i a mi e1
    have a2 := sM j a mj e2
    obtain ⟨h1, h2⟩ := List.getElem?_eq_some_iff.mp a1
    obtain ⟨h3, h4⟩ := List.getElem?_eq_some_iff.mp a2
    have nd' : as.Pairwise (· ≠ ·) := nd
    rcases Nat.lt_trichotomy i j with q | q | q
    · exact absurd (h2.trans h4.symm) (List.pairwise_iff_getElem.mp nd' i j h1 h3 q)
    · exact q
    · exact absurd (h4.trans h2.symm) (List.pairwise_iff_getElem.mp nd' j i h3 h1 q)
  · exact ag a (List.mem_of_getElem? (sM i a mi e)) g
/-- a body that does what it says makes a def that does -/
theorem body_ok {N : List Str} {body : List Stmt} {f : Str} {s : Sig} {vs : List V} {Q : VK} {E : XK} {cs cs' : Calls} {C : Cfg} {d : Df} (mo : MOk m s.nr s.ps.length) (hd : d.np = s.ps.length) (hdr : d.nr = s.nr) (hdn : d.n = N.length) (hN : s.ps.length ≤ N.length)
    (hJ : ∀ g, JSs Y ⟨m, g⟩ ⟨none, none⟩ (fun cls dd _ H => E cls dd H) s.nr s.fr X body (exs C cs d.body)) (hc : ∀ ds, cs' f ds = run1 C cs d ds) (h : spV Y cs' f s vs H Q E) :
    ∃ t, PSs X body t ∧ t { nx := fun _ H' => Q .non H', rt := Q } (L2.start N vs) H := by
  obtain ⟨hl, as, ws, xs, ds, G, rfl, ha, nd, ag, gl, Tb, rf, rd, he⟩ := h
  obtain ⟨F0, sref, sM⟩ := fi_start (Y := Y) (m := m) mo hN hl ha nd ag gl rf rd
  obtain ⟨t, p, j⟩ := hJ G
  refine ⟨t, p, j _ _ _ _ F0 Tb ?_⟩
  have own0 : Own ⟨m, G⟩ (L2.start N (as.map V.ref ++ ws)) (· ∈ as) H := fun a i mi e => .inl (List.mem_of_getElem? (sM i a mi e))
  have slr : ∀ {σ' : L2.St} {H' : Hp}, Tr Y.T ⟨m, G⟩ s.nr (L2.start N (as.map V.ref ++ ws)) H σ' H' → ∀ j a, as[j]? = some a → σ'[j]? = some (some (V.ref a)) := fun {σ' H'} t j a e => by
    rw [t.ref j (by rw [← ha]; exact (List.getElem?_eq_some_iff.mp e).1)]
    exact sref j a e
  have fin : ∀ {σ' : L2.St} {H' : Hp} {e : Env} {rs : List PyData}, Fi Y.K ⟨m, G⟩ ⟨none, none⟩ σ' H' e → Tr Y.T ⟨m, G⟩ s.nr (L2.start N (as.map V.ref ++ ws)) H σ' H' → getsV e (List.range d.nr) = some rs →
      Kp Y.T (· ∈ as) H H' ∧ Refs Y.K (Fcat as G) H' rs as ∧ ∀ a, Fcat as G a → RF ⟨m, G⟩ s.nr σ' a := fun {σ' H' e rs} F t eg => by
    refine ⟨(t.go H (· ∈ as) .refl own0).1, ?_, fun a z => ?_⟩
    · rw [hdr, List.range_eq_range'] at eg
      obtain ⟨as', sl', rf'⟩ := F.refs eg fun i hi => mo.ref i (by simpa using hi)
      have sl : Sl σ' (List.range' 0 s.nr) as := by
        rw [← ha]
        exact sl_range fun j a e => by rw [Nat.zero_add]; exact slr t j a e
      rw [Sl.uniq sl' sl] at rf'
      refine rf'.weak fun a z => ?_
      rcases z with z | z
      · exact .inl z
      · obtain ⟨i, hi⟩ := List.mem_iff_getElem?.mp z
        exact .inr ⟨i, mo.ref i (by rw [← ha]; exact (List.getElem?_eq_some_iff.mp hi).1), by simp, slr t i a hi⟩
    · rcases z with z | z
      · exact .inl z
      · obtain ⟨i, hi⟩ := List.mem_iff_getElem?.mp z
        exact .inr ⟨i, by rw [← ha]; exact (List.getElem?_eq_some_iff.mp hi).1, slr t i a hi⟩
  rw [hc] at he
  unfold run1 at he
  have hlen : (xs ++ ds).length = d.np := by
    rw [List.length_append, ← rf.len, ← rd.len, hd, ← hl, List.length_append, List.length_map]
  rw [if_pos hlen, hdn, hd] at he
  show POs Y ⟨m, G⟩ ⟨none, none⟩ _ s.nr s.fr _ H _ (exs C cs d.body (env0 N.length s.ps.length (xs ++ ds)))
  have he : spEnd Y s as G H Q E (match exs C cs d.body (env0 N.length s.ps.length (xs ++ ds)) with
    | .ok (.ret v) e => (match getsV e (List.range d.nr) with
      | some rs => .ok v rs
      | none => .bad)
    | .ok .nx e => (match getsV e (List.range d.nr) with
      | some rs => .ok .none rs
      | none => .bad)
    | .exc x e => (match getsV e (List.range d.nr) with
      | some rs => .exc x rs
      | none => .bad)
    | .bad => .bad) := he
  cases q : exs C cs d.body (env0 N.length s.ps.length (xs ++ ds)) with
  | bad => rw [q] at he; exact he.elim
  | exc x e =>
    rw [q] at he
    dsimp only at he
    cases eg : getsV e (List.range d.nr) with
    | none => rw [eg] at he; exact he.elim
    | some rs =>
      rw [eg] at he
      intro cls dd σ' H' F t r
      obtain ⟨h1, h2, h3⟩ := fin F t eg
      exact he cls dd H' h1 h2 r
  | ok fl e =>
    rw [q] at he
    cases fl with
    | nx =>
      dsimp only at he
      cases eg : getsV e (List.range d.nr) with
      | none => rw [eg] at he; exact he.elim
      | some rs =>
        rw [eg] at he
        intro σ' H' F t
        obtain ⟨h1, h2, h3⟩ := fin F t eg
        exact he .non H' h1 h2 rfl fun _ xs e => by cases e
    | ret dv =>
      dsimp only at he
      cases eg : getsV e (List.range d.nr) with
      | none => rw [eg] at he; exact he.elim
      | some rs =>
        rw [eg] at he
        intro v σ' H' F t ro
        obtain ⟨h1, h2, h3⟩ := fin F t eg
        refine he v H' h1 h2 (Rep.weak h3 _ _ ro.rep) fun hf ys ey => ?_
        obtain ⟨a, us, e1, e2, e3, e4, e5⟩ := ro.fre hf H (· ∈ as) .refl own0 ys ey
        refine ⟨a, us, e1, e2.resolve_left fun z => ?_, e4, Reps.weak (fun b z => z.elim (fun w => .inl (h3 b w)) .inr) _ _ e5⟩
        obtain ⟨i, hi⟩ := List.mem_iff_getElem?.mp z
        exact e3 i (by rw [← ha]; exact (List.getElem?_eq_some_iff.mp hi).1) (slr t i a hi)
end
end VF
set_option Elab.async false
set_option maxRecDepth 100000
set_option maxHeartbeats 4000000
namespace VF
open PySem PySem.Spec PyProof.Rows L2
section
variable {Y : Sys} {M : MM} {sc : SC} {W : WX} {X : Cx} {σ : L2.St} {H H1 : Hp}
variable {a b : Expr} {f g : Env → Out PyData} {za zb : St} {p pos : Pos} {mu : List Nat}
theorem PO.unbind {α β : Type} {P : β → Env → Prop} {m : Out α} {h : α → Env → Out β} (q : PO Y M sc W mu σ H (fun a e => PO Y M sc W mu σ H P (h a e)) m) : PO Y M sc W mu σ H P (m.bind h) := by
  cases m <;> exact q
theorem PO.some {α : Type} {P : α → Env → Prop} {x : α} {e : Env} (h : P x e) : PO Y M sc W mu σ H P (.ok x e) := h
/-- max(a, b), min(a, b) of whole numbers -/
theorem je_mm2 {x : Str} {id : String} {bi : Bi} {op : Int → Int → Int} (hd : ∀ u v z, bi2D bi u v = .some z → ∃ i j, u = .int i ∧ v = .int j ∧ z = .int (op i j)) (hc : CallR X (.builtin id) (fun xs H Q => ∃ i j, xs = [.int i, .int j] ∧ Q (.int (op i j)) H))
    (hs : starEach [a, b] X.env = (false, eval a X.env) :: starEach [b] X.env) (hs2 : starEach [b] X.env = (false, eval b X.env) :: starEach [] X.env) (hpl : (backTo pos (starEach [b] X.env)).any (·.1) = false) (hg : Gl X x) (hm : X.mg x = none) (hv : bootBuiltins x = .some (.builtin id)) (hn : x ≠ "__name__") (hdb : (x == ("__debug__" : Str)) = false)
    (ja : JE Y M sc W X a f za) (jb : JE Y M sc W X b g zb) (s : sep M.m zb.mu za.oc = true) (s' : sep M.m zb.mu za.oi = true) :
    JE Y M sc W X (.Call (.Name x p) [a, b] [] pos) (fun env => (f env).bind fun x e1 => (g e1).bind fun y e2 => VF.lift (bi2D bi x y) e2) ⟨za.mu ++ (zb.mu ++ []), [], [], false⟩ := by
  obtain ⟨am, t, pa, jt⟩ := ja_cons hs ja (ja_cons hs2 jb ja_nil rfl rfl) (by simpa using s) (by simpa using s')
  refine ⟨am, _, pe_callB hc hg hm hv pa hn hdb hs hpl, fun σ H env Q F Tb h => ?_⟩
  refine jt σ H env _ F Tb (PO.unbind (h.bind.imp fun x e1 h1 => PO.unbind (PO.unbind (h1.bind.imp fun y e2 h2 => ?_))))
  obtain ⟨z, ez, h2⟩ := h2.lift
  obtain ⟨i, j, rfl, rfl, rfl⟩ := hd _ _ _ ez
  refine PO.some (PO.some fun vs H2 F2 k2 r2 => ?_)
  obtain ⟨v, vs', rfl, r3, r4⟩ := r2
  obtain ⟨w, ws, rfl, r5, r6⟩ := r4
  have r6 : ws = [] := r6
  subst r6
  exact ⟨i, j, by rw [rp_int (Rp.of r3), rp_int (Rp.of r5)], h2 _ H2 F2 k2 rfl (fun z => by cases z)⟩
theorem bi2_max {u v z : PyData} (h : bi2D .max2 u v = .some z) : ∃ i j, u = .int i ∧ v = .int j ∧ z = .int (if j > i then j else i) := by
  cases u <;> cases v <;> simp [bi2D] at h
  exact ⟨_, _, rfl, rfl, h.symm⟩
theorem bi2_min {u v z : PyData} (h : bi2D .min2 u v = .some z) : ∃ i j, u = .int i ∧ v = .int j ∧ z = .int (if j < i then j else i) := by
  cases u <;> cases v <;> simp [bi2D] at h
  exact ⟨_, _, rfl, rfl, h.symm⟩

/-! ### max of alike values -/
theorem ltP_data (i j : Int × Int) : PySem.W.dataLt (prD i) (prD j) = ltP i j := by
  have h := leP_data j i
  have e : PySem.W.dataLe false id (.tuple [.int j.1, .int j.2]) (.tuple [.int i.1, .int i.2]) = !PySem.W.dataLt (prD i) (prD j) := rfl
  rw [e] at h
  rw [← Bool.not_not (b := PySem.W.dataLt (prD i) (prD j)), h]
  unfold leP ltP
  rw [← decide_not]
  refine decide_eq_decide.mpr ?_
  omega
theorem maxP_data (p : Int × Int) : ∀ r : List (Int × Int), PySem.W.maxD (prD p) (r.map prD) = prD (r.foldl (fun m q => if ltP m q then q else m) p) := by
  intro r
  unfold PySem.W.maxD
  induction r generalizing p with
  | nil => rfl
  | cons q r ih =>
    rw [List.map_cons, List.foldl_cons, List.foldl_cons, ← ih, ltP_data]
    split <;> rfl
theorem pairs_alike (ps : List (Int × Int)) : PySem.W.AlikeAll (ps.map prD) := by
  refine ⟨fun x hx y hy => ?_, fun x hx => ?_⟩
  · obtain ⟨i, _, rfl⟩ := List.mem_map.mp hx
    obtain ⟨j, _, rfl⟩ := List.mem_map.mp hy
    rfl
  · obtain ⟨i, _, rfl⟩ := List.mem_map.mp hx
    exact fun z => by cases z
theorem pairs_depth : ∀ ps : List (Int × Int), PyData.depthAll (ps.map prD) ≤ 1
  | [] => by simp [PyData.depthAll]
  | p :: r => by
    have := pairs_depth r
    simp only [List.map_cons, prD, PyData.depthAll, PyData.depth]
    have e : max (0 : Nat) (max 0 0) + 1 = 1 := rfl
    rw [e]
    omega
theorem best_fin {pins : List (Addr × Obj)} {s : Shared} {G : Addr → Prop} {ds : List PyData} {vs : List V} {its : List Value} {m : PyData} {Q : VK} (hK : X.K = Y.K) (I : Inv X pins σ H s) (rv : Vals vs its) (rs : Reps Y.K G H ds vs) (q : ∀ u, Rep Y.K G H m u → Q u H)
    (hm : ∀ (i : Nat) (w : Value) (h' : Heap) bs, its[i]? = .some w → Reads h' w m bs → (∀ b o, s.heap.get? b = .some o → h'.get? b = .some o) → ∃ d, ds[i]? = .some d ∧ d = m) {i : Nat} {w : Value} {h' : Heap} {tk : Nat} {bs : List Addr} (hv' : its[i]? = .some w) (hr : Reads h' w m bs) (k : ∀ b o, s.heap.get? b = .some o → h'.get? b = .some o) :
    EP X pins σ Q w { s with heap := h', toks := tk } := by
  have hi : i < vs.length := by
    have h1 := (List.getElem?_eq_some_iff.mp hv').1
    have h2 := rv.length
    omega
  have hvi : vs[i]? = .some vs[i] := List.getElem?_eq_getElem hi
  obtain ⟨w2, e2, r2⟩ := rv.get hvi
  rw [hv'] at e2
  cases e2
  obtain ⟨d, hd, ed⟩ := hm i w h' bs hv' hr k
  obtain ⟨v2, e3, r3⟩ := rs.get hd
  rw [hvi] at e3
  cases e3
  rw [ed] at r3
  exact ⟨_, H, I.kept k, r2, q _ r3⟩
theorem best_at {pins : List (Addr × Obj)} {s : Shared} {G : Addr → Prop} {ds : List PyData} {vs : List V} {its : List Value} {m : PyData} (hK : X.K = Y.K) (I : Inv X pins σ H s) (rv : Vals vs its) (rs : Reps Y.K G H ds vs) (i : Nat) (w : Value) (h' : Heap) (bs : List Addr) (hv' : its[i]? = .some w) (hr : Reads h' w m bs)
    (k : ∀ b o, s.heap.get? b = .some o → h'.get? b = .some o) : ∃ d, ds[i]? = .some d ∧ d = m := by
  have hi : i < vs.length := by
    have h1 := (List.getElem?_eq_some_iff.mp hv').1
    have h2 := rv.length
    omega
  have hvi : vs[i]? = .some vs[i] := List.getElem?_eq_getElem hi
  obtain ⟨w2, e2, r2⟩ := rv.get hvi
  rw [hv'] at e2
  cases e2
  have hd : i < ds.length := by rw [← rs.len]; exact hi
  obtain ⟨v2, e3, r3⟩ := rs.get (List.getElem?_eq_getElem hd)
  rw [hvi] at e3
  cases e3
  obtain ⟨as2, r4⟩ := Dp.reads I ds[i] vs[i] w (hK ▸ Rep.dp _ _ r3) r2
  exact ⟨_, List.getElem?_eq_getElem hd, ((PyProof.Rows.Reads.keeps k r4).unique _ _ hr).1⟩
def BestR (Y : Sys) (best : PyData → List PyData → PyData) (xs : List V) (H : Hp) (Q : VK) : Prop := ∃ (F G : Addr → Prop) (v : V) (d x0 : PyData) (r0 : List PyData), xs = [v] ∧ Rp Y.K F G H d v ∧ items d = .some (x0 :: r0) ∧ PySem.W.AlikeAll (x0 :: r0) ∧ PyData.depthAll (x0 :: r0) ≤ 60 ∧
    ∀ u, Rep Y.K G H (best x0 r0) u → Q u H
theorem call_maxA (hc : X.calm = true) (hu : X.A.units + 65 < cLine) (hK : X.K = Y.K) : CallR X (.builtin "max") (BestR Y PySem.W.maxD) := by
  intro pins s σ H xs us Q I r h
  obtain ⟨F, G, v, d, x0, r0, rfl, rr, ei, al, dp, q⟩ := h
  obtain ⟨u, rfl, ru⟩ := vals1 r
  obtain ⟨p, vs, rfl, sq, rs⟩ := rr.items ei
  obtain rfl : u = .ref p := ru
  rcases sq with sq | sq
  · obtain ⟨its, rv, pl, hz⟩ := I.list (hK ▸ sq)
    obtain ⟨as, ra⟩ := Dp.readsAll I _ vs its (hK ▸ Reps.dp _ _ rs) rv
    exact PySem.W.max_list_data (x := x0) (xs := r0) (I.ok.hd hc) pl.isList (by simpa using ra) al (by omega) fun i w h' tk bs hv hr k => best_fin hK I rv rs q (best_at hK I rv rs) (by simpa using hv) hr k
  · obtain ⟨its, rv, pl, hz⟩ := I.tuple (hK ▸ sq)
    obtain ⟨as, ra⟩ := Dp.readsAll I _ vs its (hK ▸ Reps.dp _ _ rs) rv
    exact PySem.W.max_tuple_data (x := x0) (xs := r0) (I.ok.hd hc) pl (by simpa using ra) al (by omega) fun i w h' tk bs hv hr k => best_fin hK I rv rs q (best_at hK I rv rs) (by simpa using hv) hr k
theorem call_minA (hc : X.calm = true) (hu : X.A.units + 65 < cLine) (hK : X.K = Y.K) : CallR X (.builtin "min") (BestR Y PySem.W.minD) := by
  intro pins s σ H xs us Q I r h
  obtain ⟨F, G, v, d, x0, r0, rfl, rr, ei, al, dp, q⟩ := h
  obtain ⟨u, rfl, ru⟩ := vals1 r
  obtain ⟨p, vs, rfl, sq, rs⟩ := rr.items ei
  obtain rfl : u = .ref p := ru
  rcases sq with sq | sq
  · obtain ⟨its, rv, pl, hz⟩ := I.list (hK ▸ sq)
    obtain ⟨as, ra⟩ := Dp.readsAll I _ vs its (hK ▸ Reps.dp _ _ rs) rv
    exact PySem.W.min_list_data (x := x0) (xs := r0) (I.ok.hd hc) pl.isList (by simpa using ra) al (by omega) fun i w h' tk bs hv hr k => best_fin hK I rv rs q (best_at hK I rv rs) (by simpa using hv) hr k
  · obtain ⟨its, rv, pl, hz⟩ := I.tuple (hK ▸ sq)
    obtain ⟨as, ra⟩ := Dp.readsAll I _ vs its (hK ▸ Reps.dp _ _ rs) rv
    exact PySem.W.min_tuple_data (x := x0) (xs := r0) (I.ok.hd hc) pl (by simpa using ra) al (by omega) fun i w h' tk bs hv hr k => best_fin hK I rv rs q (best_at hK I rv rs) (by simpa using hv) hr k
theorem max_core {x z : PyData} {ds : List PyData} {u : V} {Q : VK} {F1 G1 : Addr → Prop} (ei : items x = .some ds) (e : (match intsOf ds with | .some ns => (maxI ns).map PyData.int | none => (pairsOf ds).bind maxP) = .some z) (r1 : Rp Y.K F1 G1 H x u)
    (h : ∀ w H', Kp Y.T F0 H H' → Rep Y.K G1 H' z w → Frs Y.K G1 H H' z w → Q w H') : BestR Y PySem.W.maxD [u] H Q := by
  cases en : intsOf ds with
  | some ns =>
    rw [en] at e
    have e : (maxI ns).map PyData.int = .some z := e
    cases ns with
    | nil => cases e
    | cons n ns =>
      cases e
      have ed := ints_map en
      subst ed
      refine ⟨F1, G1, u, x, .int n, ns.map .int, rfl, r1, ei, ints_alike (n :: ns), by rw [show PyData.int n :: ns.map .int = (n :: ns).map .int from rfl, ints_depth]; omega, fun w hw => ?_⟩
      rw [PySem.W.maxD_ints, ← max_fold] at hw
      exact h w H .refl hw (fun xs e => by cases e)
  | none =>
    rw [en] at e
    have e : (pairsOf ds).bind maxP = .some z := e
    obtain ⟨ps, ep, e⟩ := Option.bind_eq_some_iff.mp e
    cases ps with
    | nil => cases e
    | cons p ps =>
      cases e
      have ed : ds = (p :: ps).map prD := pairs_map ep
      subst ed
      have hd := pairs_depth (p :: ps)
      refine ⟨F1, G1, u, x, prD p, ps.map prD, rfl, r1, ei, pairs_alike (p :: ps), by rw [show prD p :: ps.map prD = (p :: ps).map prD from rfl]; omega, fun w hw => ?_⟩
      rw [maxP_data] at hw
      exact h w H .refl hw (fun xs e => by cases e)
theorem bid_maxA : BiD Y (BestR Y PySem.W.maxD) (biD .maxl) := by
  intro x z u H Q F1 G1 e r1 o h
  cases x <;> simp only [biD] at e <;> try (cases e; done)
  · exact max_core rfl e r1 h
  · exact max_core rfl e r1 h
theorem min_core {x z : PyData} {ds : List PyData} {u : V} {Q : VK} {F1 G1 : Addr → Prop} (ei : items x = .some ds) (e : ((intsOf ds).bind fun ns => (minI ns).map PyData.int) = .some z) (r1 : Rp Y.K F1 G1 H x u)
    (h : ∀ w H', Kp Y.T F0 H H' → Rep Y.K G1 H' z w → Frs Y.K G1 H H' z w → Q w H') : BestR Y PySem.W.minD [u] H Q := by
  obtain ⟨ns, en, e⟩ := Option.bind_eq_some_iff.mp e
  cases ns with
  | nil => cases e
  | cons n ns =>
    cases e
    have ed := ints_map en
    subst ed
    refine ⟨F1, G1, u, x, .int n, ns.map .int, rfl, r1, ei, ints_alike (n :: ns), by rw [show PyData.int n :: ns.map .int = (n :: ns).map .int from rfl, ints_depth]; omega, fun w hw => ?_⟩
    rw [PySem.W.minD_ints, ← min_fold] at hw
    exact h w H .refl hw (fun xs e => by cases e)
theorem bid_minA : BiD Y (BestR Y PySem.W.minD) (biD .minl) := by
  intro x z u H Q F1 G1 e r1 o h
  cases x <;> simp only [biD] at e <;> try (cases e; done)
  · exact min_core rfl e r1 h
  · exact min_core rfl e r1 h
/-! ### repr -/
theorem call_reprD (hg : X.A.guards = .some []) (hu : X.A.units + 65 < cLine) (hK : X.K = Y.K) : CallR X (.builtin "repr") (fun xs H Q => ∃ (F G : Addr → Prop) (v : V) (d : PyData), xs = [v] ∧ Rp Y.K F G H d v ∧ okR d = true ∧ Q (.str d.shown) H) := by
  intro pins s σ H xs us Q I r h
  obtain ⟨F, G, v, d, rfl, rr, ok, q⟩ := h
  obtain ⟨u, rfl, ru⟩ := vals1 r
  unfold okR at ok
  simp only [Bool.and_eq_true, decide_eq_true_eq, Bool.not_eq_true'] at ok
  obtain ⟨k1, ⟨⟨⟨k2, k3⟩, k4⟩, k5⟩, k6⟩ := ok
  obtain ⟨as, rd⟩ := reads_of hK I rr ru
  have fin : ∀ p : Addr, u = .ref p → wpAny (model X.prog X.w) X.A (call (.builtin "repr") [u]) (EP X pins σ Q) X.xe s := fun p e => by
    subst e
    exact PySem.repr_of_reads' rd k2 (fun z => by rw [k3] at z; cases z) hg (by omega) (fun _ _ e => e) (fun h' w tk kk => ⟨.str d.shown, H, I.kept kk, ⟨w, rfl⟩, q⟩) (lim_line k5)
  cases d with
  | none =>
    obtain rfl : v = .non := rr
    obtain rfl : u = Value.none := ru
    exact PySem.P.repr_of_none ⟨.str _, H, I.tok _, ⟨_, rfl⟩, q⟩
  | bool b =>
    obtain rfl : v = .bl b := rr
    obtain rfl : u = Value.bool b := ru
    refine PySem.P.repr_of_bool ⟨.str _, H, I.tok _, ⟨_, rfl⟩, ?_⟩
    cases b <;> exact q
  | int i =>
    obtain rfl : v = .int i := rr
    obtain ⟨tk, rfl⟩ := ru
    have hz : i.natAbs.log2 < 1920 := by simpa [PyData.showable] using k2
    exact PySem.P.repr_of_int hz ⟨.str _, H, I.tok _, ⟨_, rfl⟩, q⟩
  | str x =>
    obtain rfl : v = .str x := rr
    obtain ⟨tk, rfl⟩ := ru
    exact PySem.P.repr_of_str ⟨.str _, H, I.tok _, ⟨_, rfl⟩, q⟩ (lim_line k5)
  | dict _ => cases k1
  | list ds =>
    obtain ⟨p, vs, rfl, _, _⟩ := rr
    exact fin p ru
  | tuple ds =>
    obtain ⟨p, vs, rfl, _, _⟩ := rr
    exact fin p ru
theorem bid_repr : BiD Y (fun xs H Q => ∃ (F G : Addr → Prop) (v : V) (d : PyData), xs = [v] ∧ Rp Y.K F G H d v ∧ okR d = true ∧ Q (.str d.shown) H) (biD .repr) := by
  intro x z u H Q F1 G1 e r1 o h
  have e : (if okR x then Option.some (PyData.str x.shown) else Option.none) = .some z := by cases x <;> exact e
  split at e <;> cases e
  rename_i hk
  exact ⟨F1, G1, u, x, rfl, r1, hk, h _ H .refl rfl (fun xs e => by cases e)⟩
end
end VF
set_option Elab.async false
set_option linter.all false
set_option maxRecDepth 100000
set_option maxHeartbeats 4000000
namespace VF
open PySem PySem.Spec PyProof.Rows L2
section
variable {Y : Sys} {M : MM} {sc : SC} {W : WX} {X : Cx} {C : Cfg} {cs : Calls} {pos : Pos}
/-! ### texts put together of parts -/
def JF (Y : Sys) (M : MM) (sc : SC) (W : WX) (X : Cx) (C : Cfg) (cs : Calls) (es : List Expr) (B : Es) (mu : List Nat) : Prop := (∀ i ∈ mu, M i = true) ∧ ∃ ts, PJ X es ts ∧
  ∀ σ H env acc (G : Str → Hp → Prop) ds e s, Fi Y.K M sc σ H env → LamX.Tabs Y.T H → evs C cs B env = .ok ds e → strJoin ds acc = some s → (∀ H', Fi Y.K M sc σ H' e → Kp Y.T (FL mu σ) H H' → G s H') → tJs ts acc σ H G
theorem jf_nil : JF Y M sc W X C cs [] .nil [] := by
  refine ⟨fun i hi => (by cases hi), [], .nil, fun σ H env acc G ds e s F Tb h1 h2 k => ?_⟩
  have h1 : Out.ok [] env = .ok ds e := h1
  cases h1
  have h2 : some acc = some s := h2
  cases h2
  exact k H F .refl
theorem jf_str {x : Str} {j : Nat} {p2 : Pos} {es : List Expr} {B : Es} {mu : List Nat} (hr : JF Y M sc W X C cs es B mu) : JF Y M sc W X C cs (.Constant (.str x) j p2 :: es) (.cons (.str x) B) mu := by
  obtain ⟨hm, ts, pj, run⟩ := hr
  refine ⟨hm, _, .cons pe_str pj, fun σ H env acc G ds e s F Tb h1 h2 k => ?_⟩
  have h1 : (evs C cs B env).bind (fun xs e2 => .ok (PyData.str x :: xs) e2) = .ok ds e := h1
  obtain ⟨xs, e2, h3, h4⟩ := bind_ok h1
  cases h4
  have h2 : (if (acc ++ x).length ≤ lim then strJoin xs (acc ++ x) else none) = some s := h2
  split at h2
  · rename_i hl
    exact ⟨x, rfl, lim_line hl, run σ H env (acc ++ x) G xs e s F Tb h3 h2 k⟩
  · cases h2
theorem log_20 {n : Nat} (h : n < 10 ^ 20) : n.log2 < 1920 := by
  by_cases q : n = 0
  · rw [q]; decide
  · exact (Nat.log2_lt q).mpr (Nat.lt_trans h (by decide +kernel))
theorem jf_val {a : Expr} {A : E} {z : St} {p2 : Pos} {es : List Expr} {B : Es} {mu : List Nat} (ha : JE Y M sc W X a (ev C cs A) z) (hr : JF Y M sc W X C cs es B mu) : JF Y M sc W X C cs (.FormattedValue a (-1) none p2 :: es) (.cons A B) (z.mu ++ mu) := by
  obtain ⟨hm, ts, pj, run⟩ := hr
  obtain ⟨am, ta, pa, ja⟩ := ha
  refine ⟨app_M am hm, _, .cons (pe_fmt pa) pj, fun σ H env acc G ds e s F Tb h1 h2 k => ?_⟩
  have h1 : (ev C cs A env).bind (fun x e1 => (evs C cs B e1).bind fun xs e2 => .ok (x :: xs) e2) = .ok ds e := h1
  obtain ⟨x, e1, h3, h4⟩ := bind_ok h1
  obtain ⟨xs, e2, h5, h6⟩ := bind_ok h4
  cases h6
  refine ja σ H env _ F Tb ?_
  rw [h3]
  intro v H1 F1 k1 r1 _
  cases x with
  | str y =>
    obtain rfl : v = .str y := r1
    have h2 : (if (acc ++ y).length ≤ lim then strJoin xs (acc ++ y) else none) = some s := h2
    split at h2
    · rename_i hl
      have hy : y.length ≤ sizeLine := by
        have : (acc ++ y).length = acc.length + y.length := strLen_append acc y
        exact lim_line (by omega)
      exact .inl ⟨y, rfl, hy, y, rfl, lim_line hl, run σ H1 e1 (acc ++ y) G xs e s F1 (k1.tabs Tb) h5 h2 fun H' F' k' => k H' F' ((k1.mono fun a w => w.sub mem_l).trans (k'.mono fun a w => w.sub mem_r))⟩
    · cases h2
  | int i =>
    obtain rfl : v = .int i := r1
    have h2 : (if i.natAbs < 10 ^ 20 ∧ (acc ++ (toString i : Str)).length ≤ lim then strJoin xs (acc ++ (toString i : Str)) else none) = some s := h2
    split at h2
    · rename_i hl
      exact .inr ⟨i, rfl, log_20 hl.1, _, rfl, lim_line hl.2, run σ H1 e1 _ G xs e s F1 (k1.tabs Tb) h5 h2 fun H' F' k' => k H' F' ((k1.mono fun a w => w.sub mem_l).trans (k'.mono fun a w => w.sub mem_r))⟩
    · cases h2
  | none => cases h2
  | bool _ => cases h2
  | list _ => cases h2
  | tuple _ => cases h2
  | dict _ => cases h2
theorem je_fstr {v1 v2 : Expr} {rest : List Expr} {B : Es} {mu : List Nat} (h : JF Y M sc W X C cs (v1 :: v2 :: rest) B mu) : JE Y M sc W X (.JoinedStr (v1 :: v2 :: rest) pos) (ev C cs (.fstr B)) ⟨mu, [], [], false⟩ := by
  obtain ⟨hm, ts, pj, run⟩ := h
  refine ⟨hm, _, pe_joined pj, fun σ H env Q F Tb h => ?_⟩
  have h : PO Y M sc W mu σ H (VP Y M sc ⟨mu, [], [], false⟩ σ H Q) ((evs C cs B env).nox.bind fun ds e => (VF.lift (strJoin ds Str.empty) e).bind fun s e => .ok (.str s) e) := h
  cases he : evs C cs B env with
  | bad => rw [he] at h; exact h.elim
  | exc _ _ => rw [he] at h; exact h.elim
  | ok ds e =>
    rw [he] at h
    obtain ⟨s, hs, h⟩ := h.bind.bind.lift
    exact run σ H env Str.empty _ ds e s F Tb he hs fun H' F' k' => h _ H' F' k' rfl (fun z => by cases z)
def trF (r : Expr → Option (E × St)) : List Expr → Option (Es × List Nat)
  | [] => some (.nil, [])
  | .Constant (.str x) _ _ :: es => (trF r es).map fun B => (.cons (.str x) B.1, B.2)
  | .FormattedValue a c none _ :: es => if c = -1 then (r a).bind fun A => (trF r es).map fun B => (.cons A.1 B.1, A.2.mu ++ B.2) else none
  | _ => none
theorem trF_snd {r : Expr → Option (E × St)} (hr : ∀ a A z, r a = some (A, z) → JE Y M sc W X a (ev C cs A) z) : ∀ {es : List Expr} {B : Es} {mu : List Nat}, trF r es = some (B, mu) → JF Y M sc W X C cs es B mu
  | [], B, mu, h => by cases h; exact jf_nil
  | e :: es, B, mu, h => by
    unfold trF at h
    split at h
    · rename_i q; cases q
    · rename_i x j p es' q
      cases q
      rw [Option.map_eq_some_iff] at h
      obtain ⟨⟨B', mu'⟩, hB, e⟩ := h
      cases e
      exact jf_str (trF_snd hr hB)
    · rename_i a c p es' q
      cases q
      split at h
      · rename_i hc
        subst hc
        simp only [Option.bind_eq_some_iff, Option.map_eq_some_iff] at h
        obtain ⟨⟨A, z⟩, hA, ⟨B', mu'⟩, hB, e⟩ := h
        cases e
        exact jf_val (hr _ _ _ hA) (trF_snd hr hB)
      · cases h
    · cases h
end
end VF
set_option Elab.async false
set_option linter.all false
set_option maxRecDepth 100000
set_option maxHeartbeats 4000000
namespace VF
open PySem PySem.Spec PyProof.Rows L2
/-- a set that nothing has come to yet -/
abbrev noneIn (w : World) : Obj := { cls := .type "set", dict := none, data := .set #[] 0 (.fresh 0 0 (!w.params.followText "set-order")) }
section
variable {P : Program} {w : World} {A : Around} {E : Value → Shared → Prop} {s : Shared}
/-- what the filling of the new set tells -/
def Filled (w : World) (s : Shared) (ns : List Int) (E : Value → Shared → Prop) : Value → Shared → Prop := fun r s2 =>
  r = .none ∧ ∃ h' tk c, s2 = { s with heap := h', toks := tk } ∧ SetR w h' s.heap.objs.size (fun j => decide (j ∈ ns)) c ∧ c ≤ ns.length ∧ ∀ b o, s.heap.get? b = some o → h'.get? b = some o
theorem items_at {its : Array Value} {ns : List Int} (hi : IntsAre its.toList ns) (hz : its.size = ns.length) (i : Nat) (v : Value) (hv : its[i]? = some v) : ∃ k t, ns[i]? = some k ∧ v = .int k t := by
  have hl : i < ns.length := by rw [← hz]; exact (Array.getElem?_eq_some_iff.mp hv).1
  obtain ⟨t, e⟩ := PyProof.Rows.IntsAre.int_at hi i v (by rw [Array.getElem?_toList]; exact hv)
  rw [List.getD_eq_getElem?_getD, List.getElem?_eq_getElem hl] at e
  exact ⟨ns[i], t, List.getElem?_eq_getElem hl, e⟩
/-- set(l) of a list of whole numbers -/
theorem set_of_list {l : Addr} {its : Array Value} (ns : List Int) {Q : Value → Shared → Prop} (hh : A.handled = none) (hl : s.heap.IsList l its) (hi : IntsAre its.toList ns) (hb : ns.length + 1 < scanBound)
    (h : ∀ (h' : Heap) (tk c : Nat), SetR w h' s.heap.objs.size (fun j => decide (j ∈ ns)) c → c ≤ ns.length → (∀ b o, s.heap.get? b = some o → h'.get? b = some o) → Q (.ref s.heap.objs.size) { s with heap := h', toks := tk }) :
    wpAny (model P w) A (call (.type "set") [.ref l]) Q E s := by
  have hz : its.size = ns.length := by simpa using IntsAre.length hi
  have f1 := F.called_set.made
  have f2 := F.called_set.sub
  have f3 := F.called_set.notType
  have f4 := F.called_set.canCreate
  have f5 := F.typeCall_set_1 (.ref l)
  obtain ⟨c, tl, f6⟩ := F.called_set.mro
  refine wpAny_call (codeAny_of_tree (wpAny_pure ⟨Code.quiet_builtin _ (by decide +kernel), codeAny_builtin F.entry_type_call ?_⟩))
  rw [Around.under_plain (weight_type_call_type "set" [.ref l] []) rfl]
  repeat (any_goals (first | assumption | wp_step))
  refine codeAny_mono (code_set_led1 (.ref l) (E := E) (Q₁ := fun o s1 => o = .ref s.heap.objs.size ∧ s1 = { s with heap := s.heap.push (noneIn w) }) ⟨rfl, rfl⟩) fun r s1 hr => ?_
  cases r with
  | error e => exact hr
  | ok fl =>
    cases fl with
    | ret o =>
      obtain ⟨rfl, rfl⟩ := hr
      have hN : (s.heap.push (noneIn w)).get? s.heap.objs.size = some (noneIn w) := Heap.get?_push_size _ rfl
      have hT : Shared.TypeIs { s with heap := s.heap.push (noneIn w) } (.ref s.heap.objs.size) "set" := ⟨_, hN, rfl⟩
      have f7 := F.called_set.init.lookup
      have f8 := F.called_set.init.bind (.ref s.heap.objs.size)
      repeat (any_goals (first | assumption | wp_step))
      refine codeAny_mono (codeAny_call_builtin (R := wants (Filled w s ns E) E) F.called_set.init.plain F.entry_set_init (check_set_init_1 hT ?_)) fun r2 s2 hr2 => ?_
      · obtain ⟨⟨oc, od, ot, os⟩, ho, hc, n, hd⟩ := hl
        simp only at hc hd
        subst hc
        subst hd
        have ho' : (s.heap.push (noneIn w)).get? l = some { cls := .type "list", dict := od, data := .seq its n, slots := os } := Heap.get?_push_of_some _ ho
        have g1 := F.sub_list_set
        have g2 := F.sub_list_frozenset
        have g3 : (Value.type "list" == Value.type "dict") = false := by decide
        have hl1 : (s.heap.push (noneIn w)).IsList l its := ⟨_, ho', rfl, n, rfl⟩
        have hls : l < s.heap.objs.size := Heap.lt_size ho
        unfold Builtin.«set.__init__» noKeywords Builtin.Frozenset.updateFrom
        generalize hPI : pyIter = PI
        wp_walk
        subst hPI
        refine wpAny_pyIter_list hl1 (wpAny_bind (wpAny_runValue ?_))
        refine set_update_ints ((Walks.list (show A.in1.in1.in1.handled = none by simp [hh]) _ l (by rw [Heap.size_push]; exact Nat.ne_of_lt (Nat.lt_succ_of_lt hls)) its).toS) s.heap.objs.size (by rw [Heap.size_push]; simp only [List.mem_cons, List.not_mem_nil, or_false, not_or]; exact ⟨Nat.ne_of_lt (Nat.lt_succ_self _), Nat.ne_of_gt hls⟩) ns hz hb (items_at hi hz) (its.size - 0) 0 _ (by omega) (Nat.zero_le _)
          ⟨⟨_, Heap.get?_push_size _ rfl, rfl, rfl⟩, hl1.push _⟩ ⟨0, Nat.le_refl 0, setR_new_at (Heap.get?_push_of_some _ hN)⟩ fun s' c' hm hc' hS' => ?_
        obtain ⟨h', g', d', tk', os'⟩ := s'
        obtain rfl : g' = s.gens := hm.gens
        obtain rfl : d' = s.drawn := hm.drawn
        obtain rfl : os' = s.os := hm.os
        show wpAny _ _ _ _ _ _
        refine wpAny_pure ?_
        show wpAny _ _ (ret Value.none) _ _ _
        refine wpAny_pure ⟨rfl, h', tk', c', rfl, hS', by omega, fun b o e => ?_⟩
        have hb0 : b < s.heap.objs.size := Heap.lt_size e
        refine hm.heap b o ?_ (Heap.get?_push_of_some _ (Heap.get?_push_of_some _ e))
        rw [Heap.size_push]
        simp only [List.mem_cons, List.not_mem_nil, or_false, not_or]
        exact ⟨Nat.ne_of_lt hb0, Nat.ne_of_lt (Nat.lt_succ_of_lt hb0)⟩
      · cases r2 with
        | error e => exact hr2
        | ok fl2 =>
          cases fl2 with
          | ret r =>
            obtain ⟨rfl, h', tk, c', rfl, a1, a2, a3⟩ := hr2
            repeat (any_goals (first | assumption | wp_step))
            exact h _ _ _ a1 a2 a3
          | _ => exact hr2.elim
    | _ => exact hr.elim
end
end VF
set_option Elab.async false
set_option linter.all false
set_option maxRecDepth 100000
set_option maxHeartbeats 4000000
namespace VF
open PySem PySem.Spec PyProof.Rows L2
theorem asc_eq : ∀ {l r : List Int}, l.Pairwise (· < ·) → r.Pairwise (· < ·) → (∀ k, k ∈ l ↔ k ∈ r) → l = r
  | [], [], _, _, _ => rfl
  | [], y :: r, _, _, h => absurd ((h y).2 List.mem_cons_self) (by simp)
  | x :: l, [], _, _, h => absurd ((h x).1 List.mem_cons_self) (by simp)
  | x :: l, y :: r, pl, pr, h => by
    rw [List.pairwise_cons] at pl pr
    have e : x = y := by
      have h1 := (h x).1 List.mem_cons_self
      have h2 := (h y).2 List.mem_cons_self
      rw [List.mem_cons] at h1 h2
      rcases h1 with e | h1
      · exact e
      · rcases h2 with e | h2
        · exact e.symm
        · have a := pr.1 _ h1
          have b := pl.1 _ h2
          omega
    subst e
    refine congrArg (x :: ·) (asc_eq pl.2 pr.2 fun k => ?_)
    have hk := h k
    rw [List.mem_cons, List.mem_cons] at hk
    constructor
    · intro z
      rcases hk.1 (.inr z) with e | q
      · subst e; exact absurd (pl.1 _ z) (by omega)
      · exact q
    · intro z
      rcases hk.2 (.inr z) with e | q
      · subst e; exact absurd (pr.1 _ z) (by omega)
      · exact q
theorem range_asc : ∀ n : Nat, ((List.range n).map fun i : Nat => (i : Int)).Pairwise (· < ·) := fun n => by
  rw [List.pairwise_map]
  exact List.Pairwise.imp (fun h => by omega) List.pairwise_lt_range
theorem asc_pw (p : Int → Bool) : (asc p).Pairwise (· < ·) := (range_asc 32).filter _
theorem mem_asc {p : Int → Bool} {k : Int} : k ∈ asc p ↔ (0 ≤ k ∧ k < 32) ∧ p k = true := by
  unfold asc
  rw [List.mem_filter, List.mem_map]
  constructor
  · rintro ⟨⟨i, h, rfl⟩, q⟩
    rw [List.mem_range] at h
    exact ⟨by omega, q⟩
  · rintro ⟨h, q⟩
    exact ⟨⟨k.toNat, by rw [List.mem_range]; omega, by omega⟩, q⟩
theorem asc_len (p : Int → Bool) : (asc p).length ≤ 32 := by
  unfold asc
  refine Nat.le_trans (List.length_filter_le _ _) ?_
  simp
theorem len_small {l : List Int} (nd : l.Nodup) (h : ∀ k ∈ l, 0 ≤ k ∧ k < 32) : l.length ≤ 32 := by
  have pm : l.Perm (asc fun k => decide (k ∈ l)) := (List.perm_ext_iff_of_nodup nd ((asc_pw _).imp (fun h => by omega))).mpr fun k => by
    rw [mem_asc, decide_eq_true_eq]
    exact ⟨fun z => ⟨h k z, z⟩, fun z => z.2⟩
  rw [pm.length_eq]
  exact asc_len _
theorem vals_of_ints : ∀ {vs : List Value} {ns : List Int}, IntsAre vs ns → Vals (ns.map V.int) vs
  | _, _, .nil => .nil
  | _, _, .cons n t h => .cons ⟨t, rfl⟩ (vals_of_ints h)
def tSetop (K : PySem.W.Frag) (x : Bool) (ta tb : TE) : TE := fun σ H Q => ta σ H fun u H1 => ∃ (l : Addr) (ns : List Int), u = .ref l ∧ (SqL K H1 l (ns.map V.int) ∨ SqT K H1 l (ns.map V.int)) ∧ smallB ns = true ∧ ns.length < 60 ∧
  tb σ H1 fun v H2 => ∃ (l2 : Addr) (ms : List Int), v = .ref l2 ∧ (SqL K H2 l2 (ms.map V.int) ∨ SqT K H2 l2 (ms.map V.int)) ∧ smallB ms = true ∧ ns.length + ms.length < 60 ∧ ∀ p, H2 p = none → Q (.ref p) (upd H2 p (.lst ((asc (setB x ns ms)).map V.int)))
section
variable {X : Cx} {a b : Expr} {ta tb : TE} {p pos : Pos}
theorem small_of {ns : List Int} (h : smallB ns = true) : VS.Sm (fun j => decide (j ∈ ns)) := fun k hk => by
  have := List.all_eq_true.mp h k (of_decide_eq_true hk)
  exact of_decide_eq_true this
theorem set_src {pins : List (Addr × Obj)} {σ : L2.St} {H : Hp} {s : Shared} {A : Around} {E : Value → Shared → Prop} {Q : Value → Shared → Prop} {l : Addr} {ns : List Int} (I : Inv X pins σ H s) (hh : A.handled = none) (hq : SqL X.K H l (ns.map V.int) ∨ SqT X.K H l (ns.map V.int)) (hb : ns.length + 1 < scanBound)
    (h : ∀ (h' : Heap) (tk c : Nat), SetR X.w h' s.heap.objs.size (fun j => decide (j ∈ ns)) c → c ≤ ns.length → (∀ b o, s.heap.get? b = some o → h'.get? b = some o) → Q (.ref s.heap.objs.size) { s with heap := h', toks := tk }) :
    wpAny (model X.prog X.w) A (call (.type "set") [.ref l]) Q E s := by
  rcases hq with hq | hq
  · obtain ⟨its, rv, pt, hz⟩ := I.list hq
    exact set_of_list ns hh pt.isList (show IntsAre its.toArray.toList ns from ints_of_vals rv) hb h
  · obtain ⟨its, rv, pt, hz⟩ := I.tuple hq
    exact call_set_tupI ns hh (show s.heap.IsTuple l its.toArray from pt) (show IntsAre its.toArray.toList ns from ints_of_vals rv) hb h
theorem pe_setop {x : Bool} {p2 p3 p4 q q2 : Pos} (hg : Gl X "sorted") (hm : X.mg "sorted" = none) (hg2 : Gl X "set") (hm2 : X.mg "set" = none) (ha : PE X a ta) (hb : PE X b tb) (hc : X.calm = true)
    (na : starEach [a] X.env = (false, eval a X.env) :: starEach [] X.env) (nb : starEach [b] X.env = (false, eval b X.env) :: starEach [] X.env) :
    PE X (.Call (.Name "sorted" p) [.BinOp (.Call (.Name "set" p2) [a] [] q) (if x then .BitXor else .BitOr) (.Call (.Name "set" p3) [b] [] q2) p4] [] pos) (tSetop X.K x ta tb) := by
  refine ⟨fun pins s σ H Q I h => ?_⟩
  refine Call_ (ld_blt I hg hm boot_sorted (PyProof.Rows.callWith_builtin1 (PyProof.Rows.args_cons ?_ rfl) rfl rfl))
  refine wpAny_BinOp ?_
  refine Call_ (ld_blt I hg2 hm2 boot_set (PyProof.Rows.callWith_type1 (PyProof.Rows.args_cons (thn (ha.run pins s σ H _ I h) fun v s1 hv => PyProof.Rows.args_nil ?_) na) na rfl))
  obtain ⟨u, H1, I1, r1, l, ns, ex, hq, hsm, hl, q1⟩ := hv
  subst ex
  obtain rfl : v = .ref l := r1
  refine set_src I1 (I1.ok.hd hc) hq (by unfold scanBound; omega) fun h1 tk1 c1 R1 hc1 kk1 => ?_
  have I2 : Inv X pins σ H1 { s1 with heap := h1, toks := tk1 } := I1.kept kk1
  obtain ⟨o1, es1, ep1, t1, A1, e1⟩ := VS.at_of R1
  have I2p : Inv X ((s1.heap.objs.size, o1) :: pins) σ H1 { s1 with heap := h1, toks := tk1 } := I2.pins_of fun p hp => by
    rcases List.mem_cons.mp hp with rfl | hp
    · refine ⟨A1.ho, I1.hok.fresh (Nat.le_refl _), Nat.ne_of_gt I1.lt, I1.nofs (Nat.le_refl _), fun v e => ?_⟩
      have := A1.hd
      rw [e] at this
      cases this
    · exact I2.pin p (List.mem_append_right _ hp)
  refine Call_ (ld_blt I2p hg2 hm2 boot_set (PyProof.Rows.callWith_type1 (PyProof.Rows.args_cons (thn (hb.run _ _ σ H1 _ I2p q1) fun v2 s2 hv2 => PyProof.Rows.args_nil ?_) nb) nb rfl))
  obtain ⟨u2, H2, I3, r2, l2, ms, ex2, hq2, hsm2, hl2, q2⟩ := hv2
  subst ex2
  obtain rfl : v2 = .ref l2 := r2
  have hpin := I3.pin (s1.heap.objs.size, o1) (List.mem_append_right _ List.mem_cons_self)
  refine set_src I3 (I3.ok.hd hc) hq2 (by unfold scanBound; omega) fun h2 tk2 c2 R2 hc2 kk2 => ?_
  have I4 : Inv X ((s1.heap.objs.size, o1) :: pins) σ H2 { s2 with heap := h2, toks := tk2 } := I3.kept kk2
  have R1' : SetR X.w h2 s1.heap.objs.size (fun j => decide (j ∈ ns)) c1 := by
    have z : VS.At X.w h2 s1.heap.objs.size (fun j => decide (j ∈ ns)) o1 es1 ep1 t1 := ⟨kk2 _ _ hpin.1, A1.ex, A1.hd, A1.g, A1.nd, A1.mem, A1.bd, A1.fits, A1.ris, A1.led⟩
    have := z.setR
    rwa [e1] at this
  have ne : s2.heap.objs.size ≠ s1.heap.objs.size := Nat.ne_of_gt (Heap.lt_size hpin.1)
  have tail : ∀ (h' : Heap) d c T m, (∀ (x : Addr) y, h2.get? x = some y → h'.get? x = some y) → SetR X.w h' c T m → (∀ k, T k = setB x ns ms k) →
      wpAny (model X.prog X.w) X.A (call (.builtin "sorted") [.ref c]) (EP X pins σ Q) X.xe { s2 with heap := h', drawn := d, toks := tk2 } := by
    intro h' d c T m kk3 R3 hT
    have hin : ∀ k, T k = true → 0 ≤ k ∧ k < 32 := fun k hk => by
      rw [hT k] at hk
      unfold setB at hk
      have a1 := small_of hsm k
      have a2 := small_of hsm2 k
      dsimp only at a1 a2
      by_cases z1 : k ∈ ns
      · exact a1 (by simpa using z1)
      · by_cases z2 : k ∈ ms
        · exact a2 (by simpa using z2)
        · simp [z1, z2] at hk
    have hm32 : m < 64 := by
      obtain ⟨o3, es3, ep3, t3, A3, e3⟩ := VS.at_of R3
      have := len_small A3.nd fun k hk => hin k ((A3.mem k).mpr hk)
      rw [List.length_map, Array.length_toList] at this
      omega
    refine sorted_set (s := { s2 with heap := h', drawn := d, toks := tk2 }) R3 (I3.ok.hd hc) hm32 fun s' pn out cn ks k1 k2 k3 hp hpo hI hpw hmem hlen => ?_
    have ek : ks = asc (setB x ns ms) := asc_eq hpw (asc_pw _) fun k => by
      rw [hmem k, mem_asc, hT k]
      exact ⟨fun z => ⟨hin k (by rw [hT k]; exact z), z⟩, fun z => z.2⟩
    subst ek
    have kk : ∀ b o, s2.heap.get? b = some o → s'.heap.get? b = some o := fun b o e => k1 b o (kk3 b o (kk2 b o e))
    have hps : s2.heap.objs.size ≤ pn := by
      obtain ⟨o4, es4, ep4, t4, A4, e4⟩ := VS.at_of R2
      exact Nat.le_trans (Nat.le_of_lt (Heap.lt_size (kk3 _ _ A4.ho))) hp
    have hn2 : H2 pn = none := I3.hok.fresh hps
    have hu : Vals ((asc (setB x ns ms)).map V.int) out.toList := vals_of_ints hI
    have new : ObjOk X.prog X.w (upd H2 pn (.lst ((asc (setB x ns ms)).map V.int))) s'.heap pn (.lst ((asc (setB x ns ms)).map V.int)) :=
      ⟨by rw [List.length_map]; have := asc_len (setB x ns ms); rw [sizeLine_eq]; omega, out.toList, cn, hu, by simpa using hpo⟩
    have I5 := I3.call' (ch := []) (s' := s') k3 (Un.laid kk hps hn2) (I3.hok.laid kk hps new) (k2 ▸ I3.bare) (by simp)
    exact ⟨.ref pn, _, I5.pins_of fun p hp => I5.pin p (List.mem_append_right _ (List.mem_cons_of_mem _ hp)), rfl, q2 pn hn2⟩
  cases x with
  | true =>
    refine VS.xor_op (s := { s2 with heap := h2, toks := tk2 }) R1' R2 (small_of hsm2) (by omega) fun h' d c T m k1 k2 k3 k4 k5 => PyProof.Rows.args_nil ?_
    exact tail h' d c T m k1 k3 k4
  | false =>
    refine VS.or_op (s := { s2 with heap := h2, toks := tk2 }) R1' (small_of hsm) R2 (small_of hsm2) ne (by omega) fun h' d c T m k1 k2 k3 k4 k5 => PyProof.Rows.args_nil ?_
    exact tail h' d c T m k1 k3 k4
end
theorem reps_ints {K : PySem.W.Frag} {F : Addr → Prop} {H : Hp} : ∀ ns : List Int, Reps K F H (ns.map PyData.int) (ns.map V.int)
  | [] => rfl
  | n :: ns => ⟨_, _, rfl, rfl, reps_ints ns⟩
theorem seqInts_eq {ds : List PyData} {ns : List Int} (h : ((intsOf ds).bind fun ns => if smallB ns && decide (ns.length < 60) then some ns else none) = some ns) : ds = ns.map .int ∧ smallB ns = true ∧ ns.length < 60 := by
  obtain ⟨ms, e1, e2⟩ := Option.bind_eq_some_iff.mp h
  split at e2
  · rename_i hc
    cases e2
    rw [Bool.and_eq_true, decide_eq_true_eq] at hc
    exact ⟨ints_map e1, hc⟩
  · cases e2
theorem tupInts_eq {u : PyData} {ns : List Int} (h : tupInts u = some ns) : (u = .tuple (ns.map .int) ∨ u = .list (ns.map .int)) ∧ smallB ns = true ∧ ns.length < 60 := by
  unfold tupInts at h
  split at h
  · obtain ⟨e, h2⟩ := seqInts_eq h
    exact ⟨.inl (by rw [e]), h2⟩
  · obtain ⟨e, h2⟩ := seqInts_eq h
    exact ⟨.inr (by rw [e]), h2⟩
  · cases h
theorem src_of {K : PySem.W.Frag} {F G : Addr → Prop} {H : Hp} {u : PyData} {v : V} {ns : List Int} (h : u = .tuple (ns.map .int) ∨ u = .list (ns.map .int)) (r : Rp K F G H u v) : ∃ l, v = .ref l ∧ (SqL K H l (ns.map V.int) ∨ SqT K H l (ns.map V.int)) := by
  rcases h with rfl | rfl
  · obtain ⟨l, vs, rfl, t, rr⟩ := r
    have tq := t.sq
    rw [Reps.ints rr] at tq
    exact ⟨l, rfl, .inr tq⟩
  · obtain ⟨l, vs, rfl, t, rr⟩ := r
    have tq := t.sq (K := K)
    rw [Reps.ints rr] at tq
    exact ⟨l, rfl, .inl tq⟩
section
variable {Y : Sys} {M : MM} {sc : SC} {W : WX} {X : Cx} {σ : L2.St} {H H1 : Hp} {k : Nat}
variable {a b : Expr} {f g : Env → Out PyData} {za zb : St} {p pos : Pos}
theorem je_setop {x : Bool} {p2 p3 p4 q q2 : Pos} (O : XOk Y k true X) (hg : Gl X "sorted") (hm : X.mg "sorted" = none) (hg2 : Gl X "set") (hm2 : X.mg "set" = none)
    (na : starEach [a] X.env = (false, eval a X.env) :: starEach [] X.env) (nb : starEach [b] X.env = (false, eval b X.env) :: starEach [] X.env) (ja : JE Y M sc W X a f za) (jb : JE Y M sc W X b g zb) :
    JE Y M sc W X (.Call (.Name "sorted" p) [.BinOp (.Call (.Name "set" p2) [a] [] q) (if x then .BitXor else .BitOr) (.Call (.Name "set" p3) [b] [] q2) p4] [] pos)
      (fun env => (f env).bind fun u e1 => (VF.lift (tupInts u) e1).bind fun ns e1 => (g e1).bind fun v e2 => VF.lift (setD x ns v) e2) ⟨za.mu ++ zb.mu, [], [], true⟩ := by
  obtain ⟨am, ta, pa, ja⟩ := ja
  obtain ⟨bm, tb, pb, jb⟩ := jb
  refine ⟨app_M am bm, _, pe_setop hg hm hg2 hm2 pa pb (O.calm rfl) na nb, fun σ H env Q F Tb h => ?_⟩
  refine ja σ H env _ F Tb ((h.bind.to mem_l .refl).imp fun u e1 h1 w H1 F1 k1 r1 _ => ?_)
  have k1' : Kp Y.T (FL (za.mu ++ zb.mu) σ) H H1 := k1.mono fun a z => z.sub mem_l
  obtain ⟨ns, en, h1⟩ := h1.bind.lift
  have h5 : PO Y M sc W (za.mu ++ zb.mu) σ H (VP Y M sc ⟨za.mu ++ zb.mu, [], [], true⟩ σ H Q) ((g e1).bind fun v e2 => VF.lift (setD x ns v) e2) := h1
  obtain ⟨eu, hs, hl⟩ := tupInts_eq en
  obtain ⟨l, rfl, tq⟩ := src_of eu r1
  refine ⟨l, ns, rfl, O.K ▸ tq, hs, hl, ?_⟩
  refine jb σ H1 e1 _ F1 (k1.tabs Tb) ((h5.bind.to mem_r k1').imp fun y e2 h2 v H2 F2 k2 r2 _ => ?_)
  obtain ⟨z, ez, h2⟩ := h2.lift
  unfold setD at ez
  obtain ⟨ms, em, ez2⟩ := Option.bind_eq_some_iff.mp ez
  obtain ⟨eu2, hs2, hl2⟩ := tupInts_eq em
  split at ez2
  · rename_i hll
    cases ez2
    obtain ⟨l2, rfl, tq2⟩ := src_of eu2 r2
    have h9 : VP Y M sc ⟨za.mu ++ zb.mu, [], [], true⟩ σ H Q (.list ((asc (setB x ns ms)).map .int)) e2 := h2
    exact ⟨l2, ms, rfl, O.K ▸ tq2, hs2, hll, fun p hp => new_list (z := ⟨za.mu ++ zb.mu, [], [], true⟩) (app_M am bm) h9 F2 (k1'.trans (k2.mono fun a z => z.sub mem_r)) (reps_ints _) hp⟩
  · cases ez2
end
end VF
set_option Elab.async false
set_option linter.all false
set_option maxRecDepth 100000
set_option maxHeartbeats 4000000
namespace VF
open PySem PySem.Spec PyProof.Rows L2
/-! ### sorted(set(pairs)): many pairs, few unlike ones -/
/-- no more than so many unlike rows -/
def Unlike (ks : List (Addr × List Int)) : Prop := ∀ L : List (Addr × List Int), (∀ p ∈ L, p ∈ ks) → (L.map (·.2)).Nodup → L.length < 63
section
variable {P : Program} {w : World} {A : Around} {E : Value → Shared → Prop} {s : Shared}
theorem fill_tups {I : Addr} {fp wr : List Addr} {G : Array GenState → Array GenState → Prop} {n : Nat} {Pv : Nat → Value → Prop} {St : Nat → Shared → Prop} {R : Result → Shared → Prop}
    (wk : WalksS P w A.in1 I fp wr G n Pv St) (T : Addr) (hT : T ∉ fp) (ks : List (Addr × List Int)) (hn : n = ks.length) (few : Unlike ks) (val : ∀ i v, Pv i v → ∃ p, ks[i]? = some p ∧ v = .ref p.1)
    (g0 : Heap) (tups : ∀ p ∈ ks, IsT P w g0 p.2 p.1) (newT : g0.get? T = none) (newW : ∀ b ∈ wr, g0.get? b = none) (hu : A.in1.units < cLine) :
    ∀ (m i : Nat) (s : Shared), n - i = m → i ≤ n → St i s → (∀ b o, g0.get? b = some o → s.heap.get? b = some o) → (∃ L es ep t, SetTR P w s.heap T L es ep t ∧ Got ks i L) →
      (∀ s' L es ep t, Moved (T :: wr) G s s' → SetTR P w s'.heap T L es ep t → Got ks n L → (∀ b o, g0.get? b = some o → s'.heap.get? b = some o) → R (.ok (.ret .none)) s') →
      codeAny (model P w) A (.builtin "set.update.loop" ⟨[.ref T, .ref I], []⟩) R s := by
  have apart : T ∉ wr := fun z => hT (wk.sub _ z)
  have wide : ∀ b ∈ wr, b ∈ T :: wr := fun b z => List.mem_cons_of_mem _ z
  have kept : ∀ {a b : Shared}, Moved wr G a b → (∀ c o, g0.get? c = some o → a.heap.get? c = some o) → ∀ c o, g0.get? c = some o → b.heap.get? c = some o := fun mv q c o e =>
    mv.heap c o (fun z => by rw [newW c z] at e; cases e) (q c o e)
  have within : ∀ {i : Nat} {L : List (Addr × List Int)}, Got ks i L → ∀ p ∈ L, p ∈ ks := fun g p hp => List.mem_of_mem_take (g.sub p hp)
  intro m
  induction m with
  | zero =>
    intro i s hm hi hst hk ⟨L, es, ep, t, hS, g⟩ fin
    obtain rfl : i = n := by omega
    refine codeAny_builtin F.entry_set_update_loop ?_
    rw [Around.under_plainId F.plain_set_update_loop _]
    show wpAny _ A.in1 (pyNext (.ref I) >>= _) _ _ s
    refine wpAny_bind (wk.done s _ _ hst fun s2 mv => ?_)
    show wpAny _ A.in1 (ret Value.none) _ _ s2
    have hk2 := kept mv hk
    exact wpAny_pure (fin s2 L es ep t (mv.mono wide) (hS.keep (fun o e => mv.heap T o apart e) fun p hp => isT_keep (tups p (within g p hp)) hk2) g hk2)
  | succ m ih =>
    intro i s hm hi hst hk ⟨L, es, ep, t, hS, g⟩ fin
    have lt : i < n := by omega
    refine codeAny_builtin F.entry_set_update_loop ?_
    rw [Around.under_plainId F.plain_set_update_loop _]
    show wpAny _ A.in1 (pyNext (.ref I) >>= _) _ _ s
    refine wpAny_bind (wk.item i s _ _ lt hst fun v s2 hv hst2 mv => ?_)
    obtain ⟨p, hp, rfl⟩ := val i v hv
    have hk2 := kept mv hk
    have hS2 : SetTR P w s2.heap T L es ep t := hS.keep (fun o e => mv.heap T o apart e) fun q hq => isT_keep (tups q (within g q hq)) hk2
    have tp : IsT P w s2.heap p.2 p.1 := isT_keep (tups p (List.mem_of_getElem? hp)) hk2
    have room := few L (within g) hS.nd
    show wpAny _ A.in1 (holding [Value.ref p.1] (setAdd T (.ref p.1)) >>= _) _ _ s2
    refine wpAny_bind (wpAny_holding ?_)
    unfold setAdd
    refine wpAny_holding (wpAny_bind (wpAny_pyHash_tuple hu tp ?_))
    refine add_at (s := { s2 with toks := s2.toks + (p.2.length + 1) }) hS2 tp hu (by omega) fun b g3 L3 es3 ep3 t3 but hS3 c1 c2 => ?_
    have got : Got ks (i + 1) L3 := by
      by_cases c : p.2 ∈ L.map (·.2)
      · rw [c1 c]
        exact g.same hp c
      · exact g.more hp (c2 c)
    have hk3 : ∀ b o, g0.get? b = some o → g3.get? b = some o := fun b o e => (but.2 b (fun z => by rw [z, newT] at e; cases e)).trans (hk2 b o e)
    refine wpAny_pure ⟨plainId_quiet F.plain_set_update_loop _, ih (i + 1) _ (by omega) lt (wk.frame _ s2 _ _ hst2 (Nat.le_add_right _ _) fun b hb o e => ?_) hk3 ⟨L3, es3, ep3, t3, hS3, got⟩ fun s4 L4 es4 ep4 t4 mv4 hS4 g4 hk4 => ?_⟩
    · rw [but.2 b (fun z : b = T => hT (by rw [← z]; exact hb))]
      exact e
    · refine fin s4 L4 es4 ep4 t4 (Moved.trans wk.gtrans ((mv.mono wide).then_heap (Nat.le_add_right _ _) fun b o hb e => ?_) mv4) hS4 g4 hk4
      rw [but.2 b (fun z : b = T => hb (by rw [z]; exact List.mem_cons_self))]
      exact e
/-- what the filling of a new set of tuples tells -/
def FilledT (P : Program) (w : World) (s : Shared) (ks : List (Addr × List Int)) : Value → Shared → Prop := fun r s2 =>
  r = .none ∧ ∃ h' tk L es ep t, s2 = { s with heap := h', toks := tk } ∧ SetTR P w h' s.heap.objs.size L es ep t ∧ Got ks ks.length L ∧ ∀ b o, s.heap.get? b = some o → h'.get? b = some o
theorem tups_at {its : Array Value} {ks : List (Addr × List Int)} (hi : its.toList = ks.map fun p => Value.ref p.1) (i : Nat) (v : Value) (hv : its[i]? = some v) : ∃ p, ks[i]? = some p ∧ v = .ref p.1 := by
  rw [← Array.getElem?_toList, hi, List.getElem?_map] at hv
  obtain ⟨p, e1, e2⟩ := Option.map_eq_some_iff.mp hv
  exact ⟨p, e1, e2.symm⟩
theorem set_of_tups {l : Addr} {its : Array Value} (ks : List (Addr × List Int)) {Q : Value → Shared → Prop} (hh : A.handled = none) (hl : s.heap.IsList l its) (hi : its.toList = ks.map fun p => Value.ref p.1)
    (tups : ∀ p ∈ ks, IsT P w s.heap p.2 p.1) (few : Unlike ks) (hu : A.units + 3 < cLine)
    (h : ∀ (h' : Heap) (tk : Nat) L es ep t, SetTR P w h' s.heap.objs.size L es ep t → Got ks ks.length L → (∀ b o, s.heap.get? b = some o → h'.get? b = some o) → Q (.ref s.heap.objs.size) { s with heap := h', toks := tk }) :
    wpAny (model P w) A (call (.type "set") [.ref l]) Q E s := by
  have hz : its.size = ks.length := by
    have := congrArg List.length hi
    simpa using this
  have f1 := F.called_set.made
  have f2 := F.called_set.sub
  have f3 := F.called_set.notType
  have f4 := F.called_set.canCreate
  have f5 := F.typeCall_set_1 (.ref l)
  obtain ⟨c, tl, f6⟩ := F.called_set.mro
  refine wpAny_call (codeAny_of_tree (wpAny_pure ⟨Code.quiet_builtin _ (by decide +kernel), codeAny_builtin F.entry_type_call ?_⟩))
  rw [Around.under_plain (weight_type_call_type "set" [.ref l] []) rfl]
  repeat (any_goals (first | assumption | wp_step))
  refine codeAny_mono (code_set_led1 (.ref l) (E := E) (Q₁ := fun o s1 => o = .ref s.heap.objs.size ∧ s1 = { s with heap := s.heap.push (noneIn w) }) ⟨rfl, rfl⟩) fun r s1 hr => ?_
  cases r with
  | error e => exact hr
  | ok fl =>
    cases fl with
    | ret o =>
      obtain ⟨rfl, rfl⟩ := hr
      have hN : (s.heap.push (noneIn w)).get? s.heap.objs.size = some (noneIn w) := Heap.get?_push_size _ rfl
      have hT : Shared.TypeIs { s with heap := s.heap.push (noneIn w) } (.ref s.heap.objs.size) "set" := ⟨_, hN, rfl⟩
      have f7 := F.called_set.init.lookup
      have f8 := F.called_set.init.bind (.ref s.heap.objs.size)
      repeat (any_goals (first | assumption | wp_step))
      refine codeAny_mono (codeAny_call_builtin (R := wants (FilledT P w s ks) E) F.called_set.init.plain F.entry_set_init (check_set_init_1 hT ?_)) fun r2 s2 hr2 => ?_
      · obtain ⟨⟨oc, od, ot, os⟩, ho, hc, n, hd⟩ := hl
        simp only at hc hd
        subst hc
        subst hd
        have ho' : (s.heap.push (noneIn w)).get? l = some { cls := .type "list", dict := od, data := .seq its n, slots := os } := Heap.get?_push_of_some _ ho
        have g1 := F.sub_list_set
        have g2 := F.sub_list_frozenset
        have g3 : (Value.type "list" == Value.type "dict") = false := by decide
        have hl1 : (s.heap.push (noneIn w)).IsList l its := ⟨_, ho', rfl, n, rfl⟩
        have hls : l < s.heap.objs.size := Heap.lt_size ho
        unfold Builtin.«set.__init__» noKeywords Builtin.Frozenset.updateFrom
        generalize hPI : pyIter = PI
        wp_walk
        subst hPI
        refine wpAny_pyIter_list hl1 (wpAny_bind (wpAny_runValue ?_))
        have none_of : ∀ b, s.heap.objs.size ≤ b → s.heap.get? b = none := fun b hb => by
          cases q : s.heap.get? b with
          | none => rfl
          | some o => exact absurd (Heap.lt_size q) (Nat.not_lt.mpr hb)
        refine fill_tups ((Walks.list (show A.in1.in1.in1.handled = none by simp [hh]) _ l (by rw [Heap.size_push]; exact Nat.ne_of_lt (Nat.lt_succ_of_lt hls)) its).toS) s.heap.objs.size (by rw [Heap.size_push]; simp only [List.mem_cons, List.not_mem_nil, or_false, not_or]; exact ⟨Nat.ne_of_lt (Nat.lt_succ_self _), Nat.ne_of_gt hls⟩) ks hz few (tups_at hi) s.heap tups (none_of _ (Nat.le_refl _)) (fun b hb => none_of b (by
            rw [List.mem_singleton.mp hb, Heap.size_push]
            exact Nat.le_succ _)) hu (its.size - 0) 0 _ (by omega) (Nat.zero_le _)
          ⟨⟨_, Heap.get?_push_size _ rfl, rfl, rfl⟩, hl1.push _⟩ (fun b o e => Heap.get?_push_of_some _ (Heap.get?_push_of_some _ e)) ⟨[], #[], 0, _, setTR_fresh (Heap.get?_push_of_some _ hN), Got.zero ks⟩ fun s' L es ep t mv hS' g' hk' => ?_
        obtain ⟨h', g3, d', tk', os'⟩ := s'
        obtain rfl : g3 = s.gens := mv.gens
        obtain rfl : d' = s.drawn := mv.drawn
        obtain rfl : os' = s.os := mv.os
        show wpAny _ _ _ _ _ _
        refine wpAny_pure ?_
        show wpAny _ _ (ret Value.none) _ _ _
        rw [hz] at g'
        exact wpAny_pure ⟨rfl, h', tk', L, es, ep, t, rfl, hS', g', hk'⟩
      · cases r2 with
        | error e => exact hr2
        | ok fl2 =>
          cases fl2 with
          | ret r =>
            obtain ⟨rfl, h', tk, L, es, ep, t, rfl, a1, a2, a3⟩ := hr2
            repeat (any_goals (first | assumption | wp_step))
            exact h _ _ _ _ _ _ a1 a2 a3
          | _ => exact hr2.elim
    | _ => exact hr.elim
end
end VF
set_option Elab.async false
set_option linter.all false
set_option maxRecDepth 100000
set_option maxHeartbeats 4000000
namespace VF
open PySem PySem.Spec PyProof.Rows L2
/-! ### the expression -/
theorem mem_dedP {p : Int × Int} : ∀ {ps : List (Int × Int)}, p ∈ dedP ps ↔ p ∈ ps
  | [] => Iff.rfl
  | q :: ps => by
    unfold dedP
    have ih := mem_dedP (p := p) (ps := ps)
    split
    · rename_i h
      rw [ih, List.mem_cons]
      constructor
      · exact .inr
      · rintro (rfl | z)
        · exact mem_dedP.mp h
        · exact z
    · rw [List.mem_cons, List.mem_cons, ih]
theorem dedP_nd : ∀ ps : List (Int × Int), (dedP ps).Nodup
  | [] => .nil
  | q :: ps => by
    unfold dedP
    split
    · exact dedP_nd ps
    · rename_i h
      exact List.nodup_cons.mpr ⟨h, dedP_nd ps⟩
def rw2 (p : Int × Int) : List Int := [p.1, p.2]
theorem rw2_inj {p q : Int × Int} (h : rw2 p = rw2 q) : p = q := by
  cases p; cases q
  unfold rw2 at h
  simp only [List.cons.injEq, and_true] at h
  rw [h.1, h.2]
theorem nd_len {α : Type} [DecidableEq α] : ∀ {l m : List α}, l.Nodup → (∀ x ∈ l, x ∈ m) → l.length ≤ m.length
  | [], m, _, _ => Nat.zero_le _
  | x :: l, m, nd, h => by
    rw [List.nodup_cons] at nd
    have hx := h x List.mem_cons_self
    have := nd_len (l := l) (m := m.erase x) nd.2 fun y hy => (List.mem_erase_of_ne (fun z => nd.1 (by rw [← z]; exact hy))).mpr (h y (List.mem_cons_of_mem _ hy))
    rw [List.length_erase_of_mem hx] at this
    have : 0 < m.length := List.length_pos_of_mem hx
    rw [List.length_cons]
    omega
/-- the unlike rows are no more than the unlike pairs -/
theorem unlike_of {ks : List (Addr × List Int)} {ps : List (Int × Int)} (e : ks.map (·.2) = ps.map rw2) (h : (dedP ps).length < 63) : Unlike ks := fun L sub nd => by
  have : (L.map (·.2)).length ≤ ((dedP ps).map rw2).length := by
    refine nd_len nd fun x hx => ?_
    obtain ⟨p, hp, rfl⟩ := List.mem_map.mp hx
    have : p.2 ∈ ks.map (·.2) := List.mem_map_of_mem (sub p hp)
    rw [e] at this
    obtain ⟨q, hq, e2⟩ := List.mem_map.mp this
    rw [← e2]
    exact List.mem_map_of_mem (mem_dedP.mpr hq)
  simp only [List.length_map] at this
  omega
theorem ltP_of {p q : Int × Int} (h : TS.code 64 (rw2 p) ≤ TS.code 64 (rw2 q)) (ne : rw2 p ≠ rw2 q) (hp : 0 ≤ p.1 ∧ p.1 < 64 ∧ 0 ≤ p.2 ∧ p.2 < 64) (hq : 0 ≤ q.1 ∧ q.1 < 64 ∧ 0 ≤ q.2 ∧ q.2 < 64) : ltP p q = true :=
  decide_eq_true (pair_lt h ne ⟨hp.1, hp.2.1⟩ hp.2.2 ⟨hq.1, hq.2.1⟩ hq.2.2)
theorem ltP_dec {p q : Int × Int} : ltP p q = true ↔ p.1 < q.1 ∨ (p.1 = q.1 ∧ p.2 < q.2) := by
  unfold ltP
  rw [decide_eq_true_eq]
theorem leP_dec {p q : Int × Int} : leP p q = true ↔ p.1 < q.1 ∨ (p.1 = q.1 ∧ p.2 ≤ q.2) := by
  unfold leP
  rw [decide_eq_true_eq]
theorem ltP_irr {p q : Int × Int} (h : ltP p q = true) (h2 : ltP q p = true) : False := by
  rw [ltP_dec] at h h2
  omega
/-- rising lists with the same pairs -/
theorem rise_eq : ∀ {l r : List (Int × Int)}, l.Pairwise (fun a b => ltP a b = true) → r.Pairwise (fun a b => ltP a b = true) → (∀ k, k ∈ l ↔ k ∈ r) → l = r
  | [], [], _, _, _ => rfl
  | [], y :: r, _, _, h => absurd ((h y).2 List.mem_cons_self) (by simp)
  | x :: l, [], _, _, h => absurd ((h x).1 List.mem_cons_self) (by simp)
  | x :: l, y :: r, pl, pr, h => by
    rw [List.pairwise_cons] at pl pr
    have e : x = y := by
      have h1 := (h x).1 List.mem_cons_self
      have h2 := (h y).2 List.mem_cons_self
      rw [List.mem_cons] at h1 h2
      rcases h1 with e | h1
      · exact e
      · rcases h2 with e | h2
        · exact e.symm
        · exact (ltP_irr (pr.1 _ h1) (pl.1 _ h2)).elim
    subst e
    refine congrArg (x :: ·) (rise_eq pl.2 pr.2 fun k => ?_)
    have hk := h k
    rw [List.mem_cons, List.mem_cons] at hk
    constructor
    · intro z
      rcases hk.1 (.inr z) with e | q
      · subst e; exact (ltP_irr (pl.1 _ z) (pl.1 _ z)).elim
      · exact q
    · intro z
      rcases hk.2 (.inr z) with e | q
      · subst e; exact (ltP_irr (pr.1 _ z) (pr.1 _ z)).elim
      · exact q
theorem sortP_rise {ps : List (Int × Int)} (nd : ps.Nodup) : (ps.mergeSort leP).Pairwise (fun a b => ltP a b = true) := by
  have h1 := List.pairwise_mergeSort (le := leP) (fun a b c h1 h2 => by rw [leP_dec] at h1 h2 ⊢; omega) (fun a b => by rw [Bool.or_eq_true, leP_dec, leP_dec]; omega) ps
  have h2 : (ps.mergeSort leP).Nodup := (List.mergeSort_perm ps leP).nodup_iff.mpr nd
  refine (h1.and h2).imp fun {a b} ⟨q1, q2⟩ => ?_
  rw [leP_dec] at q1
  rw [ltP_dec]
  by_cases z : a.1 < b.1
  · exact .inl z
  · have : a.2 ≠ b.2 := fun e => q2 (Prod.ext (by omega) e)
    omega
theorem mem_sortP {ps : List (Int × Int)} {p : Int × Int} : p ∈ (dedP ps).mergeSort leP ↔ p ∈ ps := by
  rw [List.mem_mergeSort, mem_dedP]
/-- rows that are told of a list of pairs -/
theorem tup_rows {K : PySem.W.Frag} {F : Addr → Prop} {H : Hp} : ∀ {ps : List (Int × Int)} {vs : List V}, Reps K F H (ps.map prD) vs → ∃ ks : List (Addr × List Int), vs = ks.map (fun p => V.ref p.1) ∧ ks.map (·.2) = ps.map rw2 ∧ ∀ p ∈ ks, RdT K F H p.1 (p.2.map V.int)
  | [], _, h => ⟨[], h, rfl, fun _ z => by cases z⟩
  | p :: ps, vs, h => by
    obtain ⟨v, r, rfl, ⟨a, us, rfl, t, rr⟩, h2⟩ := h
    obtain ⟨ks, e1, e2, e3⟩ := tup_rows h2
    have eu : us = [V.int p.1, V.int p.2] := by
      obtain ⟨v1, r1, rfl, q1, v2, r2, rfl, q2, q3⟩ := rr
      cases q1
      cases q2
      cases q3
      rfl
    refine ⟨(a, rw2 p) :: ks, by rw [e1]; rfl, by rw [List.map_cons, e2]; rfl, fun q hq => ?_⟩
    rcases List.mem_cons.mp hq with rfl | hq
    · rw [eu] at t
      exact t
    · exact e3 q hq
theorem rows_reps {K : PySem.W.Frag} {F : Addr → Prop} {H : Hp} : ∀ {qs : List (Int × Int)} {L : List (Addr × List Int)}, L.map (·.2) = qs.map rw2 → (∀ p ∈ L, RdT K F H p.1 (p.2.map V.int)) → Reps K F H (qs.map prD) (L.map fun p => V.ref p.1)
  | [], [], _, _ => rfl
  | [], _ :: _, e, _ => by cases e
  | _ :: _, [], e, _ => by cases e
  | q :: qs, p :: L, e, h => by
    rw [List.map_cons, List.map_cons, List.cons.injEq] at e
    have t := h p List.mem_cons_self
    rw [e.1] at t
    exact ⟨V.ref p.1, L.map (fun p => V.ref p.1), rfl, ⟨p.1, _, rfl, t, V.int q.1, [V.int q.2], rfl, rfl, V.int q.2, [], rfl, rfl, rfl⟩, rows_reps e.2 fun x hx => h x (List.mem_cons_of_mem _ hx)⟩
def rSetT (K : PySem.W.Frag) (P : Program) (w : World) : List V → Hp → VK → Prop := fun xs H Q => ∃ (l : Addr) (ks : List (Addr × List Int)), xs = [V.ref l] ∧ SqL K H l (ks.map fun p => V.ref p.1) ∧ (∀ p ∈ ks, SqT K H p.1 (p.2.map V.int)) ∧ Unlike ks ∧
  ∀ a L, H a = none → (∀ p ∈ L, p ∈ ks) → (∀ p ∈ ks, p.2 ∈ L.map (·.2)) → Q (.ref a) (upd H a (SetTO P w a L))
section
variable {X : Cx}
theorem cr_setT (hc : X.calm = true) (hu : X.A.units + 64 < cLine) : CallR X (.type "set") (rSetT X.K X.prog X.w) := by
  rintro pins s σ H xs us Q I r ⟨l, ks, rfl, hl, hk, few, q⟩
  rw [Vals.ref1 r]
  obtain ⟨its, rv, pl, hz⟩ := I.list hl
  refine set_of_tups (P := X.prog) (w := X.w) ks (I.ok.hd hc) pl.isList (by simpa using refs_of_vals rv) (fun p hp => I.isT (hk p hp)) few (by omega) fun h' tk L es ep t R g k => ?_
  exact ⟨.ref s.heap.objs.size, _, I.laid (t' := tk) k (Nat.le_refl _) (setTO_new R.t0), rfl, q _ L (I.hok.fresh (Nat.le_refl _)) (fun p hp => List.mem_of_mem_take (g.sub p hp)) fun p hp => g.all p (by rw [List.take_length]; exact hp)⟩
end
section
variable {Y : Sys} {M : MM} {sc : SC} {W : WX} {X : Cx} {σ : L2.St} {H H1 : Hp} {k : Nat}
variable {a : Expr} {f : Env → Out PyData} {za : St} {p pos : Pos}
theorem je_sortset {p2 q : Pos} (O : XOk Y k true X) (hu : X.A.units + 65 < cLine) (hg : Gl X "sorted") (hm : X.mg "sorted" = none) (hg2 : Gl X "set") (hm2 : X.mg "set" = none)
    (na : starEach [a] X.env = (false, eval a X.env) :: starEach [] X.env) (ja : JE Y M sc W X a f za) :
    JE Y M sc W X (.Call (.Name "sorted" p) [.Call (.Name "set" p2) [a] [] q] [] pos) (fun env => (f env).bind fun u e1 => VF.lift (sortsetD u) e1) ⟨za.mu, za.oi, za.oi, true⟩ := by
  obtain ⟨am, ta, pa, ja⟩ := ja
  refine ⟨am, _, pe_callB (cr_sortedT (O.calm rfl)) hg hm (by decide +kernel) (pa_one (pe_callTy (cr_setT (O.calm rfl) (by omega)) hg2 hm2 boot_set (pa_one pa na) (he := na)) rfl) (by decide) (by decide) (he := rfl), fun σ H env Q F Tb h => ?_⟩
  refine ja σ H env _ F Tb (h.bind.imp fun u e1 h1 w H1 F1 k1 r1 _ => ?_)
  obtain ⟨z, ez, h2⟩ := h1.lift
  cases u <;> try cases ez
  rename_i ds
  unfold sortsetD at ez
  obtain ⟨ps, ep, ez⟩ := Option.bind_eq_some_iff.mp ez
  split at ez
  case isFalse => cases ez
  rename_i hc
  rw [Bool.and_eq_true, decide_eq_true_eq] at hc
  cases ez
  obtain ⟨l, vs, rfl, t, rr⟩ := r1
  rw [pairs_map ep] at rr
  obtain ⟨ks, rfl, e2, e3⟩ := tup_rows rr
  refine ⟨l, ks, rfl, t.sq, fun x hx => O.K ▸ (e3 x hx).sq, unlike_of e2 hc.2, fun b L hb sub all => ?_⟩
  have kb : Kp Y.T F0 H1 (upd H1 b (SetTO X.prog X.w b L)) := .new hb
  have sm : ∀ x ∈ ks, x.2.length = 2 ∧ TS.Bd 64 x.2 := fun x hx => by
    have : x.2 ∈ ks.map (·.2) := List.mem_map_of_mem hx
    rw [e2] at this
    obtain ⟨y, hy, e⟩ := List.mem_map.mp this
    have hb := of_decide_eq_true (List.all_eq_true.mp hc.1 y hy)
    rw [← e]
    refine ⟨rfl, fun m hm => ?_⟩
    unfold rw2 at hm
    simp only [List.mem_cons, List.not_mem_nil, or_false] at hm
    rcases hm with rfl | rfl
    · exact ⟨hb.1, hb.2.1⟩
    · exact hb.2.2
  have e4 : ∀ x ∈ ks, RdT Y.K (FX M za.oi σ) (upd H1 b (SetTO X.prog X.w b L)) x.1 (x.2.map V.int) := fun x hx => (e3 x hx).keep (kb.keep.mono fun _ z => z.elim)
  refine ⟨b, L, 2, 64, rfl, upd_same, fun x hx => O.K ▸ (e4 x (sub x hx)).sq, by decide, fun x hx => sm x (sub x hx), fun L' c pm nd few pw hcn => ?_⟩
  -- the rows told
  have mem' : ∀ x ∈ L', x ∈ ks := fun x hx => sub x (pm.mem_iff.mp hx)
  have hq : L'.map (·.2) = ((dedP ps).mergeSort leP).map rw2 := by
    have ex : ∀ L2 : List (Addr × List Int), (∀ x ∈ L2, x ∈ ks) → ∃ qs : List (Int × Int), L2.map (·.2) = qs.map rw2 ∧ ∀ y ∈ qs, y ∈ ps := fun L2 => by
      induction L2 with
      | nil => exact fun _ => ⟨[], rfl, fun _ z => by cases z⟩
      | cons x L2 ih =>
        intro hs
        obtain ⟨qs, g1, g2⟩ := ih fun y hy => hs y (List.mem_cons_of_mem _ hy)
        have : x.2 ∈ ks.map (·.2) := List.mem_map_of_mem (hs x List.mem_cons_self)
        rw [e2] at this
        obtain ⟨y, hy, e⟩ := List.mem_map.mp this
        refine ⟨y :: qs, by rw [List.map_cons, List.map_cons, g1, e], fun z hz => ?_⟩
        rcases List.mem_cons.mp hz with rfl | hz
        · exact hy
        · exact g2 z hz
    obtain ⟨qs, g1, g2⟩ := ex L' mem'
    rw [g1]
    have bd : ∀ y ∈ ps, 0 ≤ y.1 ∧ y.1 < 64 ∧ 0 ≤ y.2 ∧ y.2 < 64 := fun y hy => of_decide_eq_true (List.all_eq_true.mp hc.1 y hy)
    refine congrArg (List.map rw2) (rise_eq ?_ (sortP_rise (dedP_nd ps)) fun y => ?_)
    · have pw2 : (L'.map (·.2)).Pairwise (fun x y => TS.code 64 x ≤ TS.code 64 y) := List.pairwise_map.mpr pw
      rw [g1] at pw2 nd
      have pw3 := List.pairwise_map.mp (pw2.and nd)
      exact List.Pairwise.imp_of_mem (fun {x y} hx hy h => ltP_of h.1 h.2 (bd x (g2 x hx)) (bd y (g2 y hy))) pw3
    · rw [mem_sortP]
      refine ⟨g2 y, fun hy => ?_⟩
      have : rw2 y ∈ ks.map (·.2) := by rw [e2]; exact List.mem_map_of_mem hy
      obtain ⟨x, hx, e⟩ := List.mem_map.mp this
      have h6 := all x hx
      rw [← (pm.map (·.2)).mem_iff, g1, e] at h6
      obtain ⟨y2, hy2, e5⟩ := List.mem_map.mp h6
      rw [← rw2_inj e5]
      exact hy2
  exact new_list (z := ⟨za.mu, za.oi, za.oi, true⟩) am h2 (F1.grow kb.keep) (k1.trans kb.grow) (rows_reps hq fun x hx => e4 x (mem' x hx)) hcn
end
end VF
set_option Elab.async false
set_option maxRecDepth 100000
set_option maxHeartbeats 4000000
namespace VF
open PySem PySem.Spec PyProof.Rows L2

/-! ### the static context -/
structure Sx where
  N : List Str
  sc : Scope
  fn : Str → Bool
  m : Nat → Bool
  scr : Bool
  hot : Bool
  free : List Str
  sig : Str → Option Sig
  glob : Str → Option PyData
  kl : List (Str × List Str)
  ecls : List Str
  hcl : List Str
  lam : Bool
  gd : Bool
  exn : Option (Nat × Str)
  isx : List ((Str × Str) × Bool)
  asc : Str → List Str
/-- the maker of lambdas: its code object, its table -/
structure LamOk (Y : Sys) (X : Cx) (c P : Addr) : Prop where
  code : X.env.code = .ref c
  tab : LamX.TabB Y.base Y.mg c P
  mem : (P, X.env.qual ++ "<lambda>") ∈ Y.T
  uniq : ∀ p ∈ Y.T, p.1 = P → p.2 = X.env.qual ++ "<lambda>"
/-- whether an error of a class is one of another -/
structure IsI (Y : Sys) (c K : Str) (b : Bool) : Prop where
  db : (K == ("__debug__" : Str)) = false
  ex : ∃ (D : Addr) (v : V) (cv : Value), Y.mg c = some (.ref D) ∧ ExcC Y.K D ∧ RelV v cv ∧ (∀ u, RelV v u → u = cv) ∧ (Y.mg K = some cv ∨ (Y.mg K = none ∧ bootBuiltins K = some cv ∧ K ≠ "__name__")) ∧ PySem.W.kitOne Y.K (.ref D) cv = some b
/-- the suite of an error without fields -/
def HeldX (Y : Sys) (X : Cx) (c : Str) : Prop := ∃ (X0 : Cx) (a : Addr) (oe : Obj) (pn : List (Addr × Obj)) (D : Addr), X = X0.suite a ((a, oe) :: pn) ∧ Zc (.ref D) none oe ∧ (∃ vs, oe.data = .fields vs) ∧ Y.mg c = some (.ref D)
/-- what holds of a context -/
structure Good (Y : Sys) (C : Cfg) (cs : Calls) (k : Nat) (S : Sx) (X : Cx) (W : WX) : Prop where
  N : X.N = S.N
  sc : X.env.scope = S.sc
  fn : ∀ x, X.fn x = S.fn x
  ok : XOk Y k S.hot X
  tk : Takes X W
  free : ∀ x, x ∈ S.free → Y.mg x = none
  sig : C.sig = S.sig
  fns : Fns Y cs k S.sig
  glob : C.glob = S.glob
  gl : ∀ x d, S.glob x = some d → ∃ i u, d = .int i ∧ Y.mg x = some u ∧ RelV (.int i) u
  kl : Y.kl = S.kl
  ecl : ∀ x, x ∈ S.ecls → ExI Y x
  hcl : ∀ x, x ∈ S.hcl → ∃ c, HsI Y C.exm x c ∧ (x == ("__debug__" : Str)) = false ∧ (Y.mg x = some c ∨ (Y.mg x = none ∧ bootBuiltins x = some c ∧ x ≠ "__name__"))
  lam : S.lam = true → ∃ c P, LamOk Y X c P
  gd : S.gd = true → X.A.guards = some []
  exn : ∀ q, S.exn = some q → HeldX Y X q.2
  isx : ∀ q, q ∈ S.isx → IsI Y q.1.1 q.1.2 q.2
/-- the exception that a suite holds -/
def xAd (X : Cx) : Addr := match X.pn with
  | [] => 0
  | q :: _ => q.1
def scO (C : Cfg) (S : Sx) (X : Cx) : SC := ⟨if S.scr then some C.scr else none, S.exn.map fun q => (q.1, xAd X)⟩
theorem scO_any {C : Cfg} {S : Sx} {X X' : Cx} (h : S.exn = none) : scO C S X = scO C S X' := by
  unfold scO
  rw [h]
  rfl
def freeS (S : Sx) (i : Nat) : Bool := (!S.scr || i != 0) && (match S.exn with
  | none => true
  | some q => i != q.1)
theorem freeS_eq {C : Cfg} {S : Sx} {X : Cx} {i : Nat} : frS (scO C S X) i = freeS S i := by
  unfold frS freeS scO
  cases S.scr <;> cases S.exn <;> rfl

/-! ### conditions of form -/
def nst : Expr → Bool
  | .Starred .. => false
  | _ => true
theorem star_cons {e : Expr} {es : List Expr} {env : PySem.Env} (h : nst e = true) : starEach (e :: es) env = (false, eval e env) :: starEach es env := by
  cases e <;> first | rfl | cases h
theorem star_any {pos : Pos} {env : PySem.Env} : ∀ {es : List Expr}, es.all nst = true → (backTo pos (starEach es env)).any (·.1) = false
  | [], _ => rfl
  | e :: es, h => by
    simp only [List.all_cons, Bool.and_eq_true] at h
    rw [star_cons h.1]
    show (false || (backTo pos (starEach es env)).any (·.1)) = false
    rw [star_any h.2]
    rfl
theorem few1 {pos : Pos} {env : PySem.Env} {e : Expr} (h : nst e = true) : ((backTo pos (starEach [e] env)).all (fun x => !x.1) && (backToKw pos (keywordEach [] env)).all (fun x => x.1.isSome) && decide ([e].length + ([] : List Keyword).length + (if ([] : List Keyword).isEmpty then 0 else 1) < 30)) = true := by
  rw [star_cons h]
  rfl
def plainT : Expr → Bool
  | .UnaryOp .Not _ _ => false
  | .BoolOp .. => false
  | .IfExp .. => false
  | .Compare .. => false
  | _ => true
theorem plain_true {e : Expr} {env : PySem.Env} (h : plainT e = true) : ∀ whole, isTrue e env whole = (do let v ← whole; standAt e.pos; holding [v] (truthy v)) := by
  intro whole
  cases e <;> first | rfl | cases h | skip
  rename_i op x p
  cases op <;> first | rfl | cases h
def noSlice : Expr → Bool
  | .Slice .. => false
  | _ => true
theorem plain_ix {e : Expr} (h : noSlice e = true) : PlainIx e := by
  intro o i
  cases e <;> first | rfl | cases h
def noSet : Expr → Bool
  | .Set .. => false
  | _ => true
theorem no_fold {e : Expr} {env : PySem.Env} (h : noSet e = true) : ∀ x, foldedSetIterable e env x = pure x := by
  intro x
  cases e <;> first | rfl | cases h
def cmpOf : CmpOp → Option COp
  | .Eq => some .eq
  | .NotEq => some .ne
  | .Lt => some .lt
  | .LtE => some .le
  | .Gt => some .gt
  | .GtE => some .ge
  | .In => some .isin
  | .NotIn => some .notin
  | _ => none
theorem cmpOf_eq {op : CmpOp} {o : COp} (h : cmpOf op = some o) : op = copOf o := by
  cases op <;> cases h <;> rfl
def bopOf : Operator → Option BOp
  | .Add => some .add
  | .Sub => some .sub
  | .Mult => some .mul
  | .FloorDiv => some .fdiv
  | .Mod => some .mod
  | .Pow => some .pow
  | _ => none
theorem bopOf_eq {op : Operator} {o : BOp} (h : bopOf op = some o) : op = opOf o := by
  cases op <;> cases h <;> rfl
def boOf : PySem.BoolOp → Bool
  | .And => true
  | .Or => false
theorem boOf_eq {op : PySem.BoolOp} : op = if boOf op then .And else .Or := by cases op <;> rfl
def isOf : CmpOp → Option Bool
  | .Is => some true
  | .IsNot => some false
  | _ => none
theorem isOf_eq {op : CmpOp} {q : Bool} (h : isOf op = some q) : op = if q then .Is else .IsNot := by cases op <;> cases h <;> rfl
def cstOfC : Const → Option Cst
  | .none => some .non
  | .bool true => some .tt
  | .bool false => some .ff
  | _ => none
theorem cstOfC_eq {c : Const} {k : Cst} (h : cstOfC c = some k) : c = cstOf k := by
  cases c <;> first | (cases h; rfl) | (rename_i b; cases b <;> cases h <;> rfl) | cases h
def tyNm (x : Str) : Option String := ["bool", "int", "str", "list", "tuple"].find? fun t => Str.ofString t == x
theorem ty_boot : ∀ t ∈ ["bool", "int", "str", "list", "tuple"], bootBuiltins (Str.ofString t) = some (.type t) ∧ Str.ofString t ≠ "__name__" ∧ (Str.ofString t == ("__debug__" : Str)) = false ∧ t ∈ ["NoneType", "bool", "int", "str", "list", "tuple"] := by decide +kernel
theorem tyNm_eq {x : Str} {t : String} (h : tyNm x = some t) : x = Str.ofString t ∧ t ∈ ["bool", "int", "str", "list", "tuple"] := by
  unfold tyNm at h
  refine ⟨?_, List.mem_of_find?_eq_some h⟩
  have := List.find?_some h
  exact (eq_of_beq this).symm
def isGl (S : Sx) (x : Str) : Bool := decide (S.sc.names.lookup x = some .globalImplicit)
def isBl (S : Sx) (x : Str) : Bool := isGl S x && decide (x ∈ S.free)
def isVis (S : Sx) (x : Str) : Bool := decide (S.sc.names.lookup x = some .local ∨ S.sc.names.lookup x = some .cell ∨ S.sc.names.lookup x = some .free) && !(x == ("__debug__" : Str)) && !(x == ("__classdict__" : Str))
def isLoc (S : Sx) (x : Str) : Bool := decide (S.sc.names.lookup x = some .local) || (decide (S.sc.names.lookup x = some .cell) && S.fn x)
section
variable {Y : Sys} {C : Cfg} {cs : Calls} {k : Nat} {S : Sx} {X : Cx} {W : WX}
theorem Good.gl' (G : Good Y C cs k S X W) {x : Str} (h : isGl S x = true) : Gl X x := by
  unfold isGl at h
  rw [decide_eq_true_eq, ← G.sc] at h
  exact h
theorem Good.bl (G : Good Y C cs k S X W) {x : Str} (h : isBl S x = true) : Gl X x ∧ X.mg x = none := by
  unfold isBl at h
  simp only [Bool.and_eq_true, decide_eq_true_eq] at h
  exact ⟨G.gl' h.1, by rw [G.ok.mg]; exact G.free x h.2⟩
theorem Good.vis (G : Good Y C cs k S X W) {x : Str} (h : isVis S x = true) : Vis X.env.scope x ∧ (x == ("__debug__" : Str)) = false ∧ (x == ("__classdict__" : Str)) = false := by
  unfold isVis at h
  simp only [Bool.and_eq_true, decide_eq_true_eq, Bool.not_eq_true'] at h
  rw [← G.sc] at h
  exact ⟨h.1.1, h.1.2, h.2⟩
theorem Good.loc (G : Good Y C cs k S X W) {x : Str} (h : isLoc S x = true) : Loc X.env.scope x ∧ (X.fn x = true ∨ X.env.scope.names.lookup x = some .local) := by
  unfold isLoc at h
  simp only [Bool.or_eq_true, Bool.and_eq_true, decide_eq_true_eq] at h
  rw [← G.sc, ← G.fn] at h
  rcases h with h | h
  · exact ⟨.inl h, .inr h⟩
  · exact ⟨.inr h.1, .inl h.2⟩
theorem Good.tyN (G : Good Y C cs k S X W) {t : String} (ht : t ∈ ["bool", "int", "str", "list", "tuple"]) (h : isBl S (Str.ofString t) = true) : TyN X t := by
  obtain ⟨h1, h2, h3, _⟩ := ty_boot t ht
  obtain ⟨g1, g2⟩ := G.bl h
  exact ⟨g1, g2, h1, h2, h3⟩
/-- a slot by its name -/
def slotOf (S : Sx) (x : Str) : Option Nat := (S.N.idxOf? x).bind fun i => if S.N[i]? = some x then some i else none
theorem slotOf_eq {x : Str} {i : Nat} (h : slotOf S x = some i) : S.N[i]? = some x := by
  unfold slotOf at h
  obtain ⟨j, _, h⟩ := Option.bind_eq_some_iff.mp h
  split at h
  · cases h; assumption
  · cases h
theorem Good.var (G : Good Y C cs k S X W) {x : Str} {i : Nat} {p : Pos} (h : isVis S x = true) (hi : slotOf S x = some i) : PE X (.Name x p) (tVar i) := by
  obtain ⟨h1, h2, h3⟩ := G.vis h
  exact pe_var (by rw [G.N]; exact slotOf_eq hi) h1 h2 h3

/-! ### built-in functions of one argument -/
inductive B1 where
  | len | int | sorted | all | any | max | min | str
def b1Of (x : Str) : Option B1 := if x = "len" then some .len else if x = "int" then some .int else if x = "sorted" then some .sorted else if x = "all" then some .all else if x = "any" then some .any else if x = "max" then some .max else if x = "min" then some .min else if x = "str" then some .str else none
def B1.bi : B1 → Bi
  | .len => .len
  | .int => .int
  | .sorted => .sorted
  | .all => .all
  | .any => .any
  | .max => .maxl
  | .min => .minl
  | .str => .str
theorem je_b1 {M : MM} {sc : SC} {x : Str} {b : B1} {a : Expr} {f : Env → Out PyData} {za : St} {p pos : Pos} (hx : b1Of x = some b) (hu : X.A.units + 65 < cLine) (hc : X.calm = true) (hK : X.K = Y.K) (hs : starEach [a] X.env = (false, eval a X.env) :: starEach [] X.env) (hg : Gl X x) (hm : X.mg x = none) (ja : JE Y M sc W X a f za) :
    JE Y M sc W X (.Call (.Name x p) [a] [] pos) (fun env => (f env).bind fun x e1 => VF.lift (biD b.bi x) e1) ⟨za.mu, za.oi, za.oi, true⟩ := by
  unfold b1Of at hx
  split at hx
  · cases hx; rename_i e; subst e
    exact je_biF bid_len (hK ▸ call_len) hs hg hm (by decide +kernel) (by decide) (by decide) ja
  split at hx
  · cases hx; rename_i e; subst e
    exact je_biT bid_int call_int1 hs hg hm (by decide +kernel) (by decide) (by decide) ja
  split at hx
  · cases hx; rename_i e; subst e
    exact je_biF bid_sorted (call_sortedD hu hK) hs hg hm (by decide +kernel) (by decide) (by decide) ja
  split at hx
  · cases hx; rename_i e; subst e
    exact je_biF bid_all (call_allD hc hK) hs hg hm (by decide +kernel) (by decide) (by decide) ja
  split at hx
  · cases hx; rename_i e; subst e
    exact je_biF bid_any (call_anyD hc hK) hs hg hm (by decide +kernel) (by decide) (by decide) ja
  split at hx
  · cases hx; rename_i e; subst e
    exact je_biF bid_maxA (call_maxA hc hu hK) hs hg hm (by decide +kernel) (by decide) (by decide) ja
  split at hx
  · cases hx; rename_i e; subst e
    exact je_biF bid_minA (call_minA hc hu hK) hs hg hm (by decide +kernel) (by decide) (by decide) ja
  split at hx
  · cases hx; rename_i e; subst e
    exact je_biT bid_str call_str_int hs hg hm (by decide +kernel) (by decide) (by decide) ja
  · cases hx
/-! ### isinstance of a caught error -/
theorem je_isE {M : MM} {sc : SC} {i : Nat} {c n K : Str} {b : Bool} {p p1 p2 pos : Pos} (hK : X.K = Y.K) (hmg : X.mg = Y.mg) (HX : HeldX Y X c) (I : IsI Y c K b) (hsc : sc.x = some (i, xAd X)) (hN : X.N[i]? = some n) (hv : Vis X.env.scope n) (hd : (n == ("__debug__" : Str)) = false) (hcd : (n == ("__classdict__" : Str)) = false) (hg : Gl X "isinstance") (hm : X.mg "isinstance" = none) (hgK : Gl X K) :
    JE Y M sc W X (.Call (.Name "isinstance" p) [.Name n p1, .Name K p2] [] pos) (fun env => .ok (.bool b) env) ⟨[], [], [], false⟩ := by
  obtain ⟨D, v, cv, g1, EC, rv, uv, gK, kit⟩ := I.ex
  obtain ⟨X0, a, oe, pn, D', eX, hz, hf, g2⟩ := HX
  have eD : D' = D := by rw [g1] at g2; cases g2; rfl
  subst eD
  have pK : PE X (.Name K p2) (tC v) := by
    rcases gK with z | ⟨z1, z2, z3⟩
    · exact pe_glob hgK (by rw [hmg]; exact z) rv I.db
    · exact pe_bltn hgK (by rw [hmg]; exact z1) z2 rv z3 I.db
  have ea : xAd X = a := by rw [eX]; rfl
  have cr : CallR X (.builtin "isinstance") (rIsE X.K D' a) := by
    rw [eX]
    exact call_isE (X := X0) (by have := EC; rw [← hK, eX] at this; exact this) hz hf
  refine ⟨by simp, _, pe_callB cr hg hm (by decide +kernel) (pa_cons (pe_var hN hv hd hcd) (pa_cons pK pa_nil rfl) rfl) (by decide) (by decide) rfl rfl, fun σ H env Q F Tb h => ?_⟩
  obtain ⟨s1, _⟩ := F.exn i _ hsc
  rw [ea] at s1
  refine ⟨.ref a, s1, v, cv, b, rfl, uv, by rw [hK]; exact kit, ?_⟩
  exact h _ H F .refl rfl (fun z => by cases z)
end
end VF
set_option Elab.async false
set_option maxRecDepth 100000
set_option maxHeartbeats 4000000
namespace VF
open PySem PySem.Spec PyProof.Rows L2
abbrev RE := Sx → Expr → Option (E × St)
abbrev RT := Sx → Expr → Option (E × List Nat)
def SndE (Y : Sys) (C : Cfg) (cs : Calls) (k : Nat) (r : RE) : Prop := ∀ S e A z, r S e = some (A, z) → ∀ X W, Good Y C cs k S X W → ∀ g, JE Y ⟨S.m, g⟩ (scO C S X) W X e (ev C cs A) z
def SndT (Y : Sys) (C : Cfg) (cs : Calls) (k : Nat) (r : RT) : Prop := ∀ S e A mu, r S e = some (A, mu) → ∀ X W, Good Y C cs k S X W → ∀ g, JT Y ⟨S.m, g⟩ (scO C S X) W X e (ev C cs A) mu
def sep2 (S : Sx) (mu : List Nat) (z : St) : Bool := sep S.m mu z.oc && sep S.m mu z.oi
section
variable {Y : Sys} {C : Cfg} {cs : Calls} {k : Nat} {S : Sx} {X : Cx} {W : WX} {rE : RE} {rT : RT} {g : Addr → Prop}
theorem sep2_1 {mu : List Nat} {z : St} (h : sep2 S mu z = true) : sep S.m mu z.oc = true ∧ sep S.m mu z.oi = true := by
  unfold sep2 at h; simpa using h

/-! ### names, constants -/
def trName (S : Sx) (x : Str) : Option (E × St) := match slotOf S x with
  | some i => if isVis S x then some (.v i, ⟨[], if S.m i then [i] else [], [], false⟩) else none
  | none => if isGl S x && !(x == ("__debug__" : Str)) then (S.glob x).map fun _ => (.glob x, s0) else none
theorem name_snd {x : Str} {p : Pos} {A : E} {z : St} (h : trName S x = some (A, z)) (G : Good Y C cs k S X W) : JE Y ⟨S.m, g⟩ (scO C S X) W X (.Name x p) (ev C cs A) z := by
  unfold trName at h
  split at h
  · rename_i i hi
    split at h
    · rename_i hv
      cases h
      obtain ⟨h1, h2, h3⟩ := G.vis hv
      exact je_var (by rw [G.N]; exact slotOf_eq hi) h1 h2 h3
    · cases h
  · split at h
    · rename_i hg
      simp only [Bool.and_eq_true, Bool.not_eq_true'] at hg
      obtain ⟨d, hd, e⟩ := Option.map_eq_some_iff.mp h
      cases e
      obtain ⟨i, u, rfl, h1, h2⟩ := G.gl x d hd
      refine ⟨by simp, _, pe_glob (G.gl' hg.1) (by rw [G.ok.mg]; exact h1) h2 hg.2, fun σ H env Q F Tb h => ?_⟩
      have e : ev C cs (.glob x) env = .ok (.int i) env := by
        show VF.lift (C.glob x) env = _
        rw [G.glob, hd]
        rfl
      rw [e] at h
      have h : VP Y ⟨S.m, g⟩ (scO C S X) s0 σ H Q (.int i) env := h
      exact h _ H F .refl rfl (fun z => by cases z)
    · cases h
def trConst : Const → Option (E × St)
  | .int i => some (.int i, s0)
  | .bool b => some (.bl b, s0)
  | .none => some (.non, s0)
  | .str s => some (.str s, s0)
  | _ => none
theorem const_snd {c : Const} {j : Nat} {p : Pos} {A : E} {z : St} {M : MM} {sc : SC} (h : trConst c = some (A, z)) : JE Y M sc W X (.Constant c j p) (ev C cs A) z := by
  cases c <;> cases h
  · exact je_const pe_non (fun _ _ => rfl)
  · exact je_const pe_bl (fun _ _ => rfl)
  · exact je_const pe_int (fun _ _ => rfl)
  · exact je_const pe_str (fun _ _ => rfl)

/-! ### lists of expressions -/
def trEs (r : Expr → Option (E × St)) (S : Sx) : List Expr → Option (Es × List Nat × List Nat)
  | [] => some (.nil, [], [])
  | e :: es => (r e).bind fun A => (trEs r S es).bind fun B => if nst e && sep2 S B.2.1 A.2 then some (.cons A.1 B.1, A.2.mu ++ B.2.1, A.2.oc ++ A.2.oi ++ B.2.2) else none
theorem es_snd (hE : SndE Y C cs k rE) (G : Good Y C cs k S X W) : ∀ {es : List Expr} {B : Es} {mu oc : List Nat}, trEs (rE S) S es = some (B, mu, oc) → JA Y ⟨S.m, g⟩ (scO C S X) W X es (evs C cs B) mu oc ∧ es.all nst = true
  | [], B, mu, oc, h => by cases h; exact ⟨ja_nil, rfl⟩
  | e :: es, B, mu, oc, h => by
    simp only [trEs, Option.bind_eq_some_iff] at h
    obtain ⟨⟨A, z⟩, hA, ⟨B', mu', oc'⟩, hB, h⟩ := h
    split at h
    · rename_i hc
      simp only [Bool.and_eq_true] at hc
      cases h
      obtain ⟨h1, h2⟩ := es_snd hE G hB
      obtain ⟨s1, s2⟩ := sep2_1 hc.2
      exact ⟨ja_cons (star_cons hc.1) (hE S e A z hA X W G g) h1 s1 s2, by simp [hc.1, h2]⟩
    · cases h
def trKs (r : Expr → Option (E × St)) (S : Sx) : List Keyword → Option (Es × List Nat × List Nat)
  | [] => some (.nil, [], [])
  | ⟨_, e, _⟩ :: es => (r e).bind fun A => (trKs r S es).bind fun B => if sep2 S B.2.1 A.2 then some (.cons A.1 B.1, A.2.mu ++ B.2.1, A.2.oc ++ A.2.oi ++ B.2.2) else none
theorem ks_snd (hE : SndE Y C cs k rE) (G : Good Y C cs k S X W) : ∀ {es : List Keyword} {B : Es} {mu oc : List Nat}, trKs (rE S) S es = some (B, mu, oc) → JK Y ⟨S.m, g⟩ (scO C S X) W X es (evs C cs B) mu oc
  | [], B, mu, oc, h => by cases h; exact jk_nil
  | ⟨nm, e, p⟩ :: es, B, mu, oc, h => by
    simp only [trKs, Option.bind_eq_some_iff] at h
    obtain ⟨⟨A, z⟩, hA, ⟨B', mu', oc'⟩, hB, h⟩ := h
    split at h
    · rename_i hc
      cases h
      obtain ⟨s1, s2⟩ := sep2_1 hc
      exact jk_cons (hE S e A z hA X W G g) (ks_snd hE G hB) s1 s2
    · cases h

/-! ### comparisons -/
def trCmp (r : Expr → Option (E × St)) (S : Sx) (l : Expr) (ops : List CmpOp) (es : List Expr) : Option (E × List Nat) := match ops, es with
  | [op], [e] => (match isOf op with
    | some q => (match e with
      | .Constant c _ _ => (cstOfC c).bind fun c => (r l).bind fun A => some (.isc q A.1 c, A.2.mu)
      | .Name t _ => (tyNm t).bind fun t => (match l with
        | .Call (.Name x _) [a] [] _ => if x = "type" && isBl S x && isBl S (Str.ofString t) && nst a then (r a).bind fun A => some (.bi (if q then .tyIs t else .tyNo t) A.1, A.2.mu) else none
        | _ => none)
      | _ => none)
    | none => (cmpOf op).bind fun o => (r l).bind fun A => (r e).bind fun B => if sep2 S B.2.mu A.2 && !behindInMarks op e then some (.cmp o A.1 B.1, A.2.mu ++ B.2.mu) else none)
  | [op, op'], [b, c] => (cmpOf op).bind fun o => (cmpOf op').bind fun o' => (r l).bind fun A => (r b).bind fun B => (r c).bind fun D =>
      if sep2 S B.2.mu A.2 && sep2 S D.2.mu B.2 && !lastMarks [op, op'] [b, c] then some (.chain o o' A.1 B.1 D.1, A.2.mu ++ B.2.mu ++ D.2.mu) else none
  | _, _ => none
theorem cmp_snd (hE : SndE Y C cs k rE) (G : Good Y C cs k S X W) {l : Expr} {ops : List CmpOp} {es : List Expr} {A : E} {mu : List Nat} {p : Pos} (h : trCmp (rE S) S l ops es = some (A, mu)) :
    JE Y ⟨S.m, g⟩ (scO C S X) W X (.Compare l ops es p) (ev C cs A) ⟨mu, [], [], false⟩ ∧ JT Y ⟨S.m, g⟩ (scO C S X) W X (.Compare l ops es p) (ev C cs A) mu := by
  have hK := G.ok.K
  have hu := G.ok.un
  unfold trCmp at h
  split at h
  · rename_i op e
    split at h
    · rename_i q hq
      have eo := isOf_eq hq
      rw [eo]
      clear eo hq
      split at h
      · rename_i c j pc
        simp only [Option.bind_eq_some_iff] at h
        obtain ⟨cc, hc, ⟨A', z⟩, hA, h⟩ := h
        cases h
        have ec := cstOfC_eq hc
        subst ec
        exact ⟨je_isc (hE _ _ _ _ hA X W G g), jt_isc (hE _ _ _ _ hA X W G g)⟩
      · rename_i t pt
        rw [Option.bind_eq_some_iff] at h
        obtain ⟨ts, ht, h⟩ := h
        obtain ⟨e1, e2⟩ := tyNm_eq ht
        clear ht
        subst e1
        split at h
        · rename_i x px a pl
          split at h
          · rename_i hc
            simp only [Bool.and_eq_true, decide_eq_true_eq] at hc
            obtain ⟨⟨⟨c1, c2⟩, c3⟩, c4⟩ := hc
            subst c1
            rw [Option.bind_eq_some_iff] at h
            obtain ⟨⟨A', z⟩, hA, h⟩ := h
            cases h
            obtain ⟨g1, g2⟩ := G.bl c2
            have j1 := je_tyIs (q := q) (p := px) (p2 := pt) (p3 := pl) (p4 := p) hK (star_cons c4) g1 g2 (G.tyN e2 c3) (hE _ _ _ _ hA X W G g)
            have j2 := jt_tyIs (q := q) (p := px) (p2 := pt) (p3 := pl) (p4 := p) hK (star_cons c4) g1 g2 (G.tyN e2 c3) (hE _ _ _ _ hA X W G g)
            cases q
            · exact ⟨j1, j2⟩
            · exact ⟨j1, j2⟩
          · cases h
        · cases h
      · cases h
    · simp only [Option.bind_eq_some_iff] at h
      obtain ⟨o, ho, ⟨A', za⟩, hA, ⟨B', zb⟩, hB, h⟩ := h
      split at h
      · rename_i hc
        simp only [Bool.and_eq_true, Bool.not_eq_true'] at hc
        cases h
        have eo := cmpOf_eq ho
        subst eo
        obtain ⟨s1, s2⟩ := sep2_1 hc.1
        exact ⟨je_cmp o hK hu hc.2 (hE _ _ _ _ hA X W G g) (hE _ _ _ _ hB X W G g) s1 s2, jt_cmp o hK hu hc.2 (hE _ _ _ _ hA X W G g) (hE _ _ _ _ hB X W G g) s1 s2⟩
      · cases h
  · rename_i op op' b c
    simp only [Option.bind_eq_some_iff] at h
    obtain ⟨o, ho, o', ho', ⟨A', za⟩, hA, ⟨B', zb⟩, hB, ⟨D', zd⟩, hD, h⟩ := h
    split at h
    · rename_i hc
      simp only [Bool.and_eq_true, Bool.not_eq_true'] at hc
      cases h
      have eo := cmpOf_eq ho
      have eo' := cmpOf_eq ho'
      subst eo eo'
      obtain ⟨s1, s2⟩ := sep2_1 hc.1.1
      obtain ⟨t1, t2⟩ := sep2_1 hc.1.2
      exact ⟨je_chain o o' hK hu hc.2 (hE _ _ _ _ hA X W G g) (hE _ _ _ _ hB X W G g) (hE _ _ _ _ hD X W G g) s1 s2 t1 t2, jt_chain o o' hK hu hc.2 (hE _ _ _ _ hA X W G g) (hE _ _ _ _ hB X W G g) (hE _ _ _ _ hD X W G g) s1 s2 t1 t2⟩
    · cases h
  · cases h

/-! ### subscripts -/
def trO (r : Expr → Option (E × St)) : Option Expr → Option (Eo × List Nat)
  | none => some (.no, [])
  | some e => (r e).map fun A => (.y A.1, A.2.mu)
theorem o_snd (hE : SndE Y C cs k rE) (G : Good Y C cs k S X W) {e : Option Expr} {A : Eo} {mu : List Nat} (h : trO (rE S) e = some (A, mu)) : JO Y ⟨S.m, g⟩ (scO C S X) W X e (evO C cs A) mu := by
  cases e with
  | none => cases h; exact jo_no
  | some e =>
    obtain ⟨⟨B, z⟩, hB, e2⟩ := Option.map_eq_some_iff.mp h
    cases e2
    exact jo_some (hE _ _ _ _ hB X W G g)
def isStake (S : Sx) (a : Expr) : Option Expr → Option Nat
  | some (.Constant (.int i) _ _) => (match a with
    | .Name x _ => if S.scr && slotOf S x == some 0 && isVis S x && decide (0 ≤ i) then some i.toNat else none
    | _ => none)
  | _ => none
theorem stake_eq {a : Expr} {hi : Option Expr} {n : Nat} (h : isStake S a hi = some n) : ∃ (i : Int) (j : Nat) (pi px : Pos) (x : Str), hi = some (.Constant (.int i) j pi) ∧ a = .Name x px ∧ S.scr = true ∧ slotOf S x = some 0 ∧ isVis S x = true ∧ 0 ≤ i ∧ n = i.toNat := by
  unfold isStake at h
  split at h
  · split at h
    · split at h
      · rename_i hc
        simp only [Bool.and_eq_true, decide_eq_true_eq, beq_iff_eq] at hc
        cases h
        exact ⟨_, _, _, _, _, rfl, rfl, hc.1.1.1, hc.1.1.2, hc.1.2, hc.2, rfl⟩
      · cases h
    · cases h
  · cases h
def trSub (r : Expr → Option (E × St)) (S : Sx) (a i : Expr) : Option (E × St) := match i with
  | .Slice none none (some (.UnaryOp .USub (.Constant (.int i) _ _) _)) _ => if i = 1 then (r a).map fun A => (.rev A.1, ⟨A.2.mu, A.2.oi, A.2.oi, true⟩) else none
  | .Slice lo hi none _ => (match isStake S a hi, lo with
    | some n, none => some (.stake n, ⟨[], [], [], true⟩)
    | _, _ => (r a).bind fun A => (trO r lo).bind fun L => (trO r hi).bind fun H => if sep2 S (L.2 ++ H.2) A.2 then some (.sl A.1 L.1 H.1, ⟨A.2.mu ++ (L.2 ++ H.2), A.2.oi, A.2.oi, true⟩) else none)
  | i => if noSlice i then (r a).bind fun A => (r i).bind fun B => if sep2 S B.2.mu A.2 then some (.idx A.1 B.1, ⟨A.2.mu ++ B.2.mu, A.2.oi, A.2.oi, false⟩) else none else none
theorem sub_snd (hE : SndE Y C cs k rE) (G : Good Y C cs k S X W) {a i : Expr} {A : E} {z : St} {p : Pos} (h : trSub (rE S) S a i = some (A, z)) : JE Y ⟨S.m, g⟩ (scO C S X) W X (.Subscript a i p) (ev C cs A) z := by
  have hK := G.ok.K
  unfold trSub at h
  split at h
  · split at h
    · rename_i hi
      obtain ⟨⟨A', za⟩, hA, e⟩ := Option.map_eq_some_iff.mp h
      cases e
      subst hi
      exact je_rev hK (hE _ _ _ _ hA X W G g)
    · cases h
  · rename_i lo hi ps hns0
    split at h
    · rename_i n hn
      cases h
      obtain ⟨i, j, pi, px, x, rfl, rfl, c1, c2, c3, c4, rfl⟩ := stake_eq hn
      have ei : i = (i.toNat : Int) := (Int.toNat_of_nonneg c4).symm
      have := je_stake (Y := Y) (M := ⟨S.m, g⟩) (W := W) (sc := scO C S X) (ns := C.scr) (n := i.toNat) (j := j) (p2 := pi) (p3 := hns0) (pos := p) (by unfold scO; rw [c1]; rfl) (G.var (p := px) c3 c2) hK
      rw [← ei] at this
      exact this
    · simp only [Option.bind_eq_some_iff] at h
      obtain ⟨⟨A', za⟩, hA, ⟨L, lm⟩, hL, ⟨Hh, hm⟩, hH, h⟩ := h
      split at h
      · rename_i hc
        cases h
        obtain ⟨s1, s2⟩ := sep2_1 hc
        exact je_sl hK (hE _ _ _ _ hA X W G g) (o_snd hE G hL) (o_snd hE G hH) s1 s2
      · cases h
  · split at h
    · rename_i hns
      simp only [Option.bind_eq_some_iff] at h
      obtain ⟨⟨A', za⟩, hA, ⟨B', zb⟩, hB, h⟩ := h
      split at h
      · rename_i hc
        cases h
        obtain ⟨s1, s2⟩ := sep2_1 hc
        exact je_idx hK (plain_ix hns) (hE _ _ _ _ hA X W G g) (hE _ _ _ _ hB X W G g) s1 s2
      · cases h
    · cases h
end
end VF
set_option Elab.async false
set_option maxRecDepth 100000
set_option maxHeartbeats 4000000
namespace VF
open PySem PySem.Spec PyProof.Rows L2
section
variable {Y : Sys} {C : Cfg} {cs : Calls} {k : Nat} {S : Sx} {X : Cx} {W : WX} {rE : RE} {rT : RT} {g : Addr → Prop}

/-! ### what is walked -/
def trRng (r : Expr → Option (E × St)) (S : Sx) : Expr → Option (VF.It × List Nat)
  | .Call (.Name x _) [a] [] _ => if x = "range" && isBl S x && nst a then (r a).map fun A => (.rng1 A.1, A.2.mu) else none
  | .Call (.Name x _) [a, b] [] _ => if x = "range" && isBl S x && nst a && nst b then (r a).bind fun A => (r b).bind fun B => if sep2 S B.2.mu A.2 then some (.rng2 A.1 B.1, A.2.mu ++ B.2.mu) else none else none
  | _ => none
theorem rng_snd (hE : SndE Y C cs k rE) (G : Good Y C cs k S X W) {e : Expr} {I : VF.It} {mu : List Nat} (h : trRng (rE S) S e = some (I, mu)) : JG Y ⟨S.m, g⟩ (scO C S X) W X e (evIt C cs I) mu ∧ ∀ tg, JI Y ⟨S.m, g⟩ (scO C S X) W X tg e (evIt C cs I) mu := by
  unfold trRng at h
  split at h
  · split at h
    · rename_i hc
      simp only [Bool.and_eq_true, decide_eq_true_eq] at hc
      obtain ⟨⟨c1, c2⟩, c3⟩ := hc
      subst c1
      obtain ⟨g1, g2⟩ := G.bl c2
      rw [Option.map_eq_some_iff] at h
      obtain ⟨⟨A, z⟩, hA, e⟩ := h
      cases e
      exact ⟨jg_1 (star_cons c3) g1 g2 (hE _ _ _ _ hA X W G g), fun tg => ji_r1 (star_cons c3) g1 g2 (hE _ _ _ _ hA X W G g)⟩
    · cases h
  · split at h
    · rename_i hc
      simp only [Bool.and_eq_true, decide_eq_true_eq] at hc
      obtain ⟨⟨⟨c1, c2⟩, c3⟩, c4⟩ := hc
      subst c1
      obtain ⟨g1, g2⟩ := G.bl c2
      simp only [Option.bind_eq_some_iff] at h
      obtain ⟨⟨A, za⟩, hA, ⟨B, zb⟩, hB, h⟩ := h
      split at h
      · rename_i hc
        cases h
        obtain ⟨s1, s2⟩ := sep2_1 hc
        exact ⟨jg_2 (star_cons c3) (star_cons c4) (star_any (by simp [c4])) g1 g2 (hE _ _ _ _ hA X W G g) (hE _ _ _ _ hB X W G g) s1 s2, fun tg => ji_r2 (star_cons c3) (star_cons c4) g1 g2 (hE _ _ _ _ hA X W G g) (hE _ _ _ _ hB X W G g) s1 s2⟩
      · cases h
    · cases h
  · cases h
def trEn (r : Expr → Option (E × St)) (S : Sx) (tg e : Expr) : Option (VF.It × List Nat) := match e, tg with
  | .Call (.Name x _) [a] [] _, .Tuple _ _ _ => if x = "enumerate" && isBl S x && nst a then (r a).bind fun A => if A.2.oc.isEmpty && A.2.oi.isEmpty then some (.enum A.1, A.2.mu) else none else none
  | _, _ => none
theorem en_snd (hE : SndE Y C cs k rE) (G : Good Y C cs k S X W) {tg e : Expr} {I : VF.It} {mu : List Nat} (h : trEn (rE S) S tg e = some (I, mu)) : JI Y ⟨S.m, g⟩ (scO C S X) W X tg e (evIt C cs I) mu := by
  unfold trEn at h
  split at h
  · split at h
    · rename_i hc
      simp only [Bool.and_eq_true, decide_eq_true_eq] at hc
      obtain ⟨⟨c1, c2⟩, c3⟩ := hc
      subst c1
      obtain ⟨g1, g2⟩ := G.bl c2
      rw [Option.bind_eq_some_iff] at h
      obtain ⟨⟨A, z⟩, hA, h⟩ := h
      split at h
      · rename_i hc
        simp only [Bool.and_eq_true, List.isEmpty_iff] at hc
        cases h
        exact ji_enum G.ok.K g1 g2 (star_cons c3) (hE _ _ _ _ hA X W G g) hc.1 hc.2
      · cases h
    · cases h
  · cases h
def trI (r : Expr → Option (E × St)) (S : Sx) (tg e : Expr) : Option (VF.It × List Nat) := match trRng r S e with
  | some I => some I
  | none => (match trEn r S tg e with
    | some I => some I
    | none => (r e).bind fun A => if A.2.oc.isEmpty && A.2.oi.isEmpty then some (.seq A.1, A.2.mu) else none)
theorem i_snd (hE : SndE Y C cs k rE) (G : Good Y C cs k S X W) {e : Expr} {I : VF.It} {mu : List Nat} (tg : Expr) (h : trI (rE S) S tg e = some (I, mu)) : JI Y ⟨S.m, g⟩ (scO C S X) W X tg e (evIt C cs I) mu := by
  unfold trI at h
  split at h
  · rename_i I' hI
    cases h
    exact (rng_snd hE G hI).2 tg
  · split at h
    · rename_i I' hI
      cases h
      exact en_snd hE G hI
    · rw [Option.bind_eq_some_iff] at h
      obtain ⟨⟨A, z⟩, hA, h⟩ := h
      split at h
      · rename_i hc
        simp only [Bool.and_eq_true, List.isEmpty_iff] at hc
        cases h
        exact ji_seq G.ok.K (hE _ _ _ _ hA X W G g) hc.1 hc.2
      · cases h

/-! ### and, or -/
def trBo (r : Expr → Option (E × St)) (o : Bool) : List Expr → Option (E × St)
  | [] => none
  | [a] => r a
  | a :: b :: es => (r a).bind fun A => (trBo r o (b :: es)).bind fun B => some (.bop o A.1 B.1, A.2.or B.2)
theorem bo_snd (hE : SndE Y C cs k rE) (G : Good Y C cs k S X W) {o : Bool} {p : Pos} : ∀ {es : List Expr} {A : E} {z : St}, trBo (rE S) o es = some (A, z) → JE Y ⟨S.m, g⟩ (scO C S X) W X (.BoolOp (if o then .And else .Or) es p) (ev C cs A) z
  | [], _, _, h => by cases h
  | [a], _, _, h => je_one (hE _ _ _ _ h X W G g)
  | a :: b :: es, A, z, h => by
    simp only [trBo, Option.bind_eq_some_iff] at h
    obtain ⟨⟨A', za⟩, hA, ⟨B', zb⟩, hB, h⟩ := h
    cases h
    exact je_bop G.ok.K (hE _ _ _ _ hA X W G g) (bo_snd hE G hB)
def trBoT (r : Expr → Option (E × List Nat)) (o : Bool) : List Expr → Option (E × List Nat)
  | [] => none
  | [a] => r a
  | a :: b :: es => (r a).bind fun A => (trBoT r o (b :: es)).bind fun B => some (.bop o A.1 B.1, A.2 ++ B.2)
theorem boT_snd (hT : SndT Y C cs k rT) (G : Good Y C cs k S X W) {o : Bool} {p : Pos} : ∀ {es : List Expr} {A : E} {z : List Nat}, trBoT (rT S) o es = some (A, z) → JW Y ⟨S.m, g⟩ (scO C S X) W X (.BoolOp (if o then .And else .Or) es p) (ev C cs A) z
  | [], _, _, h => by cases h
  | [a], _, _, h => jw_one (hT _ _ _ _ h X W G g)
  | a :: b :: es, A, z, h => by
    simp only [trBoT, Option.bind_eq_some_iff] at h
    obtain ⟨⟨A', za⟩, hA, ⟨B', zb⟩, hB, h⟩ := h
    cases h
    exact jw_bop (hT _ _ _ _ hA X W G g) (boT_snd hT G hB)

/-! ### calls -/
def refsOf (S : Sx) : List Expr → Option (List Nat)
  | [] => some []
  | .Name x _ :: es => (slotOf S x).bind fun i => (refsOf S es).bind fun is => if isVis S x && S.m i then some (i :: is) else none
  | _ => none
theorem refs_snd (G : Good Y C cs k S X W) : ∀ {es : List Expr} {is : List Nat}, refsOf S es = some is → Paired (fun i e => PE X e (tVar i) ∧ ∀ es', starEach (e :: es') X.env = (false, eval e X.env) :: starEach es' X.env) is es ∧ (∀ i ∈ is, S.m i = true) ∧ es.all nst = true
  | [], _, h => by cases h; exact ⟨.nil, by simp, rfl⟩
  | e :: es, is, h => by
    cases e <;> try (cases h; done)
    rename_i x p
    simp only [refsOf, Option.bind_eq_some_iff] at h
    obtain ⟨i, hi, is', h2, h⟩ := h
    split at h
    · rename_i hc
      simp only [Bool.and_eq_true] at hc
      cases h
      obtain ⟨q1, q2, q3⟩ := refs_snd G h2
      refine ⟨.cons ⟨G.var hc.1 hi, fun es' => rfl⟩ q1, fun j hj => ?_, by simp [nst, q3]⟩
      rcases List.mem_cons.mp hj with z | z
      · rw [z]; exact hc.2
      · exact q2 j z
    · cases h
def ksOf : List Keyword → Option (List Str)
  | [] => some []
  | ⟨some n, _, _⟩ :: r => (ksOf r).map (n :: ·)
  | ⟨none, _, _⟩ :: _ => none
theorem ksOf_eq {pos : Pos} {env : PySem.Env} : ∀ {kws : List Keyword} {ks : List Str}, ksOf kws = some ks → (backToKw pos (keywordEach kws env)).all (·.1.isSome) = true ∧ (backToKw pos (keywordEach kws env)).filterMap (·.1) = ks ∧ (backToKw pos (keywordEach kws env)).any (·.1.isNone) = false
  | [], ks, h => by cases h; exact ⟨rfl, rfl, rfl⟩
  | ⟨some n, e, p⟩ :: r, ks, h => by
    simp only [ksOf, Option.map_eq_some_iff] at h
    obtain ⟨ks', h1, rfl⟩ := h
    obtain ⟨a, b, c⟩ := ksOf_eq (pos := pos) (env := env) h1
    refine ⟨?_, ?_, ?_⟩
    · show (true && (backToKw pos (keywordEach r env)).all (·.1.isSome)) = true
      rw [a]; rfl
    · show n :: (backToKw pos (keywordEach r env)).filterMap (·.1) = n :: ks'
      rw [b]
    · show (false || (backToKw pos (keywordEach r env)).any (·.1.isNone)) = false
      rw [c]; rfl
  | ⟨none, _, _⟩ :: _, ks, h => by cases h
def trOwn (r : Expr → Option (E × St)) (S : Sx) (x : Str) (s : Sig) (args : List Expr) (kws : List Keyword) : Option (E × St) :=
  if isGl S x && S.hot then (match kws with
    | [] => (refsOf S (args.take s.nr)).bind fun rs => (trEs r S (args.drop s.nr)).bind fun B => if decide rs.Nodup && (rs.isEmpty || B.2.2.isEmpty) && !args.isEmpty then some (.call x rs B.1, ⟨rs ++ B.2.1, B.2.2, B.2.2, s.fr⟩) else none
    | kws => (ksOf kws).bind fun ks => (trKs r S kws).bind fun B => if args.isEmpty && decide ((x, ks) ∈ S.kl) then some (.callk x ks B.1, ⟨B.2.1, B.2.2, B.2.2, s.fr⟩) else none) else none
theorem own_snd (hE : SndE Y C cs k rE) (G : Good Y C cs k S X W) {x : Str} {s : Sig} {args : List Expr} {kws : List Keyword} {A : E} {z : St} {p pos : Pos} (hs : S.sig x = some s) (h : trOwn (rE S) S x s args kws = some (A, z)) :
    JE Y ⟨S.m, g⟩ (scO C S X) W X (.Call (.Name x p) args kws pos) (ev C cs A) z := by
  unfold trOwn at h
  split at h
  · rename_i hc
    simp only [Bool.and_eq_true] at hc
    have O : XOk Y k true X := by have := G.ok; rw [hc.2] at this; exact this
    have hgl := G.gl' hc.1
    split at h
    · simp only [Option.bind_eq_some_iff] at h
      obtain ⟨rs, hr, ⟨B, mu, oc⟩, hB, h⟩ := h
      split at h
      · rename_i hd
        simp only [Bool.and_eq_true, decide_eq_true_eq, Bool.or_eq_true, List.isEmpty_iff, Bool.not_eq_true', List.isEmpty_eq_false_iff] at hd
        cases h
        obtain ⟨⟨d1, d2⟩, d3⟩ := hd
        obtain ⟨q1, q2, q3⟩ := refs_snd G hr
        obtain ⟨j1, j2⟩ := es_snd (g := g) hE G hB
        have hall : args.all nst = true := by
          rw [← List.take_append_drop s.nr args, List.all_append, q3, j2]; rfl
        cases args with
        | nil => exact absurd rfl d3
        | cons e0 es0 =>
          simp only [List.all_cons, Bool.and_eq_true] at hall
          have := je_call (fr := s.fr) (p := p) (pos := pos) O G.fns G.tk hs id hgl q1 q2 d1 d2 j1 (List.take_append_drop s.nr (e0 :: es0)) (star_cons hall.1) (star_any hall.2)
          have e : evCall S.sig cs x rs (evs C cs B) = ev C cs (.call x rs B) := by
            funext env
            show _ = (VF.lift (getsV env rs) env).bind fun _ e0 => (evs C cs B e0).bind fun ds e => callS C.sig cs x rs ds e
            rw [G.sig]
            rfl
          rw [e] at this
          exact this
      · cases h
    · simp only [Option.bind_eq_some_iff] at h
      obtain ⟨ks, hk, ⟨B, mu, oc⟩, hB, h⟩ := h
      split at h
      · rename_i hd
        simp only [Bool.and_eq_true, decide_eq_true_eq, List.isEmpty_iff] at hd
        cases h
        obtain ⟨d1, d2⟩ := hd
        subst d1
        obtain ⟨a, b, c⟩ := ksOf_eq (pos := pos) (env := X.env) hk
        have := je_callk (fr := s.fr) (p := p) (pos := pos) O G.fns G.tk hs id (by rw [G.kl]; exact d2) hgl (ks_snd (g := g) hE G hB) a b (by rw [c]; rfl)
        have e : evCallk S.sig cs x ks (evs C cs B) = ev C cs (.callk x ks B) := by
          funext env
          show _ = (evs C cs B env).bind fun ds e => (match C.sig x with
            | some s => (match kperm s.ps ks ds with
              | some xs => callS C.sig cs x [] xs e
              | none => .bad)
            | none => .bad)
          rw [G.sig]
          rfl
        rw [e] at this
        exact this
      · cases h
  · cases h
def trConv (r : Expr → Option (E × St)) (S : Sx) (L : Bool) (a : Expr) : Option (E × St) := match trRng r S a with
  | some I => if S.hot then some (if L then .toL I.1 else .toT I.1, ⟨I.2, [], [], true⟩) else none
  | none => (r a).map fun A => (if L then .toL (.seq A.1) else .toT (.seq A.1), ⟨A.2.mu, A.2.oi, A.2.oi, true⟩)
def setArg (S : Sx) : Expr → Option Expr
  | .Call (.Name x _) [b] [] _ => if x = "set" && isBl S x && nst b then some b else none
  | _ => none
theorem setArg_eq {a b : Expr} (h : setArg S a = some b) : ∃ p q, a = .Call (.Name "set" p) [b] [] q ∧ isBl S "set" = true ∧ nst b = true := by
  unfold setArg at h
  split at h
  · split at h
    · rename_i hc
      simp only [Bool.and_eq_true, decide_eq_true_eq] at hc
      obtain ⟨⟨c1, c2⟩, c3⟩ := hc
      subst c1
      cases h
      exact ⟨_, _, rfl, c2, c3⟩
    · cases h
  · cases h
def setOp2 (S : Sx) (x : Str) (a : Expr) : Option (Bool × Expr × Expr) := match a with
  | .BinOp (.Call (.Name n _) [a] [] _) op (.Call (.Name n2 _) [b] [] _) _ => if decide (x = "sorted") && decide (n = "set") && decide (n2 = "set") && isBl S "set" && nst a && nst b then (match op with
    | .BitOr => some (false, a, b)
    | .BitXor => some (true, a, b)
    | _ => none) else none
  | _ => none
theorem setOp2_eq {x : Str} {a a1 b1 : Expr} {c : Bool} (h : setOp2 S x a = some (c, a1, b1)) : x = "sorted" ∧ (∃ p2 p3 p4 q q2, a = .BinOp (.Call (.Name "set" p2) [a1] [] q) (if c then .BitXor else .BitOr) (.Call (.Name "set" p3) [b1] [] q2) p4) ∧ isBl S "set" = true ∧ nst a1 = true ∧ nst b1 = true := by
  unfold setOp2 at h
  split at h
  · split at h
    · rename_i hc
      simp only [Bool.and_eq_true, decide_eq_true_eq] at hc
      obtain ⟨⟨⟨⟨⟨c1, c2⟩, c3⟩, c4⟩, c5⟩, c6⟩ := hc
      subst c1 c2 c3
      split at h
      · cases h
        exact ⟨rfl, ⟨_, _, _, _, _, rfl⟩, c4, c5, c6⟩
      · cases h
        exact ⟨rfl, ⟨_, _, _, _, _, rfl⟩, c4, c5, c6⟩
      · cases h
    · cases h
  · cases h
def isSc (S : Sx) (x : Str) (a : Expr) : Bool := match a with
  | .Name y _ => decide (x = "len") && S.scr && slotOf S y == some 0 && isVis S y
  | _ => false
theorem isSc_eq {x : Str} {a : Expr} (h : isSc S x a = true) : x = "len" ∧ ∃ y p, a = .Name y p ∧ S.scr = true ∧ slotOf S y = some 0 ∧ isVis S y = true := by
  unfold isSc at h
  split at h
  · simp only [Bool.and_eq_true, decide_eq_true_eq, beq_iff_eq] at h
    exact ⟨h.1.1.1, _, _, rfl, h.1.1.2, h.1.2, h.2⟩
  · cases h
def trB1 (r : Expr → Option (E × St)) (S : Sx) (x : Str) (a : Expr) : Option (E × St) :=
  if isBl S x && nst a then
    if isSc S x a then some (.slen, ⟨[], [], [], true⟩)
    else if x = "list" then trConv r S true a
    else if x = "tuple" then trConv r S false a
    else if x = "repr" then (if S.gd then (r a).map fun A => (.bi .repr A.1, ⟨A.2.mu, A.2.oi, A.2.oi, true⟩) else none)
    else match setOp2 S x a with
    | some q => if S.hot then (r q.2.1).bind fun A => (r q.2.2).map fun B => (.setop q.1 A.1 B.1, ⟨A.2.mu ++ B.2.mu, [], [], true⟩) else none
    | none => match setArg S a with
      | some b => if x = "len" && S.hot then (r b).map fun A => (.bi .lenset A.1, ⟨A.2.mu, [], [], false⟩) else if x = "sorted" && S.hot then (r b).map fun A => (.sortset A.1, ⟨A.2.mu, A.2.oi, A.2.oi, true⟩) else none
      | none => (b1Of x).bind fun b => if S.hot then (r a).map fun A => (.bi b.bi A.1, ⟨A.2.mu, A.2.oi, A.2.oi, true⟩) else none
  else none
theorem b1_snd (hE : SndE Y C cs k rE) (G : Good Y C cs k S X W) {x : Str} {a : Expr} {A : E} {z : St} {p pos : Pos} (h : trB1 (rE S) S x a = some (A, z)) : JE Y ⟨S.m, g⟩ (scO C S X) W X (.Call (.Name x p) [a] [] pos) (ev C cs A) z := by
  have hK := G.ok.K
  unfold trB1 at h
  split at h
  · rename_i hc
    simp only [Bool.and_eq_true] at hc
    obtain ⟨g1, g2⟩ := G.bl hc.1
    have hst := star_cons (es := []) (env := X.env) hc.2
    split at h
    · rename_i e
      cases h
      obtain ⟨rfl, y, py, rfl, e1, e2, e3⟩ := isSc_eq e
      exact je_slen (by unfold scO; rw [e1]; rfl) (G.var (p := py) e3 e2) hK hst g1 g2
    split at h
    · rename_i e
      subst e
      unfold trConv at h
      split at h
      · rename_i I hI
        split at h
        · rename_i hh
          cases h
          exact je_rgL (G.ok.calm hh) hst g1 g2 (rng_snd hE G hI).1
        · cases h
      · rw [Option.map_eq_some_iff] at h
        obtain ⟨⟨B, zb⟩, hB, e⟩ := h
        cases e
        exact je_toL hK hst g1 g2 (hE _ _ _ _ hB X W G g)
    · split at h
      · rename_i e
        subst e
        unfold trConv at h
        split at h
        · rename_i I hI
          split at h
          · rename_i hh
            cases h
            exact je_rgT (G.ok.calm hh) hst g1 g2 (rng_snd hE G hI).1
          · cases h
        · rw [Option.map_eq_some_iff] at h
          obtain ⟨⟨B, zb⟩, hB, e⟩ := h
          cases e
          exact je_toT hK hst g1 g2 (hE _ _ _ _ hB X W G g)
      · split at h
        · rename_i e
          subst e
          split at h
          · rename_i hh
            rw [Option.map_eq_some_iff] at h
            obtain ⟨⟨B, zb⟩, hB, e⟩ := h
            cases e
            exact je_biF bid_repr (call_reprD (G.gd hh) G.ok.un hK) hst g1 g2 (by decide +kernel) (by decide) (by decide) (hE _ _ _ _ hB X W G g)
          · cases h
        · split at h
          · rename_i q hq
            obtain ⟨c, a1, b1⟩ := q
            split at h
            · rename_i hh
              rw [Option.bind_eq_some_iff] at h
              obtain ⟨⟨A', za⟩, hA, h⟩ := h
              rw [Option.map_eq_some_iff] at h
              obtain ⟨⟨B', zb⟩, hB, e⟩ := h
              cases e
              obtain ⟨rfl, ⟨p2, p3, p4, q1, q2, rfl⟩, e1, e2, e3⟩ := setOp2_eq hq
              obtain ⟨f1, f2⟩ := G.bl e1
              have O : XOk Y k true X := by have := G.ok; rw [hh] at this; exact this
              exact je_setop O g1 g2 f1 f2 (star_cons e2) (star_cons e3) (hE _ _ _ _ hA X W G g) (hE _ _ _ _ hB X W G g)
            · cases h
          · split at h
            · rename_i b hb
              split at h
              · rename_i hd
                simp only [Bool.and_eq_true, decide_eq_true_eq] at hd
                obtain ⟨d1, d2⟩ := hd
                subst d1
                rw [Option.map_eq_some_iff] at h
                obtain ⟨⟨B, zb⟩, hB, e⟩ := h
                cases e
                obtain ⟨p2, q, rfl, e1, e2⟩ := setArg_eq hb
                obtain ⟨f1, f2⟩ := G.bl e1
                have O : XOk Y k true X := by have := G.ok; rw [d2] at this; exact this
                exact je_lenset O g1 g2 f1 f2 (star_cons e2) (hE _ _ _ _ hB X W G g)
              split at h
              · rename_i hd
                simp only [Bool.and_eq_true, decide_eq_true_eq] at hd
                obtain ⟨d1, d2⟩ := hd
                subst d1
                rw [Option.map_eq_some_iff] at h
                obtain ⟨⟨B, zb⟩, hB, e⟩ := h
                cases e
                obtain ⟨p2, q, rfl, e1, e2⟩ := setArg_eq hb
                obtain ⟨f1, f2⟩ := G.bl e1
                have O : XOk Y k true X := by have := G.ok; rw [d2] at this; exact this
                exact je_sortset O G.ok.un g1 g2 f1 f2 (star_cons e2) (hE _ _ _ _ hB X W G g)
              · cases h
            · rw [Option.bind_eq_some_iff] at h
              obtain ⟨b, hb, h⟩ := h
              split at h
              · rename_i hh
                rw [Option.map_eq_some_iff] at h
                obtain ⟨⟨B, zb⟩, hB, e⟩ := h
                cases e
                exact je_b1 hb G.ok.un (G.ok.calm hh) hK hst g1 g2 (hE _ _ _ _ hB X W G g)
              · cases h
  · cases h
def trIsI (r : Expr → Option (E × St)) (S : Sx) (x : Str) (a : Expr) (t : Str) : Option (E × St) :=
  (tyNm t).bind fun ts => if x = "isinstance" && isBl S x && isBl S (Str.ofString ts) && nst a then (r a).map fun A => (.bi (.is1 ts) A.1, ⟨A.2.mu, [], [], false⟩) else none
theorem isI_snd (hE : SndE Y C cs k rE) (G : Good Y C cs k S X W) {x t : Str} {a : Expr} {A : E} {z : St} {p p2 pos : Pos} (h : trIsI (rE S) S x a t = some (A, z)) : JE Y ⟨S.m, g⟩ (scO C S X) W X (.Call (.Name x p) [a, .Name t p2] [] pos) (ev C cs A) z := by
  unfold trIsI at h
  rw [Option.bind_eq_some_iff] at h
  obtain ⟨ts, ht, h⟩ := h
  split at h
  · rename_i hc
    simp only [Bool.and_eq_true, decide_eq_true_eq] at hc
    obtain ⟨⟨⟨c1, c2⟩, c3⟩, c4⟩ := hc
    subst c1
    obtain ⟨e1, e2⟩ := tyNm_eq ht
    subst e1
    obtain ⟨h1, h2, h3, h4⟩ := ty_boot ts e2
    obtain ⟨g1, g2⟩ := G.bl c2
    obtain ⟨f1, f2⟩ := G.bl c3
    rw [Option.map_eq_some_iff] at h
    obtain ⟨⟨B, zb⟩, hB, e⟩ := h
    cases e
    exact je_isT G.ok.K h4 (star_cons c4) (star_any (by rfl)) g1 g2 f1 f2 h1 h2 h3 (star_cons rfl) (hE _ _ _ _ hB X W G g)
  · cases h
theorem mem_lkG {α β : Type} [BEq α] [LawfulBEq α] : ∀ {l : List (α × β)} {a : α} {b : β}, l.lookup a = some b → (a, b) ∈ l
  | (k, v) :: r, a, b, h => by
    rw [List.lookup_cons] at h
    by_cases q : (a == k) = true
    · rw [q] at h
      cases h
      rw [eq_of_beq q]
      exact List.mem_cons_self
    · rw [Bool.not_eq_true] at q
      rw [q] at h
      exact List.mem_cons_of_mem _ (mem_lkG h)
/-- isinstance of the error that the suite holds -/
def trIsE (S : Sx) (x : Str) (a : Expr) (t : Str) : Option (E × St) := match a, S.exn with
  | .Name n _, some q => if x = "isinstance" && isBl S x && isGl S t && decide (slotOf S n = some q.1) && isVis S n then (S.isx.lookup (q.2, t)).map fun b => (.bl b, ⟨[], [], [], false⟩) else none
  | _, _ => none
theorem isE_snd (G : Good Y C cs k S X W) {x t : Str} {a : Expr} {A : E} {z : St} {p p2 pos : Pos} (h : trIsE S x a t = some (A, z)) : JE Y ⟨S.m, g⟩ (scO C S X) W X (.Call (.Name x p) [a, .Name t p2] [] pos) (ev C cs A) z := by
  unfold trIsE at h
  split at h
  · rename_i n pn q hq
    split at h
    · rename_i hc
      simp only [Bool.and_eq_true, decide_eq_true_eq] at hc
      obtain ⟨⟨⟨⟨c1, c2⟩, c3⟩, c4⟩, c5⟩ := hc
      subst c1
      rw [Option.map_eq_some_iff] at h
      obtain ⟨b, hb, e⟩ := h
      cases e
      obtain ⟨g1, g2⟩ := G.bl c2
      unfold isVis at c5
      simp only [Bool.and_eq_true, Bool.not_eq_true', decide_eq_true_eq] at c5
      have hv : Vis X.env.scope n := by rw [G.sc]; exact c5.1.1
      exact je_isE (i := q.1) (c := q.2) G.ok.K G.ok.mg (G.exn q hq) (G.isx ((q.2, t), b) (mem_lkG hb)) (by unfold scO; rw [hq]; rfl) (by rw [G.N]; exact slotOf_eq c4) hv c5.1.2 c5.2 g1 g2 (G.gl' c3)
    · cases h
  · cases h
def trIsI2 (r : Expr → Option (E × St)) (S : Sx) (x : Str) (a : Expr) (t t2 : Str) : Option (E × St) :=
  (tyNm t).bind fun ts => (tyNm t2).bind fun ts2 => if x = "isinstance" && isBl S x && isBl S (Str.ofString ts) && isBl S (Str.ofString ts2) && nst a then (r a).map fun A => (.bi (.isT [ts, ts2] false) A.1, ⟨A.2.mu, [], [], false⟩) else none
theorem isI2_snd (hE : SndE Y C cs k rE) (G : Good Y C cs k S X W) {x t t2 : Str} {a : Expr} {A : E} {z : St} {p p2 p3 pt pos : Pos} {kt : Nat} (h : trIsI2 (rE S) S x a t t2 = some (A, z)) : JE Y ⟨S.m, g⟩ (scO C S X) W X (.Call (.Name x p) [a, .Tuple [.Name t p2, .Name t2 p3] kt pt] [] pos) (ev C cs A) z := by
  unfold trIsI2 at h
  simp only [Option.bind_eq_some_iff] at h
  obtain ⟨ts, ht, ts2, ht2, h⟩ := h
  split at h
  · rename_i hc
    simp only [Bool.and_eq_true, decide_eq_true_eq] at hc
    obtain ⟨⟨⟨⟨c1, c2⟩, c3⟩, c5⟩, c4⟩ := hc
    subst c1
    obtain ⟨e1, e2⟩ := tyNm_eq ht
    subst e1
    obtain ⟨d1, d2⟩ := tyNm_eq ht2
    subst d1
    obtain ⟨h1, h2, h3, h4⟩ := ty_boot ts e2
    obtain ⟨i1, i2, i3, i4⟩ := ty_boot ts2 d2
    obtain ⟨g1, g2⟩ := G.bl c2
    obtain ⟨f1, f2⟩ := G.bl c3
    obtain ⟨k1, k2⟩ := G.bl c5
    rw [Option.map_eq_some_iff] at h
    obtain ⟨⟨B, zb⟩, hB, e⟩ := h
    cases e
    exact je_isT2 G.ok.K h4 i4 (star_cons c4) (star_any (by rfl)) g1 g2 f1 f2 h1 h2 h3 k1 k2 i1 i2 i3 (hE _ _ _ _ hB X W G g)
  · cases h
def trB2 (r : Expr → Option (E × St)) (S : Sx) (x : Str) (a b : Expr) : Option (E × St) :=
  if isBl S x && nst a && nst b && S.hot then (r a).bind fun A => (r b).bind fun B =>
    if sep2 S B.2.mu A.2 then
      if x = "max" then some (.bi2 .max2 A.1 B.1, ⟨A.2.mu ++ (B.2.mu ++ []), [], [], false⟩)
      else if x = "min" then some (.bi2 .min2 A.1 B.1, ⟨A.2.mu ++ (B.2.mu ++ []), [], [], false⟩) else none
    else none
  else none
theorem b2_snd (hE : SndE Y C cs k rE) (G : Good Y C cs k S X W) {x : Str} {a b : Expr} {A : E} {z : St} {p pos : Pos} (h : trB2 (rE S) S x a b = some (A, z)) : JE Y ⟨S.m, g⟩ (scO C S X) W X (.Call (.Name x p) [a, b] [] pos) (ev C cs A) z := by
  unfold trB2 at h
  split at h
  · rename_i hc
    simp only [Bool.and_eq_true] at hc
    obtain ⟨⟨⟨c1, c2⟩, c3⟩, c4⟩ := hc
    obtain ⟨g1, g2⟩ := G.bl c1
    simp only [Option.bind_eq_some_iff] at h
    obtain ⟨⟨A', za⟩, hA, ⟨B', zb⟩, hB, h⟩ := h
    split at h
    · rename_i hd
      obtain ⟨s1, s2⟩ := sep2_1 hd
      split at h
      · rename_i e
        subst e
        cases h
        exact je_mm2 (op := fun i j => if j > i then j else i) (fun _ _ _ => bi2_max) (call_max2 (G.ok.calm c4)) (star_cons c2) (star_cons c3) (star_any (by simp [c3])) g1 g2 (by decide +kernel) (by decide) (by decide) (hE _ _ _ _ hA X W G g) (hE _ _ _ _ hB X W G g) s1 s2
      · split at h
        · rename_i e
          subst e
          cases h
          exact je_mm2 (op := fun i j => if j < i then j else i) (fun _ _ _ => bi2_min) (call_min2 (G.ok.calm c4)) (star_cons c2) (star_cons c3) (star_any (by simp [c3])) g1 g2 (by decide +kernel) (by decide) (by decide) (hE _ _ _ _ hA X W G g) (hE _ _ _ _ hB X W G g) s1 s2
        · cases h
    · cases h
  · cases h
theorem base_name {x : Str} {p : Pos} {m : Str} {env : PySem.Env} : attributeBase (.Name x p) m env (eval (.Name x p) env) = eval (.Name x p) env := rfl
def trMeth (r : Expr → Option (E × St)) (S : Sx) (x : Str) (m : Str) (p2 : Pos) (a : Expr) (pos : Pos) : Option (E × St) :=
  if nst a && (p2.endLine == pos.line) then
    if m = "pop" then (slotOf S x).bind fun i => (r a).bind fun A => if isVis S x && S.m i then some (.pop i A.1, ⟨i :: A.2.mu, [], [], false⟩) else none
    else if m = "index" then (r (.Name x pos)).bind fun A => (r a).bind fun B => if sep2 S B.2.mu A.2 then some (.index A.1 B.1, ⟨A.2.mu ++ B.2.mu, [], [], false⟩) else none
    else none
  else none
theorem meth_snd (hE : SndE Y C cs k rE) (hN : ∀ x p p', rE S (.Name x p) = rE S (.Name x p')) (G : Good Y C cs k S X W) {x m : Str} {a : Expr} {A : E} {z : St} {p p2 pos : Pos} (h : trMeth (rE S) S x m p2 a pos = some (A, z)) :
    JE Y ⟨S.m, g⟩ (scO C S X) W X (.Call (.Attribute (.Name x p) m p2) [a] [] pos) (ev C cs A) z := by
  unfold trMeth at h
  split at h
  · rename_i hc
    simp only [Bool.and_eq_true] at hc
    split at h
    · rename_i e
      subst e
      simp only [Option.bind_eq_some_iff] at h
      obtain ⟨i, hi, ⟨B, zb⟩, hB, h⟩ := h
      split at h
      · rename_i hd
        simp only [Bool.and_eq_true] at hd
        cases h
        exact je_pop (G.var hd.1 hi) hd.2 base_name (few1 hc.1) hc.2 (star_cons hc.1) (hE _ _ _ _ hB X W G g)
      · cases h
    · split at h
      · rename_i e
        subst e
        simp only [Option.bind_eq_some_iff] at h
        obtain ⟨⟨A', za⟩, hA, ⟨B, zb⟩, hB, h⟩ := h
        split at h
        · rename_i hd
          cases h
          obtain ⟨s1, s2⟩ := sep2_1 hd
          exact je_index G.ok.K base_name (few1 hc.1) hc.2 (star_cons hc.1) (hE _ _ _ _ (by rw [hN x p pos]; exact hA) X W G g) (hE _ _ _ _ hB X W G g) s1 s2
        · cases h
      · cases h
  · cases h
end
end VF
set_option Elab.async false
set_option maxRecDepth 100000
set_option maxHeartbeats 4000000
namespace VF
open PySem PySem.Spec PyProof.Rows L2
/-- a call by key=: its reading comes by itself -/
abbrev RM := RE → Sx → Str → List Expr → List Keyword → Option (E × St)
def SndM (Y : Sys) (C : Cfg) (cs : Calls) (k : Nat) (r : RM) : Prop := ∀ rE, SndE Y C cs k rE → ∀ S x args kws A z, r rE S x args kws = some (A, z) → ∀ X W, Good Y C cs k S X W → ∀ g p pos, JE Y ⟨S.m, g⟩ (scO C S X) W X (.Call (.Name x p) args kws pos) (ev C cs A) z
section
variable {Y : Sys} {C : Cfg} {cs : Calls} {k : Nat} {S : Sx} {X : Cx} {W : WX} {rE : RE} {rT : RT} {rM : RM} {g : Addr → Prop}
def trCall (r : Expr → Option (E × St)) (rm : Str → List Expr → List Keyword → Option (E × St)) (S : Sx) (f : Expr) (args : List Expr) (kws : List Keyword) (pos : Pos) : Option (E × St) := match f with
  | .Name x _ => (match S.sig x with
    | some s => trOwn r S x s args kws
    | none => (match kws with
      | [] => (match args with
        | [a] => trB1 r S x a
        | [a, .Name t q] => (match trIsE S x a t with
          | some z => some z
          | none => (match trIsI r S x a t with
            | some z => some z
            | none => trB2 r S x a (.Name t q)))
        | [a, .Tuple [.Name t _, .Name t2 _] _ _] => trIsI2 r S x a t t2
        | [a, b] => trB2 r S x a b
        | _ => none)
      | kws => rm x args kws))
  | .Attribute (.Name x _) m p2 => (match args, kws with
    | [a], [] => trMeth r S x m p2 a pos
    | _, _ => none)
  | _ => none
theorem call_snd (hE : SndE Y C cs k rE) (hM : SndM Y C cs k rM) (hN : ∀ x p p', rE S (.Name x p) = rE S (.Name x p')) (G : Good Y C cs k S X W) {f : Expr} {args : List Expr} {kws : List Keyword} {A : E} {z : St} {pos : Pos} (h : trCall (rE S) (rM rE S) S f args kws pos = some (A, z)) :
    JE Y ⟨S.m, g⟩ (scO C S X) W X (.Call f args kws pos) (ev C cs A) z := by
  unfold trCall at h
  split at h
  · split at h
    · rename_i s hs
      exact own_snd hE G hs h
    · split at h
      · split at h
        · exact b1_snd hE G h
        · split at h
          · rename_i z hz
            cases h
            exact isE_snd G hz
          · split at h
            · rename_i z hz
              cases h
              exact isI_snd hE G hz
            · exact b2_snd hE G h
        · exact isI2_snd hE G h
        · exact b2_snd hE G h
        · cases h
      · exact hM _ hE _ _ _ _ _ _ h X W G g _ _
  · split at h
    · exact meth_snd hE hN G h
    · cases h
  · cases h

/-! ### targets, comprehensions -/
def ownOkS (S : Sx) (is : List Nat) : Bool := is.all fun i => !S.m i && freeS S i
theorem ownOkS_eq {is : List Nat} (h : ownOkS S is = true) : ownOk S.m (scO C S X) is = true := by
  unfold ownOkS at h
  unfold ownOk
  rw [← h]
  congr 1
  funext i
  rw [freeS_eq]
def tgNames (S : Sx) : List Expr → Option (List Nat)
  | [] => some []
  | .Name x _ :: es => (slotOf S x).bind fun i => (tgNames S es).bind fun is => if isLoc S x then some (i :: is) else none
  | _ => none
def trTg (S : Sx) : Expr → Option (Tg × List Nat)
  | .Name x _ => (slotOf S x).bind fun i => if isLoc S x then some (.n i, [i]) else none
  | .Tuple es _ _ => (tgNames S es).bind fun is => if S.hot then some (.t is, is) else none
  | _ => none
def gOf (K : PySem.W.Frag) : Tg → TG
  | .n i => gName i
  | .t is => gSeq K is.length (gNames is)
/-- what a context must give for targets -/
structure GoodT (K : PySem.W.Frag) (S : Sx) (X : Cx) : Prop where
  N : X.N = S.N
  nd : X.N.Nodup
  sc : X.env.scope = S.sc
  fn : ∀ x, X.fn x = S.fn x
  kk : X.K = K
  calm : S.hot = true → X.calm = true
theorem GoodT.loc {K : PySem.W.Frag} (G : GoodT K S X) {x : Str} (h : isLoc S x = true) : Loc X.env.scope x ∧ (X.fn x = true ∨ X.env.scope.names.lookup x = some .local) := by
  unfold isLoc at h
  simp only [Bool.or_eq_true, Bool.and_eq_true, decide_eq_true_eq] at h
  rw [← G.sc, ← G.fn] at h
  rcases h with h | h
  · exact ⟨.inl h, .inr h⟩
  · exact ⟨.inr h.1, .inl h.2⟩
theorem tgNames_pg {K : PySem.W.Frag} (G : GoodT K S X) : ∀ {es : List Expr} {is : List Nat}, tgNames S es = some is → PGs X es (gNames is) ∧ (assignEach es X.env).length = is.length ∧ (assignEach es X.env).findIdx? (·.1) = none
  | [], is, h => by cases h; exact ⟨pgs_nil, rfl, rfl⟩
  | e :: es, is, h => by
    cases e <;> try (cases h; done)
    rename_i x p
    simp only [tgNames, Option.bind_eq_some_iff] at h
    obtain ⟨i, hi, is', h2, h⟩ := h
    split at h
    · rename_i hc
      cases h
      obtain ⟨q1, q2, q3⟩ := tgNames_pg G h2
      obtain ⟨l1, l2⟩ := G.loc hc
      refine ⟨pgs_cons (pg_name G.nd (by rw [G.N]; exact slotOf_eq hi) l1 l2) q1 rfl, ?_, ?_⟩
      · show (assignEach es X.env).length + 1 = is'.length + 1
        rw [q2]
      · show ((false, assign (.Name x p) X.env) :: assignEach es X.env).findIdx? (·.1) = none
        rw [List.findIdx?_cons, q3]
        rfl
    · cases h
theorem tg_snd {K : PySem.W.Frag} (G : GoodT K S X) {e : Expr} {t : Tg} {is : List Nat} (h : trTg S e = some (t, is)) : PG X e (gOf K t) := by
  unfold trTg at h
  split at h
  · rw [Option.bind_eq_some_iff] at h
    obtain ⟨i, hi, h⟩ := h
    split at h
    · rename_i hc
      cases h
      obtain ⟨l1, l2⟩ := G.loc hc
      exact pg_name G.nd (by rw [G.N]; exact slotOf_eq hi) l1 l2
    · cases h
  · rw [Option.bind_eq_some_iff] at h
    obtain ⟨is', hi, h⟩ := h
    split at h
    · rename_i hc
      cases h
      obtain ⟨q1, q2, q3⟩ := tgNames_pg G hi
      rw [← G.kk]
      exact pg_seq (G.calm hc) q1 q2 q3
    · cases h
  · cases h
theorem tg_d {sc : SC} {e : Expr} {t : Tg} {is : List Nat} (h : trTg S e = some (t, is)) (ho : ownOk S.m sc is = true) : TgD Y S.m sc t is (gOf Y.K t) := by
  unfold trTg at h
  split at h
  · rw [Option.bind_eq_some_iff] at h
    obtain ⟨i, hi, h⟩ := h
    split at h
    · cases h; exact tg_n ho
    · cases h
  · rw [Option.bind_eq_some_iff] at h
    obtain ⟨is', hi, h⟩ := h
    split at h
    · cases h; exact tg_t ho
    · cases h
  · cases h
theorem Good.tgt (G : Good Y C cs k S X W) : GoodT Y.K S X := ⟨G.N, G.ok.nd, G.sc, G.fn, G.ok.K, G.ok.calm⟩
def ownOf (N : List Str) (scope : Scope) : List (Str × Nat) := scope.names.filterMap fun y => if y.2 = .local ∨ y.2 = .cell then (N.idxOf? y.1).map fun i => (y.1, i) else none
def blkS (S : Sx) (scope : Scope) : Sx := { S with sc := relS scope S.sc, fn := fun x => scope.names.lookup x == some .cell, lam := false, exn := none }
theorem scO_blk {C : Cfg} {S : Sx} {X X' : Cx} {scope : Scope} (h : S.exn = none) : scO C (blkS S scope) X' = scO C S X := by
  unfold scO blkS
  rw [h]
  rfl
theorem good_blk (G : Good Y C cs k S X W) (scope : Scope) (s : Shared) (H : Hp) (Ca : Addr) (cl : List (Str × Addr)) (fp : List Addr) : Good Y C cs k (blkS S scope) (X.blk s H scope (compEnvC scope cl Ca X.env) fp) WN where
  N := G.N
  sc := by show relS scope X.env.scope = relS scope S.sc; rw [G.sc]
  fn := fun _ => rfl
  ok := ⟨G.ok.P, G.ok.w, G.ok.K, G.ok.mg, G.ok.base, G.ok.nd, G.ok.un, G.ok.room, G.ok.calm⟩
  tk := takes_none5
  free := G.free
  sig := G.sig
  fns := G.fns
  glob := G.glob
  gl := G.gl
  kl := G.kl
  ecl := G.ecl
  hcl := G.hcl
  lam := fun z => by cases z
  gd := G.gd
  exn := fun q z => by cases z
  isx := G.isx
def trIfs (rt : Expr → Option (E × List Nat)) : List Expr → Option (Eo × List Nat)
  | [] => some (.no, [])
  | [c] => (rt c).map fun A => (.y A.1, A.2)
  | _ => none
def trComp (rE : RE) (rT : RT) (S : Sx) (elt tg iter : Expr) (ifs : List Expr) (scope : Scope) : Option (E × St) :=
  (trI (rE S) S tg iter).bind fun I => (trTg (blkS S scope) tg).bind fun t => (trIfs (rT (blkS S scope)) ifs).bind fun c => (rE (blkS S scope) elt).bind fun A =>
    if S.exn.isNone && S.hot && blkC S.N S.sc scope (ownOf S.N scope) && ownOkS S ((ownOf S.N scope).map (·.2)) && t.2.all (fun i => ((ownOf S.N scope).map (·.2)).contains i) && noSet iter && (c.2 ++ A.2.mu).all S.m && sep S.m (c.2 ++ A.2.mu) (A.2.oc ++ A.2.oi)
    then some (.comp t.1 ((ownOf S.N scope).map (·.2)) I.1 c.1 A.1, ⟨I.2 ++ (c.2 ++ A.2.mu), A.2.oc ++ A.2.oi, A.2.oc ++ A.2.oi, true⟩) else none
theorem ifs_snd (hT : SndT Y C cs k rT) (G : Good Y C cs k S X W) {ifs : List Expr} {c : Eo} {mu : List Nat} (h : trIfs (rT S) ifs = some (c, mu)) : JTs Y S.m (scO C S X) W X ifs (evC C cs c) mu := by
  unfold trIfs at h
  split at h
  · cases h; exact jts_nil
  · rw [Option.map_eq_some_iff] at h
    obtain ⟨⟨A, m⟩, hA, e⟩ := h
    cases e
    exact jts_one fun gg => hT _ _ _ _ hA X W G gg
  · cases h
theorem ownOk_mono {sc : SC} {m : Nat → Bool} {is js : List Nat} (h : ownOk m sc js = true) (s : ∀ i, i ∈ is → i ∈ js) : ownOk m sc is = true := List.all_eq_true.mpr fun i hi => List.all_eq_true.mp h i (s i hi)
theorem comp_parts (hE : SndE Y C cs k rE) (hT : SndT Y C cs k rT) (G : Good Y C cs k S X W) {elt tg iter : Expr} {ifs : List Expr} {scope : Scope} {A : E} {z : St} (h : trComp rE rT S elt tg iter ifs scope = some (A, z)) :
    ∃ (fit : Env → Out (List PyData)) (fc : Env → Out Bool) (fe : Env → Out PyData) (wi : TI) (gt : TG) (mi mc is : List Nat) (ze : St) (tgt : Tg), XOk Y k true X ∧ BlkOk X.N X.env.scope scope (ownOf S.N scope) ∧ PI X tg iter wi ∧
      (∀ (s : Shared) (H : Hp) (Ca : Addr) (cl : List (Str × Addr)) (fp : List Addr), PG (X.blk s H scope (compEnvC scope cl Ca X.env) fp) tg gt) ∧
      (∀ (s : Shared) (H : Hp) (Ca : Addr) (cl : List (Str × Addr)) (fp : List Addr), PTs (X.blk s H scope (compEnvC scope cl Ca X.env) fp) ifs (TJs Y S.m (scO C S X) WN fc mc)) ∧
      (∀ (s : Shared) (H : Hp) (Ca : Addr) (cl : List (Str × Addr)) (fp : List Addr), PE (X.blk s H scope (compEnvC scope cl Ca X.env) fp) elt (TJ Y S.m (scO C S X) WN fe ze)) ∧
      (∀ x, foldedSetIterable iter X.env x = pure x) ∧ JEt Y ⟨S.m, g⟩ (scO C S X) W (tLc wi gt (TJs Y S.m (scO C S X) WN fc mc) (TJ Y S.m (scO C S X) WN fe ze) ((ownOf S.N scope).map (·.2))) (ev C cs A) z ∧ ∀ i ∈ z.mu, S.m i = true := by
  simp only [trComp, Option.bind_eq_some_iff] at h
  obtain ⟨⟨I, mi⟩, hI, ⟨t, is⟩, ht, ⟨c, mc⟩, hc, ⟨A', ze⟩, hA, h⟩ := h
  split at h
  · rename_i hh
    simp only [Bool.and_eq_true] at hh
    obtain ⟨⟨⟨⟨⟨⟨⟨h0, h1⟩, h2⟩, h3⟩, h4⟩, h5⟩, h6⟩, h7⟩ := hh
    have h0 : S.exn = none := Option.isNone_iff_eq_none.mp h0
    cases h
    have O : XOk Y k true X := by have := G.ok; rw [h1] at this; exact this
    obtain ⟨im, wi, pi, ji⟩ := i_snd (g := g) hE G tg hI
    have his : ∀ j, j ∈ is → j ∈ (ownOf S.N scope).map (·.2) := fun j hj => by
      have := List.all_eq_true.mp h4 j hj
      simpa using this
    have oo := ownOkS_eq (C := C) (X := X) h3
    have hm : ∀ i ∈ mc ++ ze.mu, S.m i = true := fun i hi => List.all_eq_true.mp h6 i hi
    refine ⟨evIt C cs I, evC C cs c, ev C cs A', wi, gOf Y.K t, mi, mc, is, ze, t, O, ?_, pi, fun s H Ca cl fp => tg_snd (good_blk G scope s H Ca cl fp).tgt ht, fun s H Ca cl fp => (by rw [← scO_blk (scope := scope) (X' := X.blk s H scope (compEnvC scope cl Ca X.env) fp) h0]; exact ifs_snd hT (good_blk G scope s H Ca cl fp) hc), fun s H Ca cl fp => (by rw [← scO_blk (scope := scope) (X' := X.blk s H scope (compEnvC scope cl Ca X.env) fp) h0]; exact TJ.pe fun gg => hE _ _ _ _ hA _ _ (good_blk G scope s H Ca cl fp) gg), no_fold h5, ?_, ?_⟩
    · rw [G.N, G.sc]
      exact blkOk_by h2
    · exact jet_comp im ji oo (tg_d (S := blkS S scope) ht (ownOk_mono oo his)) his hm h7
    · exact app_M (M := ⟨S.m, g⟩) im hm
  · cases h
theorem comp_snd (hE : SndE Y C cs k rE) (hT : SndT Y C cs k rT) (G : Good Y C cs k S X W) {elt tg iter : Expr} {ifs : List Expr} {scope : Scope} {pos : Pos} {A : E} {z : St} (h : trComp rE rT S elt tg iter ifs scope = some (A, z)) :
    JE Y ⟨S.m, g⟩ (scO C S X) W X (.ListComp elt [⟨tg, iter, ifs, 0⟩] scope pos) (ev C cs A) z := by
  obtain ⟨fit, fc, fe, wi, gt, mi, mc, is, ze, tgt, O, ok, pi, hg, ht, he, hs, j, zm⟩ := comp_parts (g := g) hE hT G h
  exact ⟨zm, _, pe_lc (O.calm rfl) O.nd pi ok hg ht he hs, j⟩

/-! ### one step -/
def stepE (rE : RE) (rT : RT) (rM : RM) : RE := fun S e => match e with
  | .Name x _ => trName S x
  | .Constant c _ _ => trConst c
  | .BinOp a op b _ => (bopOf op).bind fun o => (rE S a).bind fun A => (rE S b).bind fun B => if sep2 S B.2.mu A.2 then some (.bin o A.1 B.1, ⟨A.2.mu ++ B.2.mu, A.2.oi ++ B.2.oi, A.2.oi ++ B.2.oi, true⟩) else none
  | .UnaryOp .USub a _ => (rE S a).map fun A => (.neg A.1, ⟨A.2.mu, [], [], false⟩)
  | .UnaryOp .Not a _ => (rE S a).map fun A => (.not A.1, ⟨A.2.mu, [], [], false⟩)
  | .BoolOp op es _ => trBo (rE S) (boOf op) es
  | .IfExp c a b _ => (rT S c).bind fun D => (rE S a).bind fun A => (rE S b).bind fun B => some (.ite D.1 A.1 B.1, ⟨D.2 ++ (A.2.mu ++ B.2.mu), A.2.oc ++ B.2.oc, A.2.oi ++ B.2.oi, A.2.fr && B.2.fr⟩)
  | .Compare l ops es _ => (trCmp (rE S) S l ops es).map fun A => (A.1, ⟨A.2, [], [], false⟩)
  | .Subscript a i _ => trSub (rE S) S a i
  | .List es _ => (trEs (rE S) S es).map fun B => (.lst B.1, ⟨B.2.1, B.2.2, B.2.2, true⟩)
  | .Tuple es _ _ => (trEs (rE S) S es).map fun B => (.tup B.1, ⟨B.2.1, B.2.2, B.2.2, true⟩)
  | .Call f args kws pos => trCall (rE S) (rM rE S) S f args kws pos
  | .ListComp elt [⟨tg, iter, ifs, 0⟩] scope _ => trComp rE rT S elt tg iter ifs scope
  | .JoinedStr (v1 :: v2 :: rest) _ => (trF (rE S) (v1 :: v2 :: rest)).map fun B => (.fstr B.1, ⟨B.2, [], [], false⟩)
  | _ => none
def stepT (rE : RE) (rT : RT) : RT := fun S e => match e with
  | .UnaryOp .Not a _ => (rT S a).map fun A => (.not A.1, A.2)
  | .BoolOp op es _ => trBoT (rT S) (boOf op) es
  | .Compare l ops es _ => trCmp (rE S) S l ops es
  | e => if plainT e then (rE S e).map fun A => (A.1, A.2.mu) else none
theorem stepE_snd (hE : SndE Y C cs k rE) (hT : SndT Y C cs k rT) (hM : SndM Y C cs k rM) (hN : ∀ S x p p', rE S (.Name x p) = rE S (.Name x p')) : SndE Y C cs k (stepE rE rT rM) := by
  intro S e A z h X W G g
  unfold stepE at h
  split at h
  · exact name_snd h G
  · exact const_snd h
  · simp only [Option.bind_eq_some_iff] at h
    obtain ⟨o, ho, ⟨A', za⟩, hA, ⟨B', zb⟩, hB, h⟩ := h
    split at h
    · rename_i hc
      cases h
      have eo := bopOf_eq ho
      subst eo
      obtain ⟨s1, s2⟩ := sep2_1 hc
      exact je_bin o (hE _ _ _ _ hA X W G g) (hE _ _ _ _ hB X W G g) s1 s2 G.ok.K
    · cases h
  · rw [Option.map_eq_some_iff] at h
    obtain ⟨⟨A', za⟩, hA, e⟩ := h
    cases e
    exact je_neg (hE _ _ _ _ hA X W G g)
  · rw [Option.map_eq_some_iff] at h
    obtain ⟨⟨A', za⟩, hA, e⟩ := h
    cases e
    exact je_not G.ok.K (hE _ _ _ _ hA X W G g)
  · rename_i op es p
    have := bo_snd (g := g) (p := p) hE G h
    rw [← boOf_eq] at this
    exact this
  · simp only [Option.bind_eq_some_iff] at h
    obtain ⟨⟨D, md⟩, hD, ⟨A', za⟩, hA, ⟨B', zb⟩, hB, h⟩ := h
    cases h
    exact je_ite (hT _ _ _ _ hD X W G g) (hE _ _ _ _ hA X W G g) (hE _ _ _ _ hB X W G g)
  · rw [Option.map_eq_some_iff] at h
    obtain ⟨⟨A', ma⟩, hA, e⟩ := h
    cases e
    exact (cmp_snd hE G hA).1
  · exact sub_snd hE G h
  · rw [Option.map_eq_some_iff] at h
    obtain ⟨⟨B, mu, oc⟩, hB, e⟩ := h
    cases e
    exact je_lst (es_snd hE G hB).1
  · rw [Option.map_eq_some_iff] at h
    obtain ⟨⟨B, mu, oc⟩, hB, e⟩ := h
    cases e
    exact je_tup (es_snd hE G hB).1
  · exact call_snd hE hM (hN S) G h
  · exact comp_snd hE hT G h
  · rw [Option.map_eq_some_iff] at h
    obtain ⟨⟨B, mu⟩, hB, e⟩ := h
    cases e
    exact je_fstr (trF_snd (fun a A z q => hE _ _ _ _ q X W G g) hB)
  · cases h
theorem stepT_snd (hE : SndE Y C cs k rE) (hT : SndT Y C cs k rT) : SndT Y C cs k (stepT rE rT) := by
  intro S e A z h X W G g
  unfold stepT at h
  split at h
  · rw [Option.map_eq_some_iff] at h
    obtain ⟨⟨A', za⟩, hA, e⟩ := h
    cases e
    exact jt_not (hT _ _ _ _ hA X W G g)
  · rename_i op es p
    have := boT_snd (g := g) (p := p) hT G h
    rw [← boOf_eq] at this
    exact this.jt
  · exact (cmp_snd hE G h).2
  · split at h
    · rename_i hc
      rw [Option.map_eq_some_iff] at h
      obtain ⟨⟨A', za⟩, hA, e⟩ := h
      cases e
      exact jt_of G.ok.K (hE _ _ _ _ hA X W G g) (plain_true hc)
    · cases h
def tr (rM : RM) : Nat → RE × RT
  | 0 => (fun S e => match e with | .Name x _ => trName S x | _ => none, fun _ _ => none)
  | n + 1 => (stepE (tr rM n).1 (tr rM n).2 rM, stepT (tr rM n).1 (tr rM n).2)
theorem tr_name : ∀ (n : Nat) (S : Sx) (x : Str) (p p' : Pos), (tr rM n).1 S (.Name x p) = (tr rM n).1 S (.Name x p')
  | 0, _, _, _, _ => rfl
  | _ + 1, _, _, _, _ => rfl
theorem tr_snd (hM : SndM Y C cs k rM) : ∀ n : Nat, SndE Y C cs k (tr rM n).1 ∧ SndT Y C cs k (tr rM n).2
  | 0 => by
    refine ⟨fun S e A z h X W G g => ?_, fun S e A z h => by cases h⟩
    cases e <;> try (cases h; done)
    exact name_snd h G
  | n + 1 => let ⟨h1, h2⟩ := tr_snd hM n; ⟨stepE_snd h1 h2 hM (tr_name n), stepT_snd h1 h2⟩
end
end VF
set_option Elab.async false
set_option maxRecDepth 100000
set_option maxHeartbeats 4000000
namespace VF
open PySem PySem.Spec PyProof.Rows L2
/-- a context of statements -/
structure GoodS (Y : Sys) (C : Cfg) (cs : Calls) (k : Nat) (S : Sx) (X : Cx) (W : WX) : Prop where
  g : Good Y C cs k S X W
  kd : X.env.scope.kind = .function
  ps : S.hot = true → PassesOwn (model X.prog X.w) X.A X.env X.xe
  st : S.hot = true → X.stack = X.env :: X.outer
  fr : S.hot = true → X.env.frame = some X.env.locals
/-! ### where stores are swapped -/
def isComp : Expr → Bool
  | .ListComp .. | .SetComp .. | .DictComp .. => true
  | _ => false
theorem sw_no {e : Expr} {t : Option Expr} {l : Nat} {env : PySem.Env} (h : isComp e = false) : swapsWith e t l env = pure false := by
  unfold swapsWith
  cases e <;> first | rfl | cases h
theorem sw_tup {e : Expr} {t : Expr} {l : Nat} {env : PySem.Env} (h : ∀ x p, t ≠ .Name x p) : swapsWith e (some t) l env = pure false := by
  unfold swapsWith
  cases e <;> first | rfl | (cases t <;> first | rfl | exact absurd rfl (h _ _))
theorem sw_cell {e : Expr} {x : Str} {p : Pos} {l : Nat} {env : PySem.Env} (h : env.scope.names.lookup x = some .cell) : swapsWith e (some (.Name x p)) l env = pure false := by
  have hk : env.kindOf x = some .cell := h
  cases e <;> first
    | rfl
    | (unfold swapsWith
       simp only [hk]
       cases env.blockKind <;> rfl)
theorem swst_no {t e : Expr} {env : PySem.Env} (h : ∀ ts k p, t ≠ .Tuple ts k p) (h' : ∀ ts p, t ≠ .List ts p) : swappedStores [t] e env = pure none := by
  unfold swappedStores
  cases t <;> first | rfl | exact absurd rfl (h _ _ _) | exact absurd rfl (h' _ _)
theorem swst_val {t e : Expr} {env : PySem.Env} (h : ∀ ts k p, e ≠ .Tuple ts k p) : swappedStores [t] e env = pure none := by
  unfold swappedStores
  cases t <;> first | rfl | (cases e <;> first | rfl | exact absurd rfl (h _ _ _))
/-- two names of one line get two values -/
def sw2 (S : Sx) (x y : Str) (px py : Pos) (a b : Expr) : Bool :=
  decide (S.sc.names.lookup x = some .local) && decide (S.sc.names.lookup y = some .local) && (py.line == px.line) && !(x == y) && nst a && nst b && !([a, b].all (foldedForSure 8)) && !([a, b].all (constantsAlone 8))
theorem block_kind {env : PySem.Env} (h : env.scope.kind = .function) : env.blockKind = .function := by unfold Env.blockKind; rw [h]; rfl
theorem swst_2 {x y : Str} {px py pt pt2 : Pos} {kt k2 : Nat} {a b : Expr} {env : PySem.Env} {S : Sx} (hs : env.scope = S.sc) (hk : env.scope.kind = .function) (h : sw2 S x y px py a b = true) :
    swappedStores [.Tuple [.Name x px, .Name y py] kt pt] (.Tuple [a, b] k2 pt2) env = pure (some [x, y]) := by
  unfold sw2 at h
  simp only [Bool.and_eq_true, decide_eq_true_eq, Bool.not_eq_true', ← hs] at h
  obtain ⟨⟨⟨⟨⟨⟨⟨h1, h2⟩, h3⟩, h4⟩, h5⟩, h6⟩, h7⟩, h8⟩ := h
  have k1 : env.kindOf x = some .local := h1
  have k2 : env.kindOf y = some .local := h2
  have hb := block_kind hk
  have hne : x ≠ y := fun z => by rw [z, beq_self_eq_true] at h4; cases h4
  have hne' : (y == x) = false := by rw [beq_eq_false_iff_ne]; exact fun z => hne z.symm
  unfold swappedStores
  dsimp only
  rw [hb]
  refine Eq.trans (if_neg (show ¬ (false = true) from Bool.false_ne_true)) ?_
  refine Eq.trans (if_neg ?_) ?_
  · intro z
    rw [List.any_cons, List.any_cons, List.any_nil, Bool.or_false, Bool.or_eq_true] at z
    rcases z with z | z
    · cases a <;> first | (cases h5; done) | (cases z; done)
    · cases b <;> first | (cases h6; done) | (cases z; done)
  refine Eq.trans (if_neg ?_) ?_
  · simp [List.filterMap, k1, k2, h3, Expr.pos, List.eraseDups, List.eraseDupsBy, List.eraseDupsBy.loop, hne']
  refine Eq.trans (if_neg (by rw [h7]; decide)) ?_
  refine Eq.trans (if_neg (by rw [h8]; decide)) ?_
  simp [List.filterMap, k1, k2, h3, Expr.pos]
/-- three names of one line get three values -/
def sw3 (S : Sx) (x y z : Str) (px py pz : Pos) (a b c : Expr) : Bool :=
  (decide (S.sc.names.lookup x = some .local) && decide (S.sc.names.lookup y = some .local) && decide (S.sc.names.lookup z = some .local)) && ((py.line == px.line) && (pz.line == px.line)) && (!(y == x) && !(z == x) && !(z == y)) && (nst a && nst b && nst c) && !([a, b, c].all (foldedForSure 8)) && !([a, b, c].all (constantsAlone 8))
theorem swst_3 {x y z : Str} {px py pz pt pt2 : Pos} {kt k2 : Nat} {a b c : Expr} {env : PySem.Env} {S : Sx} (hs : env.scope = S.sc) (hk : env.scope.kind = .function) (h : sw3 S x y z px py pz a b c = true) :
    swappedStores [.Tuple [.Name x px, .Name y py, .Name z pz] kt pt] (.Tuple [a, b, c] k2 pt2) env = pure (some [x, y, z]) := by
  unfold sw3 at h
  simp only [Bool.and_eq_true, decide_eq_true_eq, Bool.not_eq_true', ← hs] at h
  obtain ⟨⟨⟨⟨⟨⟨⟨h1, h2⟩, h3⟩, l2, l3⟩, ⟨n1, n2⟩, n3⟩, ⟨t1, t2⟩, t3⟩, h7⟩, h8⟩ := h
  have k1 : env.kindOf x = some .local := h1
  have k2 : env.kindOf y = some .local := h2
  have k3 : env.kindOf z = some .local := h3
  have hb := block_kind hk
  unfold swappedStores
  dsimp only
  rw [hb]
  refine Eq.trans (if_neg (show ¬ (false = true) from Bool.false_ne_true)) ?_
  refine Eq.trans (if_neg ?_) ?_
  · intro q
    rw [List.any_cons, List.any_cons, List.any_cons, List.any_nil, Bool.or_false, Bool.or_eq_true, Bool.or_eq_true] at q
    rcases q with q | q | q
    · cases a <;> first | (cases t1; done) | (cases q; done)
    · cases b <;> first | (cases t2; done) | (cases q; done)
    · cases c <;> first | (cases t3; done) | (cases q; done)
  refine Eq.trans (if_neg ?_) ?_
  · simp [List.filterMap, k1, k2, k3, l2, l3, Expr.pos, List.eraseDups, List.eraseDupsBy, List.eraseDupsBy.loop, n1, n2, n3]
  refine Eq.trans (if_neg (by rw [h7]; decide)) ?_
  refine Eq.trans (if_neg (by rw [h8]; decide)) ?_
  simp [List.filterMap, k1, k2, k3, l2, l3, Expr.pos]
theorem fm_len {α β : Type} {f : α → Option β} : ∀ (l : List α), (l.filterMap f).length ≤ l.length
  | [] => Nat.le_refl _
  | a :: l => by
    rw [List.filterMap_cons]
    have h2 := fm_len (f := f) l
    cases f a with
    | none => show (l.filterMap f).length ≤ l.length + 1; omega
    | some c => show (l.filterMap f).length + 1 ≤ l.length + 1; omega
theorem fm_lt {α β : Type} {f : α → Option β} : ∀ {l : List α} {a : α}, a ∈ l → f a = none → (l.filterMap f).length < l.length
  | b :: l, a, h, e => by
    rw [List.filterMap_cons]
    rcases List.mem_cons.mp h with z | z
    · subst z
      rw [e]
      have h2 := fm_len (f := f) l
      show (l.filterMap f).length < l.length + 1
      omega
    · have h2 := fm_lt z e
      cases f b with
      | none => show (l.filterMap f).length < l.length + 1; omega
      | some c => show (l.filterMap f).length + 1 < l.length + 1; omega
/-- a target that is no plain local -/
def swNo (S : Sx) (ts : List Expr) : Bool := ts.any fun t => match t with
  | .Name x _ => !decide (S.sc.names.lookup x = some .local)
  | _ => true
theorem swst_cell {ts : List Expr} {kt : Nat} {pt : Pos} {e : Expr} {env : PySem.Env} {S : Sx} (hs : env.scope = S.sc) (h : swNo S ts = true) : swappedStores [.Tuple ts kt pt] e env = pure none := by
  obtain ⟨t, ht, hp⟩ := List.any_eq_true.mp h
  unfold swappedStores
  cases e <;> try rfl
  dsimp only
  split
  · rfl
  split
  · rfl
  refine if_pos ?_
  rw [Bool.or_eq_true]
  refine .inl ?_
  rw [bne_iff_ne]
  refine Nat.ne_of_lt (fm_lt ht ?_)
  cases t <;> try rfl
  rename_i x p
  dsimp only at hp ⊢
  rw [← hs] at hp
  have hk : (env.kindOf x == some NameKind.local) = false := by
    rw [beq_eq_false_iff_ne]
    intro z
    have z' : env.scope.names.lookup x = some .local := z
    rw [z'] at hp
    simp at hp
  rw [hk]
  rfl
end VF
set_option Elab.async false
set_option maxRecDepth 100000
set_option maxHeartbeats 4000000
namespace VF
open PySem PySem.Spec PyProof.Rows L2
abbrev RS := Sx → Nat → Bool → Stmt → Option VF.S
def SndS (Y : Sys) (C : Cfg) (cs : Calls) (k : Nat) (r : RS) : Prop := ∀ S nr fr st B, r S nr fr st = some B → ∀ X W, GoodS Y C cs k S X W → (∀ j, j < nr → S.m j = true) → ∀ g, JS Y ⟨S.m, g⟩ (scO C S X) W nr fr X st (ex C cs B)
section
variable {Y : Sys} {C : Cfg} {cs : Calls} {k : Nat} {S : Sx} {X : Cx} {W : WX} {rE : RE} {rT : RT} {rS : RS} {g : Addr → Prop} {nr : Nat} {fr : Bool}
def trSs (r : Stmt → Option VF.S) : List Stmt → Option Ss
  | [] => some .nil
  | s :: r' => (r s).bind fun A => (trSs r r').map fun B => .cons A B
theorem ss_snd (hS : SndS Y C cs k rS) (G : GoodS Y C cs k S X W) (hr : ∀ j, j < nr → S.m j = true) : ∀ {b : List Stmt} {B : Ss}, trSs (rS S nr fr) b = some B → JSs Y ⟨S.m, g⟩ (scO C S X) W nr fr X b (exs C cs B)
  | [], B, h => by cases h; exact jss_nil
  | s :: b, B, h => by
    simp only [trSs, Option.bind_eq_some_iff, Option.map_eq_some_iff] at h
    obtain ⟨A, hA, B', hB, e⟩ := h
    subst e
    exact jss_cons (hS _ _ _ _ _ hA X W G hr g) (ss_snd hS G hr hB)

/-! ### name = e -/
def asgE (rE : RE) (rT : RT) (S : Sx) (x : Str) (p : Pos) : Expr → Option (E × St)
  | .ListComp elt [⟨tg, iter, ifs, 0⟩] scope cpos =>
    if S.sc.names.lookup x = some .local then (if (p.line == cpos.line) && !(scope.names.any fun (n, k) => n == x && (k == .local || k == .cell)) then trComp rE rT S elt tg iter ifs scope else none)
    else if S.sc.names.lookup x = some .cell then trComp rE rT S elt tg iter ifs scope else none
  | e => if isComp e then none else rE S e
theorem asgE_snd {i : Nat} {x : Str} {p pos : Pos} {e : Expr} {A : E} {z : St} (hE : SndE Y C cs k rE) (hT : SndT Y C cs k rT) (G : GoodS Y C cs k S X W) (hi : slotOf S x = some i) (hl : isLoc S x = true) (h : asgE rE rT S x p e = some (A, z)) : JAs Y ⟨S.m, g⟩ (scO C S X) W X i x p pos e (ev C cs A) z := by
  have hN : X.N[i]? = some x := by rw [G.g.N]; exact slotOf_eq hi
  obtain ⟨l1, l2⟩ := G.g.loc hl
  unfold asgE at h
  split at h
  · split at h
    · rename_i hloc
      split at h
      · rename_i hc
        simp only [Bool.and_eq_true, Bool.not_eq_true'] at hc
        obtain ⟨fit, fc, fe, wi, gt, mi, mc, is, ze, tgt, O, ok, pi, hg, ht, he, hs, j, zm⟩ := comp_parts (g := g) hE hT G.g h
        rw [← G.g.sc] at hloc
        exact ⟨zm, _, ps_setLc (O.calm rfl) O.nd hN hloc (sw_true G.kd hloc hc.1 hc.2) pi ok hg ht he hs, j⟩
      · cases h
    · split at h
      · rename_i hcell
        rw [← G.g.sc] at hcell
        exact jas_je G.g.ok.nd hN l1 l2 (sw_cell hcell) (comp_snd hE hT G.g h)
      · cases h
  · split at h
    · cases h
    · rename_i hc
      exact jas_je G.g.ok.nd hN l1 l2 (sw_no (by simpa using hc)) (hE _ _ _ _ h X W G.g g)
def trAsg (rE : RE) (rT : RT) (S : Sx) (nr : Nat) (x : Str) (p : Pos) (e : Expr) : Option VF.S :=
  (slotOf S x).bind fun i => (asgE rE rT S x p e).bind fun A => if isLoc S x then
    (if S.m i then (if A.2.fr && A.2.oi.isEmpty && decide (nr ≤ i) && freeS S i && (muE A.1).all S.m && A.2.mu.all (fun j => (muE A.1).contains j) then some (.asg i true A.1) else if A.2.fr && decide (nr ≤ i) && freeS S i && (muE A.1).all S.m && A.2.mu.all (fun j => (muE A.1).contains j) then some (.asgf i true A.1) else none)
    else (if ownOkS S [i] && A.2.oc.isEmpty && A.2.oi.isEmpty then some (.asg i false A.1) else if ownOkS S [i] && A.2.fr then some (.asgf i false A.1) else none)) else none
theorem flat_same {A : VF.E} : SFr (muE A) (fun env => (ev C cs A env).bind fun d e1 => if flatL d then .ok d e1 else .bad) :=
  (ev_same C cs A).bind fun d => by
    by_cases hc : flatL d = true
    · simp only [hc, if_true]; exact SFr.pure
    · simp only [hc]; exact SFr.bad
theorem sc0 {i : Nat} (h : freeS S i = true) : ¬ fx (scO C S X) i := frS_fx (freeS_eq.trans h)
theorem asg_snd {x : Str} {p pos : Pos} {e : Expr} {B : VF.S} (hE : SndE Y C cs k rE) (hT : SndT Y C cs k rT) (G : GoodS Y C cs k S X W) (hr : ∀ j, j < nr → S.m j = true) (h : trAsg rE rT S nr x p e = some B) : JS Y ⟨S.m, g⟩ (scO C S X) W nr fr X (.Assign [.Name x p] e pos) (ex C cs B) := by
  simp only [trAsg, Option.bind_eq_some_iff] at h
  obtain ⟨i, hi, ⟨A, z⟩, hA, h⟩ := h
  split at h
  · rename_i hl
    have ja := asgE_snd (g := g) (pos := pos) hE hT G hi hl hA
    split at h
    · rename_i hm
      split at h
      · rename_i hc
        simp only [Bool.and_eq_true, decide_eq_true_eq, List.isEmpty_iff] at hc
        obtain ⟨⟨⟨⟨⟨c1, c2⟩, c3⟩, c4⟩, c5⟩, c6⟩ := hc
        cases h
        have c6' : ∀ j ∈ z.mu, j ∈ muE A := fun j hj => by have := List.all_eq_true.mp c6 j hj; simpa using this
        exact js_asgM (ev_same C cs A) (fun j hj => List.all_eq_true.mp c5 j hj) c6' hm c3 (sc0 c4) c1 c2 ja
      · split at h
        · rename_i hc
          simp only [Bool.and_eq_true, decide_eq_true_eq] at hc
          obtain ⟨⟨⟨⟨c1, c3⟩, c4⟩, c5⟩, c6⟩ := hc
          cases h
          have c6' : ∀ j ∈ z.mu, j ∈ muE A := fun j hj => by have := List.all_eq_true.mp c6 j hj; simpa using this
          exact js_asgM (za := ⟨z.mu, [], [], true⟩) flat_same (fun j hj => List.all_eq_true.mp c5 j hj) c6' hm c3 (sc0 c4) rfl rfl (jas_flat c1 ja)
        · cases h
    · split at h
      · rename_i hc
        simp only [Bool.and_eq_true, List.isEmpty_iff] at hc
        cases h
        exact js_asg hr (ownOkS_eq hc.1.1) hc.1.2 hc.2 ja
      · split at h
        · rename_i hc
          simp only [Bool.and_eq_true] at hc
          cases h
          exact js_asg hr (ownOkS_eq hc.1) rfl rfl (jas_flat hc.2 ja)
        · cases h
  · cases h

/-! ### several names -/
theorem sw_sole {e : Expr} {t : Expr} {l : Nat} {env : PySem.Env} (h : ∀ x p, t ≠ .Name x p) : swapsWithSole [t] e l env = pure false := sw_tup h
def trTupA (rE : RE) (S : Sx) (ts : List Expr) (e : Expr) : Option VF.S :=
  (tgNames S ts).bind fun is => (rE S e).bind fun A => if S.hot && ownOkS S is && A.2.oc.isEmpty && A.2.oi.isEmpty then some (.asgT is A.1) else none
theorem tupA_snd {ts : List Expr} {kt : Nat} {pt pos : Pos} {e : Expr} {B : VF.S} (hE : SndE Y C cs k rE) (G : GoodS Y C cs k S X W) (hr : ∀ j, j < nr → S.m j = true) (hw : swappedStores [.Tuple ts kt pt] e X.env = pure none) (h : trTupA rE S ts e = some B) :
    JS Y ⟨S.m, g⟩ (scO C S X) W nr fr X (.Assign [.Tuple ts kt pt] e pos) (ex C cs B) := by
  simp only [trTupA, Option.bind_eq_some_iff] at h
  obtain ⟨is, hi, ⟨A, z⟩, hA, h⟩ := h
  split at h
  · rename_i hc
    simp only [Bool.and_eq_true, List.isEmpty_iff] at hc
    obtain ⟨⟨⟨c1, c2⟩, c3⟩, c4⟩ := hc
    cases h
    have ho := ownOkS_eq (C := C) (X := X) c2
    have htg : trTg S (.Tuple ts kt pt) = some (.t is, is) := by
      simp [trTg, hi, c1]
    exact js_asgT hr ho (tg_d htg ho) c3 c4 (tg_snd G.g.tgt htg) (hE _ _ _ _ hA X W G.g g) (sw_sole fun x p e => by cases e) hw rfl
  · cases h
def isNil : Expr → Bool
  | .List [] _ => true
  | _ => false
theorem isNil_eq {e : Expr} (h : isNil e = true) : ∃ p, e = .List [] p := by
  unfold isNil at h
  split at h
  · exact ⟨_, rfl⟩
  · cases h
def twoTg (S : Sx) (ts : List Expr) : Option (Nat × Nat) := match tgNames S ts with
  | some [i, j] => if S.m j then some (i, j) else none
  | _ => none
theorem twoTg_eq {ts : List Expr} {i j : Nat} (h : twoTg S ts = some (i, j)) : tgNames S ts = some [i, j] ∧ S.m j = true := by
  unfold twoTg at h
  split at h
  · rename_i e
    split at h
    · rename_i hm
      cases h
      exact ⟨e, hm⟩
    · cases h
  · cases h
def nilPair (e : Expr) : Option Expr := match e with
  | .Tuple [a, b] _ _ => if isNil b && nst a then some a else none
  | _ => none
theorem nilPair_eq {e a : Expr} (h : nilPair e = some a) : (∃ pl k2 pt2, e = .Tuple [a, .List [] pl] k2 pt2) ∧ nst a = true := by
  unfold nilPair at h
  split at h
  · split at h
    · rename_i hc
      rw [Bool.and_eq_true] at hc
      obtain ⟨p, rfl⟩ := isNil_eq hc.1
      cases h
      exact ⟨⟨_, _, _, rfl⟩, hc.2⟩
    · cases h
  · cases h
def trTupX (rE : RE) (S : Sx) (nr : Nat) (ts : List Expr) (e : Expr) : Option VF.S := match nilPair e with
  | some a => (match twoTg S ts with
    | some q => (rE S a).bind fun A => if S.hot && ownOkS S [q.1] && A.2.oc.isEmpty && A.2.oi.isEmpty && decide (nr ≤ q.2) && freeS S q.2 then some (.parN q.1 q.2 A.1) else none
    | none => trTupA rE S ts e)
  | none => trTupA rE S ts e
theorem tupX_snd {ts : List Expr} {kt : Nat} {pt pos : Pos} {e : Expr} {B : VF.S} (hE : SndE Y C cs k rE) (G : GoodS Y C cs k S X W) (hr : ∀ j, j < nr → S.m j = true) (hw : swappedStores [.Tuple ts kt pt] e X.env = pure none) (h : trTupX rE S nr ts e = some B) :
    JS Y ⟨S.m, g⟩ (scO C S X) W nr fr X (.Assign [.Tuple ts kt pt] e pos) (ex C cs B) := by
  unfold trTupX at h
  split at h
  · rename_i a ha
    split at h
    · rename_i q hq
      obtain ⟨i, j⟩ := q
      rw [Option.bind_eq_some_iff] at h
      obtain ⟨⟨A, z⟩, hA, h⟩ := h
      split at h
      · rename_i hc
        simp only [Bool.and_eq_true, decide_eq_true_eq, List.isEmpty_iff] at hc
        obtain ⟨⟨⟨⟨⟨c1, c2⟩, c3⟩, c4⟩, c5⟩, c6⟩ := hc
        cases h
        obtain ⟨⟨pl, k2, pt2, rfl⟩, hn⟩ := nilPair_eq ha
        obtain ⟨t1, t2⟩ := twoTg_eq hq
        obtain ⟨q1, q2, q3⟩ := tgNames_pg G.g.tgt t1
        exact js_parNT (G.g.ok.calm c1) G.g.ok.K hr (ownOkS_eq c2) t2 c5 (sc0 c6) c3 c4 q1 q2 q3 hw (sw_sole fun x p e => by cases e) (star_cons hn) (hE _ _ _ _ hA X W G.g g)
      · cases h
    · exact tupA_snd hE G hr hw h
  · exact tupA_snd hE G hr hw h
def trTup (rE : RE) (S : Sx) (nr : Nat) (ts : List Expr) (e : Expr) : Option VF.S := match e with
  | .Tuple es _ _ => (match ts, es with
    | [.Name x px, .Name y py], [a, b] => if sw2 S x y px py a b then
        (slotOf S x).bind fun i => (slotOf S y).bind fun j =>
          if i != j && S.hot then
            (if S.m i then (match b with
              | .List [] _ => (rE S a).bind fun A => if S.m j && A.2.fr && A.2.oi.isEmpty && decide (nr ≤ i) && decide (nr ≤ j) && freeS S i && freeS S j && (muE A.1).all S.m && A.2.mu.all (fun l => (muE A.1).contains l) then some (.parL i j A.1) else none
              | _ => none)
            else if S.m j && isNil b then (rE S a).bind fun A => if ownOkS S [i] && A.2.oc.isEmpty && A.2.oi.isEmpty && decide (nr ≤ j) && freeS S j then some (.parN i j A.1) else none
            else (trEs (rE S) S [a, b]).bind fun B => if ownOkS S [i, j] && B.2.2.isEmpty then some (.par [i, j] B.1) else none)
          else none
      else if swNo S ts then trTupX rE S nr ts e else none
    | [.Name x px, .Name y py, .Name z pz], [a, b, c] => if sw3 S x y z px py pz a b c then
        (slotOf S x).bind fun i => (slotOf S y).bind fun j => (slotOf S z).bind fun l =>
          if i != j && i != l && j != l && S.hot then
            (trEs (rE S) S [a, b, c]).bind fun B => if ownOkS S [i, j, l] && B.2.2.isEmpty then some (.par [i, j, l] B.1) else none
          else none
      else if swNo S ts then trTupX rE S nr ts e else none
    | _, _ => if swNo S ts then trTupX rE S nr ts e else none)
  | e => trTupX rE S nr ts e
theorem tup_snd {ts : List Expr} {kt : Nat} {pt pos : Pos} {e : Expr} {B : VF.S} (hE : SndE Y C cs k rE) (G : GoodS Y C cs k S X W) (hr : ∀ j, j < nr → S.m j = true) (h : trTup rE S nr ts e = some B) :
    JS Y ⟨S.m, g⟩ (scO C S X) W nr fr X (.Assign [.Tuple ts kt pt] e pos) (ex C cs B) := by
  unfold trTup at h
  split at h
  · split at h
    · rename_i k2 pt2 x px y py a b
      split at h
      · rename_i hsw
        simp only [Option.bind_eq_some_iff] at h
        obtain ⟨i, hi, j, hj, h⟩ := h
        have hsw0 := hsw
        unfold sw2 at hsw0
        simp only [Bool.and_eq_true, decide_eq_true_eq, Bool.not_eq_true', ← G.g.sc] at hsw0
        obtain ⟨⟨⟨⟨⟨⟨⟨h1, h2⟩, h3⟩, h4⟩, h5⟩, h6⟩, h7⟩, h8⟩ := hsw0
        have hN : X.N[i]? = some x := by rw [G.g.N]; exact slotOf_eq hi
        have hN2 : X.N[j]? = some y := by rw [G.g.N]; exact slotOf_eq hj
        split at h
        · rename_i hc
          simp only [Bool.and_eq_true, bne_iff_ne] at hc
          have hcm := G.g.ok.calm hc.2
          split at h
          · rename_i hmi
            split at h
            · rename_i pl
              rw [Option.bind_eq_some_iff] at h
              obtain ⟨⟨A, z⟩, hA, h⟩ := h
              split at h
              · rename_i hd
                simp only [Bool.and_eq_true, decide_eq_true_eq, List.isEmpty_iff] at hd
                obtain ⟨⟨⟨⟨⟨⟨⟨⟨d1, d2⟩, d3⟩, d4⟩, d5⟩, d6⟩, d7⟩, d8⟩, d9⟩ := hd
                cases h
                have d9' : ∀ l ∈ z.mu, l ∈ muE A := fun l hl => by have := List.all_eq_true.mp d9 l hl; simpa using this
                exact js_parL hcm G.g.ok.nd (ev_same C cs A) (fun l hl => List.all_eq_true.mp d8 l hl) d9' hmi d1 d4 d5 ⟨sc0 d6, sc0 d7⟩ hc.1 d2 d3 hN hN2 h1 h2 (swst_2 G.g.sc G.kd hsw) (sw_sole fun x p e => by cases e) (star_cons h5) (hE _ _ _ _ hA X W G.g g)
              · cases h
            · cases h
          · split at h
            · rename_i hmj
              rw [Bool.and_eq_true] at hmj
              obtain ⟨pl, rfl⟩ := isNil_eq hmj.2
              rw [Option.bind_eq_some_iff] at h
              obtain ⟨⟨A, z⟩, hA, h⟩ := h
              split at h
              · rename_i hd
                simp only [Bool.and_eq_true, decide_eq_true_eq, List.isEmpty_iff] at hd
                obtain ⟨⟨⟨⟨d1, d2⟩, d3⟩, d4⟩, d5⟩ := hd
                cases h
                exact js_parN hcm G.g.ok.nd hr (ownOkS_eq d1) hmj.1 d4 (sc0 d5) hc.1 d2 d3 hN hN2 h1 h2 (swst_2 G.g.sc G.kd hsw) (sw_sole fun x p e => by cases e) (star_cons h5) (hE _ _ _ _ hA X W G.g g)
              · cases h
            · rw [Option.bind_eq_some_iff] at h
              obtain ⟨⟨Bs, mu, oc⟩, hB, h⟩ := h
              split at h
              · rename_i hd
                simp only [Bool.and_eq_true, List.isEmpty_iff] at hd
                cases h
                have jb := (es_snd (g := g) hE G.g hB).1
                have e0 : oc = [] := hd.2
                rw [e0] at jb
                exact js_par hcm G.g.ok.nd hr (ownOkS_eq hd.1) hc.1 hN hN2 h1 h2 (swst_2 G.g.sc G.kd hsw) (sw_sole fun x p e => by cases e) jb
              · cases h
        · cases h
      · split at h
        · rename_i hn
          exact tupX_snd hE G hr (swst_cell G.g.sc hn) h
        · cases h
    · rename_i k2 pt2 x px y py z pz a b c
      split at h
      · rename_i hsw
        simp only [Option.bind_eq_some_iff] at h
        obtain ⟨i, hi, j, hj, l, hl, h⟩ := h
        have hsw0 := hsw
        unfold sw3 at hsw0
        simp only [Bool.and_eq_true, decide_eq_true_eq, Bool.not_eq_true', ← G.g.sc] at hsw0
        obtain ⟨⟨⟨⟨⟨⟨⟨h1, h2⟩, h3⟩, -⟩, -⟩, -⟩, -⟩, -⟩ := hsw0
        have hN : X.N[i]? = some x := by rw [G.g.N]; exact slotOf_eq hi
        have hN2 : X.N[j]? = some y := by rw [G.g.N]; exact slotOf_eq hj
        have hN3 : X.N[l]? = some z := by rw [G.g.N]; exact slotOf_eq hl
        split at h
        · rename_i hc
          simp only [Bool.and_eq_true, bne_iff_ne] at hc
          obtain ⟨⟨⟨c1, c2⟩, c3⟩, c4⟩ := hc
          rw [Option.bind_eq_some_iff] at h
          obtain ⟨⟨Bs, mu, oc⟩, hB, h⟩ := h
          split at h
          · rename_i hd
            simp only [Bool.and_eq_true, List.isEmpty_iff] at hd
            cases h
            have jb := (es_snd (g := g) hE G.g hB).1
            have e0 : oc = [] := hd.2
            rw [e0] at jb
            exact js_par3 (G.g.ok.calm c4) G.g.ok.nd hr (ownOkS_eq hd.1) c1 c2 c3 hN hN2 hN3 h1 h2 h3 (swst_3 G.g.sc G.kd hsw) (sw_sole fun x p e => by cases e) jb
          · cases h
        · cases h
      · split at h
        · rename_i hn
          exact tupX_snd hE G hr (swst_cell G.g.sc hn) h
        · cases h
    · split at h
      · rename_i hn
        exact tupX_snd hE G hr (swst_cell G.g.sc hn) h
      · cases h
  · rename_i hne
    exact tupX_snd hE G hr (swst_val fun ts k p e => hne _ _ _ e) h
end
end VF
set_option Elab.async false
set_option maxRecDepth 100000
set_option maxHeartbeats 4000000
namespace VF
open PySem PySem.Spec PyProof.Rows L2
section
variable {Y : Sys} {C : Cfg} {cs : Calls} {k : Nat} {S : Sx} {X : Cx} {W : WX} {rE : RE} {rT : RT} {rS : RS} {g : Addr → Prop} {nr : Nat} {fr : Bool}
/-! ### lists of one's own -/
def trSeti (rE : RE) (S : Sx) (x : Str) (ix e : Expr) : Option VF.S :=
  (slotOf S x).bind fun i => (rE S e).bind fun A => (rE S ix).bind fun B => if isVis S x && S.m i && A.2.oc.isEmpty && A.2.oi.isEmpty && B.2.mu.isEmpty && noSlice ix then some (.seti i B.1 A.1) else none
theorem seti_snd {x : Str} {p1 tp pos : Pos} {ix e : Expr} {B : VF.S} (hE : SndE Y C cs k rE) (G : GoodS Y C cs k S X W) (h : trSeti rE S x ix e = some B) : JS Y ⟨S.m, g⟩ (scO C S X) W nr fr X (.Assign [.Subscript (.Name x p1) ix tp] e pos) (ex C cs B) := by
  simp only [trSeti, Option.bind_eq_some_iff] at h
  obtain ⟨i, hi, ⟨A, za⟩, hA, ⟨D, zb⟩, hD, h⟩ := h
  split at h
  · rename_i hc
    simp only [Bool.and_eq_true, List.isEmpty_iff] at hc
    obtain ⟨⟨⟨⟨⟨c1, c2⟩, c3⟩, c4⟩, c5⟩, c6⟩ := hc
    cases h
    exact js_seti (G.g.var c1 hi) c2 c3 c4 (hE _ _ _ _ hA X W G.g g) (hE _ _ _ _ hD X W G.g g) c5 (sw_sole fun x p e => by cases e) (swst_no (fun ts k p e => by cases e) fun ts p e => by cases e) rfl (fun v => by cases ix <;> first | rfl | (cases c6; done))
  · cases h
theorem few2 {pos : Pos} {env : PySem.Env} {a b : Expr} (h : nst a = true) (h2 : nst b = true) : ((backTo pos (starEach [a, b] env)).all (fun x => !x.1) && (backToKw pos (keywordEach [] env)).all (fun x => x.1.isSome) && decide ([a, b].length + ([] : List Keyword).length + (if ([] : List Keyword).isEmpty then 0 else 1) < 30)) = true := by
  cases a <;> (try (cases h; done)) <;> cases b <;> first | rfl | (cases h2; done)
def trExpr (rE : RE) (S : Sx) (e : Expr) : Option VF.S := match e with
  | .Call (.Attribute (.Name x _) m p2) [a] [] cp => if m = "append" then
      (slotOf S x).bind fun i => (rE S a).bind fun A => if isVis S x && S.m i && A.2.oc.isEmpty && A.2.oi.isEmpty && nst a && (p2.endLine == cp.line) then some (.app i A.1) else none
    else (rE S e).map fun A => .ex A.1
  | .Call (.Attribute (.Name x _) m p2) [a, b] [] cp => if m = "insert" then
      (slotOf S x).bind fun i => (trEs (rE S) S [a, b]).bind fun B => if isVis S x && S.m i && B.2.2.isEmpty && nst a && nst b && (p2.endLine == cp.line) then some (.ins i B.1) else none
    else (rE S e).map fun A => .ex A.1
  | e => if isComp e then none else (rE S e).map fun A => .ex A.1
theorem expr_snd {e : Expr} {pos : Pos} {B : VF.S} (hE : SndE Y C cs k rE) (G : GoodS Y C cs k S X W) (h : trExpr rE S e = some B) : JS Y ⟨S.m, g⟩ (scO C S X) W nr fr X (.Expr e pos) (ex C cs B) := by
  unfold trExpr at h
  split at h
  · split at h
    · rename_i em
      subst em
      simp only [Option.bind_eq_some_iff] at h
      obtain ⟨i, hi, ⟨A, z⟩, hA, h⟩ := h
      split at h
      · rename_i hc
        simp only [Bool.and_eq_true, List.isEmpty_iff] at hc
        obtain ⟨⟨⟨⟨⟨c1, c2⟩, c3⟩, c4⟩, c5⟩, c6⟩ := hc
        cases h
        exact js_app (G.g.var c1 hi) c2 c3 c4 base_name (few1 c5) c6 (star_cons c5) (sw_no rfl) (hE _ _ _ _ hA X W G.g g)
      · cases h
    · rw [Option.map_eq_some_iff] at h
      obtain ⟨⟨A, z⟩, hA, e⟩ := h
      cases e
      exact js_expr (sw_no rfl) (hE _ _ _ _ hA X W G.g g)
  · split at h
    · rename_i em
      subst em
      simp only [Option.bind_eq_some_iff] at h
      obtain ⟨i, hi, ⟨Bs, mu, oc⟩, hB, h⟩ := h
      split at h
      · rename_i hc
        simp only [Bool.and_eq_true, List.isEmpty_iff] at hc
        obtain ⟨⟨⟨⟨⟨c1, c2⟩, c3⟩, c4⟩, c5⟩, c6⟩ := hc
        cases h
        have jb := (es_snd (g := g) hE G.g hB).1
        have e0 : oc = [] := c3
        rw [e0] at jb
        exact js_ins (G.g.var c1 hi) c2 base_name (few2 c4 c5) c6 (star_cons c4) (star_any (by simp [c5])) (sw_no rfl) jb
      · cases h
    · rw [Option.map_eq_some_iff] at h
      obtain ⟨⟨A, z⟩, hA, e⟩ := h
      cases e
      exact js_expr (sw_no rfl) (hE _ _ _ _ hA X W G.g g)
  · split at h
    · cases h
    · rename_i hc
      rw [Option.map_eq_some_iff] at h
      obtain ⟨⟨A, z⟩, hA, e⟩ := h
      cases e
      exact js_expr (sw_no (by simpa using hc)) (hE _ _ _ _ hA X W G.g g)

/-! ### return -/
def mName (S : Sx) (nr : Nat) : Expr → Option Nat
  | .Name x _ => (slotOf S x).bind fun i => if S.m i && decide (nr ≤ i) && isVis S x then some i else none
  | _ => none
theorem mName_eq {e : Expr} {i : Nat} (h : mName S nr e = some i) : ∃ x p, e = .Name x p ∧ slotOf S x = some i ∧ S.m i = true ∧ nr ≤ i ∧ isVis S x = true := by
  cases e <;> try (cases h; done)
  rename_i x p
  simp only [mName, Option.bind_eq_some_iff] at h
  obtain ⟨j, hj, h⟩ := h
  split at h
  · rename_i hc
    simp only [Bool.and_eq_true, decide_eq_true_eq] at hc
    cases h
    exact ⟨x, p, rfl, hj, hc.1.1, hc.1.2, hc.2⟩
  · cases h
def trRet (rE : RE) (S : Sx) (nr : Nat) (fr : Bool) (e : Expr) : Option VF.S := match mName S nr e with
  | some i => some (.ret (.v i))
  | none => (rE S e).bind fun A => if retOk nr fr A.2 then some (.ret A.1) else none
theorem ret_snd {e : Expr} {pos : Pos} {B : VF.S} (hE : SndE Y C cs k rE) (G : GoodS Y C cs k S X W) (hr : ∀ j, j < nr → S.m j = true) (h : trRet rE S nr fr e = some B) : JS Y ⟨S.m, g⟩ (scO C S X) W nr fr X (.Return (some e) pos) (ex C cs B) := by
  unfold trRet at h
  split at h
  · rename_i i hi
    cases h
    obtain ⟨x, p, rfl, h1, h2, h3, h4⟩ := mName_eq hi
    exact js_retM hr h2 h3 (G.g.var h4 h1)
  · rw [Option.bind_eq_some_iff] at h
    obtain ⟨⟨A, z⟩, hA, h⟩ := h
    split at h
    · rename_i hc
      cases h
      exact js_ret hr hc (hE _ _ _ _ hA X W G.g g)
    · cases h

/-! ### except -/
def coldS (S : Sx) : Sx := { S with hot := false, lam := false, gd := false, exn := none }
/-- a suite that holds an error -/
def asS (S : Sx) (i : Nat) (c : Str) : Sx := { coldS S with exn := some (i, c) }
def trHs (rS : RS) (S : Sx) (nr : Nat) (fr : Bool) : List ExceptHandler → Option Hs
  | [] => some .nil
  | .ExceptHandler (some (.Name hc _)) none (b0 :: b) _ :: r => (trSs (rS (coldS S) nr fr) (b0 :: b)).bind fun B => (trHs rS S nr fr r).bind fun R => if isGl S hc && decide (hc ∈ S.hcl) then some (.cons hc B R) else none
  | _ => none
theorem good_cold (G : GoodS Y C cs k S X W) (a : Addr) (pn : List (Addr × Obj)) : GoodS Y C cs k (coldS S) (X.suite a pn) WN where
  g := ⟨G.g.N, G.g.sc, G.g.fn, ⟨G.g.ok.P, G.g.ok.w, G.g.ok.K, G.g.ok.mg, G.g.ok.base, G.g.ok.nd, G.g.ok.un, (fun z => by cases z), (fun z => by cases z)⟩, takes_none5, G.g.free, G.g.sig, G.g.fns, G.g.glob, G.g.gl, G.g.kl, G.g.ecl, G.g.hcl, (fun z => by cases z), (fun z => by cases z), (fun q z => by cases z), G.g.isx⟩
  kd := G.kd
  ps := fun z => by cases z
  st := fun z => by cases z
  fr := fun z => by cases z
theorem scO_cold {X' : Cx} (h : S.exn = none) : scO C (coldS S) X' = scO C S X := by
  unfold scO coldS
  rw [h]
  rfl
theorem good_as (G : GoodS Y C cs k S X W) {i : Nat} {c : Str} {a D : Addr} {oe : Obj} {pn : List (Addr × Obj)} (hm : Y.mg c = some (.ref D)) (hz : Zc (.ref D) none oe) (hv : ∃ vs, oe.data = .fields vs) : GoodS Y C cs k (asS S i c) (X.suite a ((a, oe) :: pn)) WN where
  g := ⟨G.g.N, G.g.sc, G.g.fn, ⟨G.g.ok.P, G.g.ok.w, G.g.ok.K, G.g.ok.mg, G.g.ok.base, G.g.ok.nd, G.g.ok.un, (fun z => by cases z), (fun z => by cases z)⟩, takes_none5, G.g.free, G.g.sig, G.g.fns, G.g.glob, G.g.gl, G.g.kl, G.g.ecl, G.g.hcl, (fun z => by cases z), (fun z => by cases z), (fun q z => by cases z; exact ⟨X, a, oe, pn, D, rfl, hz, hv, hm⟩), G.g.isx⟩
  kd := G.kd
  ps := fun z => by cases z
  st := fun z => by cases z
  fr := fun z => by cases z
theorem good_tr (h0 : S.exn = none) (G : GoodS Y C cs k S X W) {W' : WX} {pn : List (Addr × Obj)} {xe : Value → Shared → Prop} (tk : Takes (X.tr pn xe) W') (hp : PassesOwn (model X.prog X.w) X.A X.env xe) : GoodS Y C cs k S (X.tr pn xe) W' where
  g := ⟨G.g.N, G.g.sc, G.g.fn, ⟨G.g.ok.P, G.g.ok.w, G.g.ok.K, G.g.ok.mg, G.g.ok.base, G.g.ok.nd, G.g.ok.un, G.g.ok.room, G.g.ok.calm⟩, tk, G.g.free, G.g.sig, G.g.fns, G.g.glob, G.g.gl, G.g.kl, G.g.ecl, G.g.hcl, fun z => let ⟨c, P, L⟩ := G.g.lam z; ⟨c, P, L.code, L.tab, L.mem, L.uniq⟩, G.g.gd, (fun q z => by rw [h0] at z; cases z), G.g.isx⟩
  kd := G.kd
  ps := fun _ => hp
  st := G.st
  fr := G.fr
theorem hs_snd (h0 : S.exn = none) (hS : SndS Y C cs k rS) (G : GoodS Y C cs k S X W) (hr : ∀ j, j < nr → S.m j = true) : ∀ {hds : List ExceptHandler} {B : Hs}, trHs rS S nr fr hds = some B → JH Y ⟨S.m, g⟩ (scO C S X) W nr fr X hds (fun x e => exh C cs x B e)
  | [], B, h => by cases h; exact jh_nil
  | hd :: hds, B, h => by
    unfold trHs at h
    split at h
    · rename_i heq; cases heq
    · rename_i hc np b0 b pos' r heq
      cases heq
      simp only [Option.bind_eq_some_iff] at h
      obtain ⟨B', hB, R, hR, h⟩ := h
      split at h
      · rename_i hh
        simp only [Bool.and_eq_true, decide_eq_true_eq] at hh
        cases h
        obtain ⟨c, hI, hdb, hn⟩ := G.g.hcl hc hh.2
        have hN : Names X hc c := ⟨G.g.gl' hh.1, hdb, by rw [G.g.ok.mg]; exact hn⟩
        exact jh_cons G.g.ok.K hN hI (fun a pn => by rw [← scO_cold (X' := X.suite a pn) h0]; exact ss_snd (S := coldS S) (g := g) hS (good_cold G a pn) hr hB) (hs_snd h0 hS G hr hR)
      · cases h
    · cases h
/-- the suite, once for each class that comes to it -/
def trCls (rS : RS) (S : Sx) (nr : Nat) (fr : Bool) (i : Nat) (b : List Stmt) : List Str → Option Cls
  | [] => some .nil
  | c :: r => (trSs (rS (asS S i c) nr fr) b).bind fun B => (trCls rS S nr fr i b r).map fun R => .cons c B R
def clsHas : Cls → Str → Bool
  | .nil, _ => false
  | .cons c _ r, d => decide (c = d) || clsHas r d
theorem exq_no {c : Str} {e : Env} : ∀ {R : Cls}, clsHas R c = false → exq C cs c R e = .bad
  | .nil, _ => rfl
  | .cons d B R, h => by
    simp only [clsHas, Bool.or_eq_false_iff, decide_eq_false_iff_not] at h
    show (if d = c then exs C cs B e else exq C cs c R e) = .bad
    rw [if_neg h.1, exq_no h.2]
theorem cls_snd (hS : SndS Y C cs k rS) (G : GoodS Y C cs k S X W) (hr : ∀ j, j < nr → S.m j = true) {i : Nat} {b : List Stmt} {c : Str} {a D : Addr} {oe : Obj} {pn : List (Addr × Obj)} (hm : Y.mg c = some (.ref D)) (hz : Zc (.ref D) none oe) (hv : ∃ vs, oe.data = .fields vs) : ∀ {l : List Str} {R : Cls}, trCls rS S nr fr i b l = some R → clsHas R c = true →
    JSs Y ⟨S.m, g⟩ ⟨(scO C S X).ns, some (i, a)⟩ WN nr fr (X.suite a ((a, oe) :: pn)) b (exq C cs c R)
  | [], R, h, hc => by cases h; cases hc
  | d :: l, R, h, hc => by
    simp only [trCls, Option.bind_eq_some_iff, Option.map_eq_some_iff] at h
    obtain ⟨B, hB, R', hR, e⟩ := h
    cases e
    by_cases q : d = c
    · subst q
      have := ss_snd (S := asS S i d) (g := g) hS (good_as G (a := a) (oe := oe) (pn := pn) hm hz hv) hr hB
      have e2 : exq C cs d (.cons d B R') = exs C cs B := by
        funext e
        show (if d = d then exs C cs B e else exq C cs d R' e) = _
        rw [if_pos rfl]
      rw [e2]
      exact this
    · simp only [clsHas, Bool.or_eq_true, decide_eq_true_eq] at hc
      have e2 : exq C cs c (.cons d B R') = exq C cs c R' := by
        funext e
        show (if d = c then exs C cs B e else exq C cs c R' e) = _
        rw [if_neg q]
      rw [e2]
      exact cls_snd hS G hr hm hz hv hR (hc.resolve_left q)
def nameOf : Expr → Option Str
  | .Name x _ => some x
  | _ => none
def trRaise (S : Sx) : Expr → Option VF.S
  | .Call (.Name cls _) [.Constant (.str _) _ _] [] _ => if S.hot && isGl S cls && decide (cls ∈ S.ecls) then some (.raise cls) else none
  | _ => none
theorem raise_snd {e : Expr} {pos : Pos} {B : VF.S} (G : GoodS Y C cs k S X W) (h : trRaise S e = some B) : JS Y ⟨S.m, g⟩ (scO C S X) W nr fr X (.Raise (some e) none pos) (ex C cs B) := by
  unfold trRaise at h
  split at h
  · split at h
    · rename_i hc
      simp only [Bool.and_eq_true, decide_eq_true_eq] at hc
      cases h
      have O : XOk Y k true X := by have := G.g.ok; rw [hc.1.1] at this; exact this
      exact js_raise O G.g.tk (G.g.ecl _ hc.2) (G.g.gl' hc.1.2)
    · cases h
  · cases h

/-! ### one step -/
def augOp : Operator → Option Bool
  | .Add => some false
  | .Sub => some true
  | _ => none
theorem augOp_eq {op : Operator} {b : Bool} (h : augOp op = some b) : op = if b then .Sub else .Add := by
  cases op <;> cases h <;> rfl
def trAug (rE : RE) (S : Sx) (x : Str) (op : Operator) (e : Expr) : Option VF.S :=
  (slotOf S x).bind fun i => (augOp op).bind fun b => (rE S e).bind fun A => if S.m i then (if isLoc S x && !b && A.2.fr && A.2.oi.isEmpty then some (.ext i A.1) else none) else if isLoc S x && ownOkS S [i] then some (.augI b i A.1) else none
theorem aug_snd {x : Str} {p pos : Pos} {op : Operator} {e : Expr} {B : VF.S} (hE : SndE Y C cs k rE) (G : GoodS Y C cs k S X W) (hr : ∀ j, j < nr → S.m j = true) (h : trAug rE S x op e = some B) : JS Y ⟨S.m, g⟩ (scO C S X) W nr fr X (.AugAssign (.Name x p) op e pos) (ex C cs B) := by
  simp only [trAug, Option.bind_eq_some_iff] at h
  obtain ⟨i, hi, b, hb, ⟨A, z⟩, hA, h⟩ := h
  split at h
  · rename_i hm
    split at h
    · rename_i hc
      simp only [Bool.and_eq_true, List.isEmpty_iff, Bool.not_eq_true'] at hc
      obtain ⟨⟨⟨c1, c2⟩, c3⟩, c4⟩ := hc
      cases h
      subst c2
      obtain ⟨l1, l2⟩ := G.g.loc c1
      rw [augOp_eq hb]
      exact js_ext G.g.ok.nd hm c3 c4 (by rw [G.g.N]; exact slotOf_eq hi) l1 l2 (hE _ _ _ _ hA X W G.g g)
    · cases h
  · split at h
    · rename_i hc
      rw [Bool.and_eq_true] at hc
      cases h
      obtain ⟨l1, l2⟩ := G.g.loc hc.1
      rw [augOp_eq hb]
      exact js_augI G.g.ok.nd hr (ownOkS_eq hc.2) (by rw [G.g.N]; exact slotOf_eq hi) l1 l2 (hE _ _ _ _ hA X W G.g g)
    · cases h
def trSeta (rE : RE) (S : Sx) (x : Str) (ix : Expr) (op : Operator) (e : Expr) : Option VF.S :=
  (slotOf S x).bind fun i => (augOp op).bind fun b => (rE S e).bind fun A => (rE S ix).bind fun B => if isVis S x && S.m i && noSlice ix then some (.seta b i B.1 A.1) else none
theorem seta_snd {x : Str} {p1 tp pos : Pos} {op : Operator} {ix e : Expr} {B : VF.S} (hE : SndE Y C cs k rE) (G : GoodS Y C cs k S X W) (h : trSeta rE S x ix op e = some B) : JS Y ⟨S.m, g⟩ (scO C S X) W nr fr X (.AugAssign (.Subscript (.Name x p1) ix tp) op e pos) (ex C cs B) := by
  simp only [trSeta, Option.bind_eq_some_iff] at h
  obtain ⟨i, hi, b, hb, ⟨A, za⟩, hA, ⟨D, zb⟩, hD, h⟩ := h
  split at h
  · rename_i hc
    simp only [Bool.and_eq_true] at hc
    obtain ⟨⟨c1, c2⟩, c6⟩ := hc
    cases h
    rw [augOp_eq hb]
    exact js_seta G.g.ok.K (G.g.var c1 hi) c2 (hE _ _ _ _ hA X W G.g g) (hE _ _ _ _ hD X W G.g g) (fun _ _ _ => by cases ix <;> first | rfl | (cases c6; done))
  · cases h
theorem tryas_eq {B : Ss} {hc : Str} {i : Nat} {R : Cls} : ex C cs (.tryas B hc i R) = fun (env : Env) => (match exs C cs B env with
    | Out.ok f e => Out.ok f e
    | Out.exc x e => tblAt (fun d => if clsHas R d then some (exq C cs d R) else none) i C.exm hc x e
    | Out.bad => Out.bad : Out Flw) := by
  funext env
  show (match exs C cs B env with
    | Out.ok f e => Out.ok f e
    | Out.exc x e => (match C.exm x.cls hc with
      | some true => (match x.fld with
        | none => if i < e.length then endN i (exq C cs x.cls R (e.set i none)) else Out.bad
        | some _ => Out.bad)
      | some false => Out.exc x e
      | none => Out.bad)
    | Out.bad => Out.bad) = _
  cases exs C cs B env with
  | ok f e => rfl
  | bad => rfl
  | exc x e =>
    dsimp only
    unfold tblAt
    cases C.exm x.cls hc with
    | none => rfl
    | some b =>
      cases b with
      | false => rfl
      | true =>
        dsimp only
        cases x.fld with
        | some _ => rfl
        | none =>
          dsimp only
          by_cases hl : i < e.length
          · rw [if_pos hl, if_pos hl]
            by_cases q : clsHas R x.cls = true
            · rw [if_pos q]
            · rw [if_neg q, exq_no (by simpa using q)]
              rfl
          · rw [if_neg hl, if_neg hl]
def trHm (rS : RS) (S : Sx) (nr : Nat) (fr : Bool) : List ExceptHandler → Option Hm
  | [] => some .nil
  | .ExceptHandler (some (.Name hc _)) (some n) (b0 :: b1) _ :: r => (slotOf S n).bind fun i => (trCls rS S nr fr i (b0 :: b1) (S.asc hc)).bind fun R => (trHm rS S nr fr r).bind fun Q =>
    if isGl S hc && decide (hc ∈ S.hcl) && !S.m i && freeS S i && decide (S.sc.names.lookup n = some .local) then some (.cons hc i R Q) else none
  | _ => none
theorem exm_cons_eq {hc : Str} {i : Nat} {R : Cls} {Q : Hm} : (fun (x : Exn) (e : Env) => exm C cs x (.cons hc i R Q) e) = tblM (fun d => if clsHas R d then some (exq C cs d R) else none) i C.exm hc (fun x e => exm C cs x Q e) := by
  funext x e
  show (match C.exm x.cls hc with
      | some true => (match x.fld with
        | none => if i < e.length then endN i (exq C cs x.cls R (e.set i none)) else Out.bad
        | some _ => Out.bad)
      | some false => exm C cs x Q e
      | none => Out.bad) = _
  unfold tblM
  cases C.exm x.cls hc with
  | none => rfl
  | some b =>
    cases b with
    | false => rfl
    | true =>
      dsimp only
      cases x.fld with
      | some _ => rfl
      | none =>
        dsimp only
        by_cases hl : i < e.length
        · rw [if_pos hl, if_pos hl]
          by_cases q : clsHas R x.cls = true
          · rw [if_pos q]
          · rw [if_neg q, exq_no (by simpa using q)]
            rfl
        · rw [if_neg hl, if_neg hl]
theorem hm_snd (h0 : S.exn = none) (hS : SndS Y C cs k rS) (G : GoodS Y C cs k S X W) (hr : ∀ j, j < nr → S.m j = true) : ∀ {hds : List ExceptHandler} {B : Hm}, trHm rS S nr fr hds = some B → JM Y ⟨S.m, g⟩ (scO C S X) W nr fr X hds (fun x e => exm C cs x B e)
  | [], B, h => by cases h; exact jm_nil
  | hd :: hds, B, h => by
    unfold trHm at h
    split at h
    · rename_i heq; cases heq
    · rename_i hc np n b0 b1 pos' r heq
      cases heq
      simp only [Option.bind_eq_some_iff] at h
      obtain ⟨i, hi, R, hR, Q, hQ, h⟩ := h
      split at h
      · rename_i hh
        simp only [Bool.and_eq_true, Bool.not_eq_true', decide_eq_true_eq] at hh
        obtain ⟨⟨⟨⟨q2, q3⟩, q4⟩, q5⟩, q6⟩ := hh
        cases h
        obtain ⟨c, hI, hdb, hn⟩ := G.g.hcl hc q3
        have hN : Names X hc c := ⟨G.g.gl' q2, hdb, by rw [G.g.ok.mg]; exact hn⟩
        have hx : (scO C S X).x = none := by unfold scO; rw [h0]; rfl
        rw [exm_cons_eq]
        exact jm_cons (f := fun d => if clsHas R d then some (exq C cs d R) else none) G.g.ok.K (by rw [G.g.N]; exact slotOf_eq hi) (show X.env.scope.names.lookup n = some .local by rw [G.g.sc]; exact q6) hN hI q4 (sc0 q5) hx hr
          (fun d gg D a oe pn hd hm hz hv => by
            by_cases q : clsHas R d = true
            · rw [if_pos q] at hd
              cases hd
              exact cls_snd hS G hr hm hz hv hR q
            · rw [if_neg q] at hd; cases hd) (hm_snd h0 hS G hr hQ)
      · cases h
    · cases h
def stepS (rE : RE) (rT : RT) (rS : RS) : RS := fun S nr fr st => match st with
  | .Assign [.Name x p] e _ => trAsg rE rT S nr x p e
  | .Assign [.Tuple ts _ _] e _ => trTup rE S nr ts e
  | .Assign [.Subscript (.Name x _) ix _] e _ => trSeti rE S x ix e
  | .AugAssign (.Name x _) op e _ => trAug rE S x op e
  | .AugAssign (.Subscript (.Name x _) ix _) op e _ => trSeta rE S x ix op e
  | .Expr e _ => trExpr rE S e
  | .Return none _ => some .ret0
  | .Return (some e) _ => trRet rE S nr fr e
  | .Pass _ => some .pass
  | .If c a b _ => (rT S c).bind fun D => (trSs (rS S nr fr) a).bind fun A => (trSs (rS S nr fr) b).map fun B => .ifs D.1 A B
  | .For tg iter b [] _ => (trTg S tg).bind fun t => (trI (rE S) S tg iter).bind fun I => (trSs (rS S nr fr) b).bind fun B => if S.hot && ownOkS S t.2 && noSet iter then some (.for t.1 I.1 B) else none
  | .While c b [] _ => (rT S c).bind fun D => (trSs (rS S nr fr) b).bind fun B => if S.hot then some (.whl 400 D.1 B) else none
  | .Raise (some e) none _ => trRaise S e
  | .Try b (h0 :: hds) [] [] _ => (trSs (rS S nr fr) b).bind fun B => (match h0, hds with
    | .ExceptHandler (some (.Name hc _)) (some n) (b0 :: b1) _, [] => (slotOf S n).bind fun i => (trCls rS S nr fr i (b0 :: b1) (S.asc hc)).bind fun R => if S.exn.isNone && S.hot && isGl S hc && decide (hc ∈ S.hcl) && !S.m i && freeS S i && decide (S.sc.names.lookup n = some .local) then some (.tryas B hc i R) else none
    | h0, hds => (match trHs rS S nr fr (h0 :: hds) with
      | some R => if S.exn.isNone && S.hot then some (.try B R) else none
      | none => (trHm rS S nr fr (h0 :: hds)).bind fun R => if S.exn.isNone && S.hot then some (.trym B R) else none))
  | _ => none
theorem stepS_snd (hE : SndE Y C cs k rE) (hT : SndT Y C cs k rT) (hS : SndS Y C cs k rS) : SndS Y C cs k (stepS rE rT rS) := by
  intro S nr fr st B h X W G hr g
  unfold stepS at h
  split at h
  · exact asg_snd hE hT G hr h
  · exact tup_snd hE G hr h
  · exact seti_snd hE G h
  · exact aug_snd hE G hr h
  · exact seta_snd hE G h
  · exact expr_snd hE G h
  · cases h; exact js_ret0
  · exact ret_snd hE G hr h
  · cases h; exact js_pass
  · simp only [Option.bind_eq_some_iff, Option.map_eq_some_iff] at h
    obtain ⟨⟨D, md⟩, hD, A, hA, B', hB, e⟩ := h
    cases e
    exact js_if (hT _ _ _ _ hD X W G.g g) (ss_snd hS G hr hA) (ss_snd hS G hr hB)
  · simp only [Option.bind_eq_some_iff] at h
    obtain ⟨⟨t, is⟩, ht, ⟨I, mi⟩, hI, B', hB, h⟩ := h
    split at h
    · rename_i hc
      simp only [Bool.and_eq_true] at hc
      cases h
      have ho := ownOkS_eq (C := C) (X := X) hc.1.2
      exact js_for (G.ps hc.1.1) (G.g.ok.calm hc.1.1) hr ho (i_snd hE G.g _ hI) (tg_d ht ho) (tg_snd G.g.tgt ht) (ss_snd hS G hr hB) (no_fold hc.2)
    · cases h
  · simp only [Option.bind_eq_some_iff] at h
    obtain ⟨⟨D, md⟩, hD, B', hB, h⟩ := h
    split at h
    · rename_i hc
      cases h
      exact js_whl (n := 400) (G.ps hc) (hT _ _ _ _ hD X W G.g g) (ss_snd hS G hr hB)
    · cases h
  · exact raise_snd G h
  · simp only [Option.bind_eq_some_iff] at h
    obtain ⟨B', hB, h⟩ := h
    split at h
    · rename_i hc np n b0 b1 pos'
      simp only [Option.bind_eq_some_iff] at h
      obtain ⟨i, hi, R, hR, h⟩ := h
      split at h
      · rename_i hh
        simp only [Bool.and_eq_true, Bool.not_eq_true', decide_eq_true_eq] at hh
        obtain ⟨⟨⟨⟨⟨⟨q0, q1⟩, q2⟩, q3⟩, q4⟩, q5⟩, q6⟩ := hh
        have q0 : S.exn = none := Option.isNone_iff_eq_none.mp q0
        cases h
        obtain ⟨c, hI, hdb, hn⟩ := G.g.hcl hc q3
        have hN : Names X hc c := ⟨G.g.gl' q2, hdb, by rw [G.g.ok.mg]; exact hn⟩
        have hx : (scO C S X).x = none := by unfold scO; rw [q0]; rfl
        rw [tryas_eq]
        exact js_try_as (nr := nr) (fr := fr) (M := ⟨S.m, g⟩) (sc := scO C S X) (W := W) (np := np) (pos' := pos') (b0 := b0) (b := b1) (exm := C.exm) (f := fun d => if clsHas R d then some (exq C cs d R) else none) (G.st q1) (G.fr q1) G.g.tk G.g.ok.K G.g.ok.nd (by rw [G.g.N]; exact slotOf_eq hi) (show X.env.scope.names.lookup n = some .local by rw [G.g.sc]; exact q6) hN hI q4 (sc0 q5) hx hr
          (fun W' pn xe tk hp => by rw [scO_any (X' := X.tr pn xe) q0]; exact ss_snd hS (good_tr q0 G tk hp) hr hB)
          (fun d gg D a oe pn hd hm hz hv => by
            by_cases q : clsHas R d = true
            · rw [if_pos q] at hd
              cases hd
              exact cls_snd hS G hr hm hz hv hR q
            · rw [if_neg q] at hd; cases hd)
      · cases h
    · split at h
      case h_2 =>
        simp only [Option.bind_eq_some_iff] at h
        obtain ⟨R, hR, h⟩ := h
        split at h
        · rename_i hc
          simp only [Bool.and_eq_true] at hc
          have q0 : S.exn = none := Option.isNone_iff_eq_none.mp hc.1
          cases h
          exact js_try_m (G.st hc.2) (G.fr hc.2) G.g.ok.nd G.g.tk (fun W' pn xe tk hp => by rw [scO_any (X' := X.tr pn xe) q0]; exact ss_snd hS (good_tr q0 G tk hp) hr hB) (hm_snd q0 hS G hr hR)
        · cases h
      rename_i R hR
      split at h
      · rename_i hc
        simp only [Bool.and_eq_true] at hc
        have q0 : S.exn = none := Option.isNone_iff_eq_none.mp hc.1
        cases h
        exact js_try (G.st hc.2) (G.fr hc.2) G.g.tk (fun W' pn xe tk hp => by rw [scO_any (X' := X.tr pn xe) q0]; exact ss_snd hS (good_tr q0 G tk hp) hr hB) (hs_snd q0 hS G hr hR)
      · cases h
  · cases h
def trS (rM : RM) (ne : Nat) : Nat → RS
  | 0 => fun _ _ _ _ => none
  | n + 1 => stepS (tr rM ne).1 (tr rM ne).2 (trS rM ne n)
theorem trS_snd {rM : RM} (hM : SndM Y C cs k rM) (ne : Nat) : ∀ n : Nat, SndS Y C cs k (trS rM ne n)
  | 0 => fun S nr fr st B h => by cases h
  | n + 1 => stepS_snd (tr_snd hM ne).1 (tr_snd hM ne).2 (trS_snd hM ne n)
end
end VF
set_option Elab.async false
set_option maxRecDepth 100000
set_option maxHeartbeats 4000000
namespace VF
open PySem PySem.Spec PyProof.Rows L2
/-- what is told of a def: its name, its place, its slots, how many parameters, how many of them by reference, whether what it gives back is new, the slots that own lists -/
structure Row where
  name : Str
  at_ : Nat
  N : List Str
  np : Nat
  nr : Nat
  fr : Bool
  ms : List Nat
  lam : Bool
/-- what is told of a program -/
structure Pg where
  rows : List Row
  free : List Str
  globs : List (Str × Int)
  kl : List (Str × List Str)
  ecls : List Str
  hcl : List Str
  isx : List ((Str × Str) × Bool)
  asc : List (Str × List Str)
def Row.sig (r : Row) : Sig := ⟨r.N.take r.np, r.nr, r.fr⟩
def Pg.sig (p : Pg) (x : Str) : Option Sig := if x = "law" then none else (p.rows.find? fun r => decide (r.name = x)).map Row.sig
def Pg.glob (p : Pg) (x : Str) : Option PyData := (p.globs.lookup x).map .int
def Pg.sx (p : Pg) (r : Row) (sc : Scope) (law : Bool) : Sx := ⟨r.N, sc, fun _ => true, fun i => r.ms.contains i, law, true, p.free, p.sig, p.glob, p.kl, p.ecls, p.hcl, r.lam, true, none, p.isx, fun hc => (p.asc.lookup hc).getD []⟩
def Pg.tr (p : Pg) (rm : RM) (r : Row) (sc : Scope) (body : List Stmt) (law : Bool) : Option Ss := trSs (trS rm 60 60 (p.sx r sc law) r.nr r.fr) body
end VF
set_option Elab.async false
set_option maxRecDepth 100000
set_option maxHeartbeats 4000000
namespace VF
open PySem PySem.Spec PyProof.Rows L2
section
variable {P : Program} {w : World} {A : Around} {s : Shared} {E : Value → Shared → Prop}
/-- lambda k: t[k], called at an int -/
theorem lam_call {Q : Value → Shared → Prop} {f c' cR lr : Addr} {qual R kx : Str} {params : Arguments} {p1 p2 p3 : Pos} {scope : Scope} {cl : List (Str × Addr)} {pm ctv : Value} {its : List Value} {i : Int} {t : Tok} {j : Nat} {u : Value}
    (hroom : A.depth < recursionLimit) (of1 : s.heap.get? f = some (PySem.W.kla_obj "<lambda>" qual params (.Subscript (.Name R p1) (.Name kx p2) p3) scope cl pm c' ctv)) (hc' : ∃ oc vs t, s.heap.get? c' = some oc ∧ oc.data = .fields vs ∧ vs[1]? = some (.str qual t))
    (nl : s.heap.NoLimit) (co : scope.isCoroutine = false) (gen : scope.isGenerator = false) (kind : scope.kind = .function) (hcell : ∀ y ∈ scope.names, y.2 ≠ .cell) (hk : scope.names.lookup kx = some .local) (hR : scope.names.lookup R = some .free) (hcl : cl.lookup R = some cR)
    (hcr : s.heap.IsCell cR (some (.ref lr))) (pl : IsTup s.heap lr its.toArray) (hsz : its.length ≤ sizeLine) (hlo : -(2 ^ 63) ≤ i) (hhi : i < 2 ^ 63) (hj : seqIndex? i its.length = some j) (hu : its[j]? = some u)
    (hbind : ∀ v, bindArgs (PySem.W.kla_fn "<lambda>" qual params (.Subscript (.Name R p1) (.Name kx p2) p3) scope cl pm (.ref c') ctv) ⟨[v], []⟩ = pure [(kx, v)])
    (d1 : (kx == ("__debug__" : Str)) = false) (d2 : (R == ("__debug__" : Str)) = false) (d3 : (R == ("__classdict__" : Str)) = false)
    (h : ∀ h' tk, (∀ b o, s.heap.get? b = some o → h'.get? b = some o) → s.toks ≤ tk → Q u { s with heap := h', toks := tk }) : wpAny (model P w) A (call (.ref f) [.int i t]) Q E s := by
  refine wpAny_call (codeAny_mono (?_ : codeAny (model P w) A (.call (.ref f) ⟨[.int i t], []⟩) (fun r s' => ∃ v, r = .ok (.ret v) ∧ Q v s') s) fun r s' hq => ?_)
  · obtain ⟨oc, vs, tq, hoc, hdc, hvc⟩ := hc'
    refine PySem.W.kla_callFunE hroom of1 rfl co gen rfl ⟨c', oc, vs, tq, rfl, hoc, hdc, hvc⟩ ?_
    rw [hbind]
    refine wpAny_pure (wpAny_newFunctionEnv hcell (fun y hy => ?_) (fun h₁ hns hsb => ⟨nl.fresh _ hsb, ?_⟩) kind)
    · rw [List.mem_singleton.mp hy]
      exact hk
    · have kp : ∀ b o, s.heap.get? b = some o → h₁.get? b = some o := fun b o e => hsb.extBut b o (Nat.ne_of_lt (Heap.lt_size e)) (Heap.get?_push_of_some _ e)
      refine PySem.W.kla_codeExpr ?_
      obtain ⟨oR, hoR, hdR⟩ := hcr
      refine Subscript_ (wpAny_Name (wpAny_loadName_free kind hR hcl ⟨oR, kp _ _ hoR, hdR⟩ (wpAny_Name (wpAny_loadName_local kind hk hns (v := .int i t) ?_ ?_) d1) d3) d2)
      · show (List.reverse [(kx, Value.int i t)]).lookup kx = _
        simp
      · have pl' : IsTup h₁ lr its.toArray := let ⟨o, ho, hc, n, hd⟩ := pl; ⟨o, kp _ _ ho, hc, n, hd⟩
        refine subscriptTail_builtinR (x := u) pl'.typeIs slot_tuple_getitem.lookup (getItem_tuple pl' hlo hhi (by rw [List.size_toArray]; exact hj) (by simpa using hu) ⟨rfl, ⟨u, rfl, ?_⟩⟩) rfl
        exact h h₁ _ kp (Nat.le_add_right _ _)
  · obtain ⟨v, rfl, q⟩ := hq
    exact q
theorem rcGt_int {a c : Int} {t u : Tok} {Q : Value → Shared → Prop} (h : Q (.bool (decide (a > c))) s) : wpAny (model P w) A (richCompare .Gt (.int a t) (.int c u)) Q E s :=
  (PyProof.Rows.gt_int h : wpAny (model P w) A (compareOp .Gt (.int a t) (.int c u)) Q E s)
/-- max(t, key=f) where f tells whole numbers -/
theorem max_key {Q : Value → Shared → Prop} {l f : Addr} {vs : List Value} (rk : Nat → Int) (hh : A.handled = none) (hl : s.heap.IsList l vs.toArray ∨ s.heap.IsTuple l vs.toArray) (hn : 0 < vs.length)
    (hrun : ∀ (s' : Shared) (i : Nat) (v : Value) (Q : Value → Shared → Prop) (E : Value → Shared → Prop), (∃ h1 tk1, s' = { s with heap := h1, toks := tk1 }) → (∀ b o, s.heap.get? b = some o → s'.heap.get? b = some o) → vs[i]? = some v →
      (∀ h' tk t, (∀ b o, s'.heap.get? b = some o → h'.get? b = some o) → s'.toks ≤ tk → Q (.int (rk i) t) { s' with heap := h', toks := tk }) → wpAny (model P w) A.in1 (call (.ref f) [v]) Q E s')
    (h : ∀ h' tk v, (∀ b o, s.heap.get? b = some o → h'.get? b = some o) → vs[argBest (fun i j => decide (rk i > rk j)) (vs.length - 1)]? = some v → Q v { s with heap := h', toks := tk }) :
    wpAny (model P w) A (call (.builtin "max") [.ref l] [(Str.ofString "key", .ref f)]) Q E s := by
  have key : ∀ (S : Addr) (St : Nat → Shared → Prop), s.heap.objs.size ≤ S → (∀ i (s' : Shared) h' tk, St i s' → s'.toks ≤ tk → (∀ b o, s'.heap.get? b = some o → h'.get? b = some o) → St i { s' with heap := h', toks := tk }) →
      KeyRun P w A.in1 (.ref f) .Gt S [s.heap.objs.size] (fun a b => b = a) vs.toArray.size (fun i v => vs.toArray[i]? = some v) St (fun s' => ∃ h' tk, s' = { s with heap := h', toks := tk } ∧ ∀ b o, s.heap.get? b = some o → h'.get? b = some o) (fun i k _ => ∃ t, k = .int (rk i) t) (fun i j => decide (rk i > rk j)) := fun S St hS hSt => by
    refine ⟨fun s1 s2 j m => ?_, fun i k s1 s2 v _ => v, fun i v s1 o Q E hi hP j hst hS1 q => ?_, fun i j ki kj s1 Q E _ h1 h2 q => ?_⟩
    · obtain ⟨h', tk, rfl, kp⟩ := j
      obtain ⟨hp, g, d, tk2, os⟩ := s2
      have e1 : g = s.gens := m.gens
      have e2 : d = s.drawn := m.drawn
      have e3 : os = s.os := m.os
      subst e1 e2 e3
      refine ⟨hp, tk2, rfl, fun b o e => m.heap b o (fun hb => ?_) (kp b o e)⟩
      have hlt := Heap.lt_size e
      rcases List.mem_cons.mp hb with z | z
      · exact absurd (Nat.lt_of_lt_of_le (z ▸ hlt) hS) (Nat.lt_irrefl _)
      · rw [List.mem_singleton.mp z] at hlt; exact absurd hlt (Nat.lt_irrefl _)
    · obtain ⟨h', tk, rfl, kp⟩ := j
      refine hrun _ i v Q E ⟨h', tk, rfl⟩ kp (by simpa using hP) fun h2 tk2 t k2 ht => ?_
      exact q _ _ ⟨h2, tk2, rfl, fun b o e => k2 b o (kp b o e)⟩ (hSt _ _ h2 tk2 hst ht k2) (k2 S o hS1) ⟨t, rfl⟩ fun j k' z => z
    · obtain ⟨t1, rfl⟩ := h1
      obtain ⟨t2, rfl⟩ := h2
      exact rcGt_int q
  refine call_max_walkK ?_
  have hh1 : A.in1.handled = none := hh
  rcases hl with hl | hl
  · refine PySem.W.iter_listW hh1 hl fun s₂ e W st fpk _ old => ?_
    refine ⟨_, _, _, _, _, _, _, _, _, _, rfl, W, st, fpk, by simpa using hn, key _ _ ?_ (fun i s' h' tk z ht kp => W.frame i s' h' tk z ht fun b _ o e => kp b o e), ⟨s₂.heap, s₂.toks, by subst e; rfl, old⟩, fun v s' hP j => ?_⟩
    · subst e
      show _ ≤ (s.heap.push _).objs.size
      rw [Heap.size_push]
      omega
    · obtain ⟨h', tk, rfl, kp⟩ := j
      exact h h' tk v kp (by simpa using hP)
  · refine PySem.W.iter_tupleW hh1 hl fun s₂ e W st fpk _ old => ?_
    refine ⟨_, _, _, _, _, _, _, _, _, _, rfl, W, st, fpk, by simpa using hn, key _ _ ?_ (fun i s' h' tk z ht kp => W.frame i s' h' tk z ht fun b _ o e => kp b o e), ⟨s₂.heap, s₂.toks, by subst e; rfl, old⟩, fun v s' hP j => ?_⟩
    · subst e
      show _ ≤ (s.heap.push _).objs.size
      rw [Heap.size_push]
      omega
    · obtain ⟨h', tk, rfl, kp⟩ := j
      exact h h' tk v kp (by simpa using hP)
/-- the same with default=None -/
theorem max_keyD {Q : Value → Shared → Prop} {l f : Addr} {vs : List Value} (rk : Nat → Int) (hh : A.handled = none) (hl : s.heap.IsList l vs.toArray ∨ s.heap.IsTuple l vs.toArray) 
    (hrun : ∀ (s' : Shared) (i : Nat) (v : Value) (Q : Value → Shared → Prop) (E : Value → Shared → Prop), (∃ h1 tk1, s' = { s with heap := h1, toks := tk1 }) → (∀ b o, s.heap.get? b = some o → s'.heap.get? b = some o) → vs[i]? = some v →
      (∀ h' tk t, (∀ b o, s'.heap.get? b = some o → h'.get? b = some o) → s'.toks ≤ tk → Q (.int (rk i) t) { s' with heap := h', toks := tk }) → wpAny (model P w) A.in1 (call (.ref f) [v]) Q E s')
    (h0 : vs.length = 0 → ∀ h' tk, (∀ b o, s.heap.get? b = some o → h'.get? b = some o) → Q .none { s with heap := h', toks := tk })
    (h : 0 < vs.length → ∀ h' tk v, (∀ b o, s.heap.get? b = some o → h'.get? b = some o) → vs[argBest (fun i j => decide (rk i > rk j)) (vs.length - 1)]? = some v → Q v { s with heap := h', toks := tk }) :
    wpAny (model P w) A (call (.builtin "max") [.ref l] [(Str.ofString "key", .ref f), (Str.ofString "default", .none)]) Q E s := by
  have key : ∀ (S : Addr) (St : Nat → Shared → Prop), s.heap.objs.size ≤ S → (∀ i (s' : Shared) h' tk, St i s' → s'.toks ≤ tk → (∀ b o, s'.heap.get? b = some o → h'.get? b = some o) → St i { s' with heap := h', toks := tk }) →
      KeyRun P w A.in1 (.ref f) .Gt S [s.heap.objs.size] (fun a b => b = a) vs.toArray.size (fun i v => vs.toArray[i]? = some v) St (fun s' => ∃ h' tk, s' = { s with heap := h', toks := tk } ∧ ∀ b o, s.heap.get? b = some o → h'.get? b = some o) (fun i k _ => ∃ t, k = .int (rk i) t) (fun i j => decide (rk i > rk j)) := fun S St hS hSt => by
    refine ⟨fun s1 s2 j m => ?_, fun i k s1 s2 v _ => v, fun i v s1 o Q E hi hP j hst hS1 q => ?_, fun i j ki kj s1 Q E _ h1 h2 q => ?_⟩
    · obtain ⟨h', tk, rfl, kp⟩ := j
      obtain ⟨hp, g, d, tk2, os⟩ := s2
      have e1 : g = s.gens := m.gens
      have e2 : d = s.drawn := m.drawn
      have e3 : os = s.os := m.os
      subst e1 e2 e3
      refine ⟨hp, tk2, rfl, fun b o e => m.heap b o (fun hb => ?_) (kp b o e)⟩
      have hlt := Heap.lt_size e
      rcases List.mem_cons.mp hb with z | z
      · exact absurd (Nat.lt_of_lt_of_le (z ▸ hlt) hS) (Nat.lt_irrefl _)
      · rw [List.mem_singleton.mp z] at hlt; exact absurd hlt (Nat.lt_irrefl _)
    · obtain ⟨h', tk, rfl, kp⟩ := j
      refine hrun _ i v Q E ⟨h', tk, rfl⟩ kp (by simpa using hP) fun h2 tk2 t k2 ht => ?_
      exact q _ _ ⟨h2, tk2, rfl, fun b o e => k2 b o (kp b o e)⟩ (hSt _ _ h2 tk2 hst ht k2) (k2 S o hS1) ⟨t, rfl⟩ fun j k' z => z
    · obtain ⟨t1, rfl⟩ := h1
      obtain ⟨t2, rfl⟩ := h2
      exact rcGt_int q
  refine call_max_walkKD ?_
  have hh1 : A.in1.handled = none := hh
  rcases hl with hl | hl
  · refine PySem.W.iter_listW hh1 hl fun s₂ e W st fpk _ old => ?_
    refine ⟨_, _, _, _, _, _, _, _, _, _, rfl, W, st, fpk, key _ _ ?_ (fun i s' h' tk z ht kp => W.frame i s' h' tk z ht fun b _ o e => kp b o e), ⟨s₂.heap, s₂.toks, by subst e; rfl, old⟩, fun hn s' j => ?_, fun hn v s' hP j => ?_⟩
    · subst e
      show _ ≤ (s.heap.push _).objs.size
      rw [Heap.size_push]
      omega
    · obtain ⟨h', tk, rfl, kp⟩ := j
      exact h0 (by simpa using hn) h' tk kp
    · obtain ⟨h', tk, rfl, kp⟩ := j
      exact h (by simpa using hn) h' tk v kp (by simpa using hP)
  · refine PySem.W.iter_tupleW hh1 hl fun s₂ e W st fpk _ old => ?_
    refine ⟨_, _, _, _, _, _, _, _, _, _, rfl, W, st, fpk, key _ _ ?_ (fun i s' h' tk z ht kp => W.frame i s' h' tk z ht fun b _ o e => kp b o e), ⟨s₂.heap, s₂.toks, by subst e; rfl, old⟩, fun hn s' j => ?_, fun hn v s' hP j => ?_⟩
    · subst e
      show _ ≤ (s.heap.push _).objs.size
      rw [Heap.size_push]
      omega
    · obtain ⟨h', tk, rfl, kp⟩ := j
      exact h0 (by simpa using hn) h' tk kp
    · obtain ⟨h', tk, rfl, kp⟩ := j
      exact h (by simpa using hn) h' tk v kp (by simpa using hP)
end
end VF
set_option Elab.async false
set_option maxRecDepth 100000
set_option maxHeartbeats 4000000
namespace VF
open PySem PySem.Spec PyProof.Rows L2
def lamP (kx : Str) (ap : Pos) : Arguments := ⟨[], [⟨kx, none, ap⟩], none, [], [], none, []⟩
def kxOk (kx : Str) : Bool := decide (kx = "key") || decide (kx = "member")
theorem lam_bind {kx qual : Str} {ap : Pos} {body : Expr} {scope : Scope} {cl : List (Str × Addr)} {pm cdv ctv v : Value} (h : kxOk kx = true) : bindArgs (PySem.W.kla_fn "<lambda>" qual (lamP kx ap) body scope cl pm cdv ctv) ⟨[v], []⟩ = pure [(kx, v)] := by
  unfold kxOk at h
  simp only [Bool.or_eq_true, decide_eq_true_eq] at h
  rcases h with rfl | rfl <;> rfl
/-- the lambda's names -/
def lamSc (sc scope : Scope) (R kx : Str) : Bool :=
  decide (scope.kind = .function) && !scope.isCoroutine && !scope.isGenerator && (scope.names.all fun y => !decide (y.2 = .cell)) && decide (scope.names.lookup kx = some .local) && decide (scope.names.lookup R = some .free) &&
    (scope.names.all fun y => !decide (y.2 = .free) || decide (sc.names.lookup y.1 = some .cell) || decide (sc.names.lookup y.1 = some .free)) && !(kx == ("__debug__" : Str)) && !(R == ("__debug__" : Str)) && !(R == ("__classdict__" : Str)) &&
    (decide (sc.names.lookup R = some .cell) || decide (sc.names.lookup R = some .free))
def kMaxk (K : PySem.W.Frag) (T : List (Addr × Str)) (lr : Addr) (Q : VK) (x : V) (H1 : Hp) : Prop := LamX.Tabs T H1 ∧ ∃ (l : Addr) (rvs : List V) (ns rs : List Int), x = .ref l ∧ SqT K H1 lr rvs ∧
  (SqL K H1 l (ns.map V.int) ∨ SqT K H1 l (ns.map V.int)) ∧ 0 < ns.length ∧ rs.length = ns.length ∧ (∀ (j : Nat) (i k : Int), ns[j]? = some i → rs[j]? = some k → atI rvs i = some (.int k)) ∧ ∀ H2, LamX.ExtN H1 H2 → LamX.Tabs T H2 → Q (.int (bestI ns rs)) H2
def tMaxk (K : PySem.W.Frag) (T : List (Addr × Str)) (r : Nat) (ta : TE) : TE := fun σ H Q => ∃ (lr : Addr), σ[r]? = some (some (.ref lr)) ∧ ta σ H fun x H1 => kMaxk K T lr Q x H1
def kMaxkD (K : PySem.W.Frag) (T : List (Addr × Str)) (lr : Addr) (Q : VK) (x : V) (H1 : Hp) : Prop := LamX.Tabs T H1 ∧ ∃ (l : Addr) (rvs : List V) (ns rs : List Int), x = .ref l ∧ SqT K H1 lr rvs ∧
  (SqL K H1 l (ns.map V.int) ∨ SqT K H1 l (ns.map V.int)) ∧ rs.length = ns.length ∧ (∀ (j : Nat) (i k : Int), ns[j]? = some i → rs[j]? = some k → atI rvs i = some (.int k)) ∧ ∀ H2, LamX.ExtN H1 H2 → LamX.Tabs T H2 → Q (if ns.isEmpty then .non else .int (bestI ns rs)) H2
def tMaxkD (K : PySem.W.Frag) (T : List (Addr × Str)) (r : Nat) (ta : TE) : TE := fun σ H Q => ∃ (lr : Addr), σ[r]? = some (some (.ref lr)) ∧ ta σ H fun x H1 => kMaxkD K T lr Q x H1
theorem SqL.extN {K : PySem.W.Frag} {H H1 : Hp} {a : Addr} {vs : List V} (h : SqL K H a vs) (e : LamX.ExtN H H1) : SqL K H1 a vs := h.elim (fun z => .inl (z.elim (fun q => .inl (e _ _ q fun ps z => by cases z)) fun ⟨o, q⟩ => .inr ⟨o, e _ _ q fun ps z => by cases z⟩)) .inr
theorem SqT.extN {K : PySem.W.Frag} {H H1 : Hp} {a : Addr} {vs : List V} (h : SqT K H a vs) (e : LamX.ExtN H H1) : SqT K H1 a vs := h.elim (fun z => .inl (z.elim (fun q => .inl (e _ _ q fun ps z => by cases z)) fun ⟨o, q⟩ => .inr ⟨o, e _ _ q fun ps z => by cases z⟩)) .inr
section
variable {Y : Sys} {M : MM} {sc : SC} {W : WX} {X : Cx} {σ : L2.St} {H H1 : Hp} {k : Nat}
variable {a : Expr} {f : Env → Out PyData} {za : St} {p pos kpos : Pos}
theorem pe_maxk {ta : TE} {r : Nat} {R kx : Str} {c P : Addr} {p1 p2 p3 ap lp : Pos} {scope : Scope} {T : List (Addr × Str)} (hroom : X.A.depth < recursionLimit) (hc : X.calm = true) (TB : LamX.TabB X.base X.mg c P) (hcode : X.env.code = .ref c) (hm : (P, X.env.qual ++ "<lambda>") ∈ T) (hu : ∀ q ∈ T, q.1 = P → q.2 = X.env.qual ++ "<lambda>")
    (hg : Gl X "max") (hmx : X.mg "max" = none) (hN : X.N[r]? = some R) (hls : lamSc X.env.scope scope R kx = true) (hkx : kxOk kx = true) (hst : starEach [a] X.env = (false, eval a X.env) :: starEach [] X.env) (ha : PE X a ta) :
    PE X (.Call (.Name "max" p) [a] [⟨some "key", .Lambda (lamP kx ap) (.Subscript (.Name R p1) (.Name kx p2) p3) scope lp, kpos⟩] pos) (tMaxk X.K T r ta) := by
  unfold lamSc at hls
  simp only [Bool.and_eq_true, Bool.or_eq_true, Bool.not_eq_true', decide_eq_true_eq, decide_eq_false_iff_not, List.all_eq_true] at hls
  obtain ⟨⟨⟨⟨⟨⟨⟨⟨⟨⟨l1, l2⟩, l3⟩, l4⟩, l5⟩, l6⟩, l7⟩, l8⟩, l9⟩, l10⟩, l11⟩ := hls
  refine ⟨fun pins s σ H Q I h => ?_⟩
  obtain ⟨lr, hr, h⟩ := h
  refine wpAny_Call_Name_kw (ld_blt I hg hmx boot_max ?_ (by decide))
  refine PyProof.Rows.callWith_kw ?_ (by rw [hst]; rfl) (by rw [hst]; rfl) rfl rfl
  refine thn ((pa_one ha hst).run pos pins s σ H (fun vs H1 => match vs with | [x] => kMaxk X.K T lr Q x H1 | _ => False) I h) fun us s1 hv => ?_
  obtain ⟨vs1, H1, I1, r1, hQ⟩ := hv
  cases r1 with
  | nil => exact hQ.elim
  | cons ru rt =>
    rename_i x u vt ut
    cases rt with
    | cons _ _ => exact hQ.elim
    | nil =>
      have hQ : kMaxk X.K T lr Q x H1 := hQ
      obtain ⟨hT, l, rvs, ns, rs, ev, hR, hL, hn, hrl, hrk, hfin⟩ := hQ
      subst ev
      obtain rfl : u = .ref l := ru
      have hfree : ∀ y ∈ scope.names, y.2 = .free → ∃ c, X.env.cells.lookup y.1 = some c := fun y hy e => by
        rcases l7 y hy with (z | z) | z
        · exact absurd e z
        · exact I.ok.has _ (.inl z)
        · exact I.ok.has _ (.inr z)
      show wpAny _ _ (evalAll [do let v ← eval (.Lambda (lamP kx ap) (.Subscript (.Name R p1) (.Name kx p2) p3) scope lp) X.env; standAt pos; pure v]) _ _ s1
      refine wpAny_evalAll_cons (wpAny_bind (LamX.lam_make2 I1 TB hcode hm hu hT rfl hfree fun fa c' pm ctv H2 s2 I2 hE hT2 hf hfn hfr hco => wpAny_bind (wpAny_standAt (wpAny_pure (wpAny_evalAll_nil ?_)))))
      show wpAny _ _ (call (.builtin "max") [.ref l] [(Str.ofString "key", .ref fa)]) _ _ s2
      -- what the lambda needs
      obtain ⟨⟨oc, vsc, tc, hoc, hdc, hvc⟩, _, _⟩ := I2.hok c' _ hco
      obtain ⟨m, hns, hl⟩ := I2.loc
      have hvis : Vis X.env.scope R := l11.elim (fun z => .inr (.inl z)) fun z => .inr (.inr z)
      obtain ⟨w', rw', look⟩ := hl r R (.ref lr) hN hr hvis
      obtain rfl : w' = .ref lr := rw'
      obtain ⟨cR, hcR, hcell⟩ : ∃ cR, X.env.cells.lookup R = some cR ∧ s2.heap.IsCell cR (some (.ref lr)) := by
        rcases look with ⟨hk, _⟩ | ⟨_, c, h1, h2⟩
        · have hk : X.env.scope.names.lookup R = some .local := hk
          rcases l11 with z | z <;> rw [z] at hk <;> cases hk
        · exact ⟨c, h1, h2⟩
      have hclo : (cloFrom X.env.cells scope.names []).lookup R = some cR := by
        have hy : (R, NameKind.free) ∈ scope.names := PySem.mem_of_lookup l6
        obtain ⟨c1, h1⟩ := mem_lookup (cloFrom_has (cells := X.env.cells) (acc := []) hy)
        rcases cloFrom_mem (PySem.mem_of_lookup h1) with z | ⟨_, z⟩
        · cases z
        · rw [h1, z, hcR]; rfl
      obtain ⟨its, rv, pt, hz⟩ := I2.tuple (VF.SqT.extN hR hE)
      have seqs : ∃ vs : List Value, Vals (ns.map V.int) vs ∧ (s2.heap.IsList l vs.toArray ∨ s2.heap.IsTuple l vs.toArray) := by
        rcases hL with hL | hL
        · obtain ⟨vs, r2, pl, _⟩ := I2.list (VF.SqL.extN hL hE)
          exact ⟨vs, r2, .inl pl.isList⟩
        · obtain ⟨vs, r2, pl, _⟩ := I2.tuple (VF.SqT.extN hL hE)
          exact ⟨vs, r2, .inr pl⟩
      obtain ⟨vs, rvs2, hseq⟩ := seqs
      have hlen : vs.length = ns.length := by rw [← rvs2.length, List.length_map]
      refine max_key (fun j => rs.getD j 0) (I2.ok.hd hc) hseq (by omega) (fun s' j v Q' E' hs' kp hv hq => ?_) fun h' tk v kp hv => ?_
      · obtain ⟨h1, tk1, rfl⟩ := hs'
        have hj : j < ns.length := by rw [← hlen]; exact (List.getElem?_eq_some_iff.mp hv).1
        have hnj : ns[j]? = some ns[j] := List.getElem?_eq_getElem hj
        have hrj : rs[j]? = some (rs[j]'(by omega)) := List.getElem?_eq_getElem (by omega)
        obtain ⟨u2, e2, r2⟩ := rvs2.get (i := j) (x := .int ns[j]) (by rw [List.getElem?_map, hnj]; rfl)
        rw [hv] at e2
        cases e2
        obtain ⟨t2, rfl⟩ := r2
        obtain ⟨j', q1, q2, q3, q4, q5⟩ := atI_get (hrk j _ _ hnj hrj)
        obtain ⟨w2, e3, r3⟩ := rv.get q2
        obtain ⟨t3, rfl⟩ := r3
        have hl2 := rv.length
        have hl63 := line63
        have pt' : IsTup h1 lr its.toArray := let ⟨o, ho, hcc, n, hd⟩ := pt; ⟨o, kp _ _ ho, hcc, n, hd⟩
        have eg : rs.getD j 0 = rs[j]'(by omega) := by rw [List.getD_eq_getElem?_getD, hrj]; rfl
        obtain ⟨oR, hoR, hdR⟩ := hcell
        refine lam_call (s := ⟨h1, s2.gens, s2.drawn, tk1, s2.os⟩) (A := X.A.in1) (lr := lr) (its := its) (j := j') (u := .int (rs[j]'(by omega)) t3) hroom (kp _ _ hf) ⟨oc, vsc, tc, kp _ _ hoc, hdc, hvc⟩ (I2.nolimit.keeps kp) l2 l3 l1 l4 l5 l6 hclo ⟨oR, kp _ _ hoR, hdR⟩ pt' (by omega) (by omega) (by omega) (by rw [← hl2]; exact q1) (by simpa using e3) (fun v => lam_bind hkx) l8 l9 l10 fun h' tk kp2 ht => ?_
        have := hq h' tk t3 kp2 ht
        rw [eg] at this
        exact this
      · have hb := hv
        rw [hlen] at hb
        have hbl := (List.getElem?_eq_some_iff.mp hb).1
        rw [hlen] at hbl
        obtain ⟨u2, e2, r2⟩ := rvs2.get (i := argBest (fun i j => decide (rs.getD i 0 > rs.getD j 0)) (ns.length - 1)) (x := .int (bestI ns rs)) (by
          rw [List.getElem?_map, List.getElem?_eq_getElem hbl]
          unfold bestI
          rw [List.getD_eq_getElem?_getD, List.getElem?_eq_getElem hbl]
          rfl)
        rw [hb] at e2
        cases e2
        exact ⟨_, H2, I2.kept kp, r2, hfin H2 hE hT2⟩
theorem pe_maxkD {ta : TE} {r : Nat} {R kx : Str} {c P : Addr} {p1 p2 p3 ap lp dpos dp2 : Pos} {dj : Nat} {scope : Scope} {T : List (Addr × Str)} (hroom : X.A.depth < recursionLimit) (hc : X.calm = true) (TB : LamX.TabB X.base X.mg c P) (hcode : X.env.code = .ref c) (hm : (P, X.env.qual ++ "<lambda>") ∈ T) (hu : ∀ q ∈ T, q.1 = P → q.2 = X.env.qual ++ "<lambda>")
    (hg : Gl X "max") (hmx : X.mg "max" = none) (hN : X.N[r]? = some R) (hls : lamSc X.env.scope scope R kx = true) (hkx : kxOk kx = true) (hst : starEach [a] X.env = (false, eval a X.env) :: starEach [] X.env) (ha : PE X a ta) :
    PE X (.Call (.Name "max" p) [a] [⟨some "key", .Lambda (lamP kx ap) (.Subscript (.Name R p1) (.Name kx p2) p3) scope lp, kpos⟩, ⟨some "default", .Constant .none dj dp2, dpos⟩] pos) (tMaxkD X.K T r ta) := by
  unfold lamSc at hls
  simp only [Bool.and_eq_true, Bool.or_eq_true, Bool.not_eq_true', decide_eq_true_eq, decide_eq_false_iff_not, List.all_eq_true] at hls
  obtain ⟨⟨⟨⟨⟨⟨⟨⟨⟨⟨l1, l2⟩, l3⟩, l4⟩, l5⟩, l6⟩, l7⟩, l8⟩, l9⟩, l10⟩, l11⟩ := hls
  refine ⟨fun pins s σ H Q I h => ?_⟩
  obtain ⟨lr, hr, h⟩ := h
  refine wpAny_Call_Name_kw (ld_blt I hg hmx boot_max ?_ (by decide))
  refine PyProof.Rows.callWith_kw ?_ (by rw [hst]; rfl) (by rw [hst]; rfl) rfl rfl
  refine thn ((pa_one ha hst).run pos pins s σ H (fun vs H1 => match vs with | [x] => kMaxkD X.K T lr Q x H1 | _ => False) I h) fun us s1 hv => ?_
  obtain ⟨vs1, H1, I1, r1, hQ⟩ := hv
  cases r1 with
  | nil => exact hQ.elim
  | cons ru rt =>
    rename_i x u vt ut
    cases rt with
    | cons _ _ => exact hQ.elim
    | nil =>
      have hQ : kMaxkD X.K T lr Q x H1 := hQ
      obtain ⟨hT, l, rvs, ns, rs, ev, hR, hL, hrl, hrk, hfin⟩ := hQ
      subst ev
      obtain rfl : u = .ref l := ru
      have hfree : ∀ y ∈ scope.names, y.2 = .free → ∃ c, X.env.cells.lookup y.1 = some c := fun y hy e => by
        rcases l7 y hy with (z | z) | z
        · exact absurd e z
        · exact I.ok.has _ (.inl z)
        · exact I.ok.has _ (.inr z)
      show wpAny _ _ (evalAll [do let v ← eval (.Lambda (lamP kx ap) (.Subscript (.Name R p1) (.Name kx p2) p3) scope lp) X.env; standAt pos; pure v, do let v ← eval (.Constant .none dj dp2) X.env; standAt pos; pure v]) _ _ s1
      refine wpAny_evalAll_cons (wpAny_bind (LamX.lam_make2 I1 TB hcode hm hu hT rfl hfree fun fa c' pm ctv H2 s2 I2 hE hT2 hf hfn hfr hco => wpAny_bind (wpAny_standAt (wpAny_pure (wpAny_evalAll_cons (wpAny_bind (wpAny_pure (wpAny_bind (wpAny_standAt (wpAny_pure (wpAny_evalAll_nil ?_)))))))))))
      show wpAny _ _ (call (.builtin "max") [.ref l] [(Str.ofString "key", .ref fa), (Str.ofString "default", .none)]) _ _ s2
      -- what the lambda needs
      obtain ⟨⟨oc, vsc, tc, hoc, hdc, hvc⟩, _, _⟩ := I2.hok c' _ hco
      obtain ⟨m, hns, hl⟩ := I2.loc
      have hvis : Vis X.env.scope R := l11.elim (fun z => .inr (.inl z)) fun z => .inr (.inr z)
      obtain ⟨w', rw', look⟩ := hl r R (.ref lr) hN hr hvis
      obtain rfl : w' = .ref lr := rw'
      obtain ⟨cR, hcR, hcell⟩ : ∃ cR, X.env.cells.lookup R = some cR ∧ s2.heap.IsCell cR (some (.ref lr)) := by
        rcases look with ⟨hk, _⟩ | ⟨_, c, h1, h2⟩
        · have hk : X.env.scope.names.lookup R = some .local := hk
          rcases l11 with z | z <;> rw [z] at hk <;> cases hk
        · exact ⟨c, h1, h2⟩
      have hclo : (cloFrom X.env.cells scope.names []).lookup R = some cR := by
        have hy : (R, NameKind.free) ∈ scope.names := PySem.mem_of_lookup l6
        obtain ⟨c1, h1⟩ := mem_lookup (cloFrom_has (cells := X.env.cells) (acc := []) hy)
        rcases cloFrom_mem (PySem.mem_of_lookup h1) with z | ⟨_, z⟩
        · cases z
        · rw [h1, z, hcR]; rfl
      obtain ⟨its, rv, pt, hz⟩ := I2.tuple (VF.SqT.extN hR hE)
      have seqs : ∃ vs : List Value, Vals (ns.map V.int) vs ∧ (s2.heap.IsList l vs.toArray ∨ s2.heap.IsTuple l vs.toArray) := by
        rcases hL with hL | hL
        · obtain ⟨vs, r2, pl, _⟩ := I2.list (VF.SqL.extN hL hE)
          exact ⟨vs, r2, .inl pl.isList⟩
        · obtain ⟨vs, r2, pl, _⟩ := I2.tuple (VF.SqT.extN hL hE)
          exact ⟨vs, r2, .inr pl⟩
      obtain ⟨vs, rvs2, hseq⟩ := seqs
      have hlen : vs.length = ns.length := by rw [← rvs2.length, List.length_map]
      refine max_keyD (fun j => rs.getD j 0) (I2.ok.hd hc) hseq (fun s' j v Q' E' hs' kp hv hq => ?_) (fun h0 h' tk kp => ?_) fun hn h' tk v kp hv => ?_
      · obtain ⟨h1, tk1, rfl⟩ := hs'
        have hj : j < ns.length := by rw [← hlen]; exact (List.getElem?_eq_some_iff.mp hv).1
        have hnj : ns[j]? = some ns[j] := List.getElem?_eq_getElem hj
        have hrj : rs[j]? = some (rs[j]'(by omega)) := List.getElem?_eq_getElem (by omega)
        obtain ⟨u2, e2, r2⟩ := rvs2.get (i := j) (x := .int ns[j]) (by rw [List.getElem?_map, hnj]; rfl)
        rw [hv] at e2
        cases e2
        obtain ⟨t2, rfl⟩ := r2
        obtain ⟨j', q1, q2, q3, q4, q5⟩ := atI_get (hrk j _ _ hnj hrj)
        obtain ⟨w2, e3, r3⟩ := rv.get q2
        obtain ⟨t3, rfl⟩ := r3
        have hl2 := rv.length
        have hl63 := line63
        have pt' : IsTup h1 lr its.toArray := let ⟨o, ho, hcc, n, hd⟩ := pt; ⟨o, kp _ _ ho, hcc, n, hd⟩
        have eg : rs.getD j 0 = rs[j]'(by omega) := by rw [List.getD_eq_getElem?_getD, hrj]; rfl
        obtain ⟨oR, hoR, hdR⟩ := hcell
        refine lam_call (s := ⟨h1, s2.gens, s2.drawn, tk1, s2.os⟩) (A := X.A.in1) (lr := lr) (its := its) (j := j') (u := .int (rs[j]'(by omega)) t3) hroom (kp _ _ hf) ⟨oc, vsc, tc, kp _ _ hoc, hdc, hvc⟩ (I2.nolimit.keeps kp) l2 l3 l1 l4 l5 l6 hclo ⟨oR, kp _ _ hoR, hdR⟩ pt' (by omega) (by omega) (by omega) (by rw [← hl2]; exact q1) (by simpa using e3) (fun v => lam_bind hkx) l8 l9 l10 fun h' tk kp2 ht => ?_
        have := hq h' tk t3 kp2 ht
        rw [eg] at this
        exact this
      · have hne : ns = [] := List.length_eq_zero_iff.mp (by omega)
        have := hfin H2 hE hT2
        rw [hne] at this
        exact ⟨.non, H2, I2.kept kp, rfl, this⟩
      · have hb := hv
        rw [hlen] at hb hn
        have hbl := (List.getElem?_eq_some_iff.mp hb).1
        rw [hlen] at hbl
        obtain ⟨u2, e2, r2⟩ := rvs2.get (i := argBest (fun i j => decide (rs.getD i 0 > rs.getD j 0)) (ns.length - 1)) (x := .int (bestI ns rs)) (by
          rw [List.getElem?_map, List.getElem?_eq_getElem hbl]
          unfold bestI
          rw [List.getD_eq_getElem?_getD, List.getElem?_eq_getElem hbl]
          rfl)
        rw [hb] at e2
        cases e2
        have hem : ns.isEmpty = false := by cases ns with
          | nil => simp at hn
          | cons _ _ => rfl
        have := hfin H2 hE hT2
        rw [hem] at this
        exact ⟨_, H2, I2.kept kp, r2, this⟩
def evMaxk (f : Env → Out PyData) (r : Nat) (df : Bool) (env : Env) : Out PyData := (VF.lift (tupV env r) env).bind fun rds e0 => (f e0).bind fun x e1 => VF.lift (maxkD x rds df) e1
theorem rks_at {rds : List PyData} : ∀ {ns rs : List Int}, rksOf rds ns = some rs → rs.length = ns.length ∧ ∀ (j : Nat) (i k : Int), ns[j]? = some i → rs[j]? = some k → atI rds i = some (.int k)
  | [], rs, h => by cases h; exact ⟨rfl, fun j i k e => by simp at e⟩
  | n :: ns, rs, h => by
    simp only [rksOf, Option.bind_eq_some_iff, Option.map_eq_some_iff] at h
    obtain ⟨k0, h1, rs', h2, rfl⟩ := h
    obtain ⟨g1, g2⟩ := rks_at h2
    refine ⟨by simp [g1], fun j i k e1 e2 => ?_⟩
    cases j with
    | zero =>
      simp at e1 e2
      subst e1 e2
      split at h1
      · rename_i e; cases h1; exact e
      · cases h1
    | succ j => exact g2 j i k (by simpa using e1) (by simpa using e2)
theorem reps_atI {K : PySem.W.Frag} {F : Addr → Prop} {H : Hp} {rds : List PyData} {rvs : List V} {i k : Int} (r : Reps K F H rds rvs) (h : atI rds i = some (.int k)) : atI rvs i = some (.int k) := by
  obtain ⟨j, h1, h2⟩ := getElem_of_atI h
  obtain ⟨v, e, rv⟩ := r.get h1
  have ev : v = .int k := rv
  subst ev
  unfold atI
  rw [r.len, h2]
  exact e
theorem je_maxk {r : Nat} {R kx : Str} {c P : Addr} {p1 p2 p3 ap lp : Pos} {scope : Scope} (O : XOk Y k true X) (L : LamOk Y X c P) (hr : M r = false) (hg : Gl X "max") (hmx : X.mg "max" = none) (hN : X.N[r]? = some R) (hls : lamSc X.env.scope scope R kx = true) (hkx : kxOk kx = true)
    (hst : starEach [a] X.env = (false, eval a X.env) :: starEach [] X.env) (ja : JE Y M sc W X a f za) :
    JE Y M sc W X (.Call (.Name "max" p) [a] [⟨some "key", .Lambda (lamP kx ap) (.Subscript (.Name R p1) (.Name kx p2) p3) scope lp, kpos⟩] pos) (evMaxk f r false) ⟨za.mu, [], [], false⟩ := by
  obtain ⟨am, ta, pa, ja⟩ := ja
  have TB := L.tab
  rw [← O.base, ← O.mg] at TB
  refine ⟨am, _, pe_maxk (T := Y.T) (by have := (O.room rfl).toRoom.dp; omega) (O.calm rfl) TB L.code L.mem L.uniq hg hmx hN hls hkx hst pa, fun σ H env Q F Tb h => ?_⟩
  obtain ⟨rds, hrk, h⟩ := h.bind.lift
  unfold tupV at hrk
  obtain ⟨rk, hrk, h0⟩ := Option.bind_eq_some_iff.mp hrk
  have erk : rk = .tuple rds := by cases rk <;> cases h0; rfl
  subst erk
  clear h0
  obtain ⟨vr, hv, rr⟩ := F.val r _ (getV_some hrk) hr
  obtain ⟨lr, rvs, rfl, rt, rreps⟩ := rr
  refine ⟨lr, hv, ?_⟩
  refine ja σ H env _ F Tb (h.bind.imp fun x e1 h1 u H1 F1 k1 r1 _ => ?_)
  obtain ⟨z, ez, h2⟩ := h1.lift
  have h9 : VP Y M sc ⟨za.mu, [], [], false⟩ σ H Q z e1 := h2
  have kx : Keep (FX M [] σ) H H1 := k1.keep.mono fun a z => FL_M am a z
  unfold maxkD at ez
  simp only [Option.bind_eq_some_iff] at ez
  obtain ⟨ds, ei, ns, en, rs, er, ez⟩ := ez
  have ed := ints_map en
  subst ed
  obtain ⟨g1, g2⟩ := rks_at er
  cases ns with
  | nil => simp at ez
  | cons n ns =>
    simp at ez
    subst ez
    obtain ⟨l, vs, rfl, sq, rr⟩ := r1.items ei
    have ev := Reps.ints rr
    subst ev
    refine ⟨k1.tabs Tb, l, rvs, n :: ns, rs, rfl, O.K ▸ (rt.keep kx).sq, O.K ▸ sq, by simp, g1, fun j i k e1 e2 => reps_atI rreps (g2 j i k e1 e2), fun H2 hE hT2 => ?_⟩
    have k2 : Kp Y.T F0 H1 H2 := ⟨fun b o e _ nt => hE b o e nt, fun _ => hT2⟩
    exact h9 _ H2 (F1.grow k2.keep) (k1.trans k2.grow) rfl (fun z => by cases z)
theorem je_maxkD {r : Nat} {R kx : Str} {c P : Addr} {p1 p2 p3 ap lp dpos dp2 : Pos} {dj : Nat} {scope : Scope} (O : XOk Y k true X) (L : LamOk Y X c P) (hr : M r = false) (hg : Gl X "max") (hmx : X.mg "max" = none) (hN : X.N[r]? = some R) (hls : lamSc X.env.scope scope R kx = true) (hkx : kxOk kx = true)
    (hst : starEach [a] X.env = (false, eval a X.env) :: starEach [] X.env) (ja : JE Y M sc W X a f za) :
    JE Y M sc W X (.Call (.Name "max" p) [a] [⟨some "key", .Lambda (lamP kx ap) (.Subscript (.Name R p1) (.Name kx p2) p3) scope lp, kpos⟩, ⟨some "default", .Constant .none dj dp2, dpos⟩] pos) (evMaxk f r true) ⟨za.mu, [], [], false⟩ := by
  obtain ⟨am, ta, pa, ja⟩ := ja
  have TB := L.tab
  rw [← O.base, ← O.mg] at TB
  refine ⟨am, _, pe_maxkD (T := Y.T) (by have := (O.room rfl).toRoom.dp; omega) (O.calm rfl) TB L.code L.mem L.uniq hg hmx hN hls hkx hst pa, fun σ H env Q F Tb h => ?_⟩
  obtain ⟨rds, hrk, h⟩ := h.bind.lift
  unfold tupV at hrk
  obtain ⟨rk, hrk, h0⟩ := Option.bind_eq_some_iff.mp hrk
  have erk : rk = .tuple rds := by cases rk <;> cases h0; rfl
  subst erk
  clear h0
  obtain ⟨vr, hv, rr⟩ := F.val r _ (getV_some hrk) hr
  obtain ⟨lr, rvs, rfl, rt, rreps⟩ := rr
  refine ⟨lr, hv, ?_⟩
  refine ja σ H env _ F Tb (h.bind.imp fun x e1 h1 u H1 F1 k1 r1 _ => ?_)
  obtain ⟨z, ez, h2⟩ := h1.lift
  have h9 : VP Y M sc ⟨za.mu, [], [], false⟩ σ H Q z e1 := h2
  have kx : Keep (FX M [] σ) H H1 := k1.keep.mono fun a z => FL_M am a z
  unfold maxkD at ez
  simp only [Option.bind_eq_some_iff] at ez
  obtain ⟨ds, ei, ns, en, rs, er, ez⟩ := ez
  have ed := ints_map en
  subst ed
  obtain ⟨g1, g2⟩ := rks_at er
  simp at ez
  obtain ⟨l, vs, rfl, sq, rr⟩ := r1.items ei
  have ev := Reps.ints rr
  subst ev
  refine ⟨k1.tabs Tb, l, rvs, ns, rs, rfl, O.K ▸ (rt.keep kx).sq, O.K ▸ sq, g1, fun j i k e1 e2 => reps_atI rreps (g2 j i k e1 e2), fun H2 hE hT2 => ?_⟩
  have k2 : Kp Y.T F0 H1 H2 := ⟨fun b o e _ nt => hE b o e nt, fun _ => hT2⟩
  cases ns with
  | nil =>
    simp at ez
    subst ez
    exact h9 _ H2 (F1.grow k2.keep) (k1.trans k2.grow) rfl (fun z => by cases z)
  | cons n ns =>
    simp at ez
    subst ez
    exact h9 _ H2 (F1.grow k2.keep) (k1.trans k2.grow) rfl (fun z => by cases z)
/-! ### its translator -/
def trMaxk : RM := fun rE S bx args kws => match args, kws with
  | [x], [⟨some kk, .Lambda ⟨[], [⟨kx, none, _⟩], none, [], [], none, []⟩ (.Subscript (.Name R _) (.Name kx' _) _) scope _, _⟩] =>
    if bx = "max" && nst x && kk = "key" && kx = kx' && S.hot && S.lam && isBl S "max" && lamSc S.sc scope R kx && kxOk kx then (slotOf S R).bind fun r => (rE S x).bind fun A => if !S.m r then some (.maxk A.1 r false, ⟨A.2.mu, [], [], false⟩) else none else none
  | [x], [⟨some kk, .Lambda ⟨[], [⟨kx, none, _⟩], none, [], [], none, []⟩ (.Subscript (.Name R _) (.Name kx' _) _) scope _, _⟩, ⟨some dk, .Constant .none _ _, _⟩] =>
    if bx = "max" && nst x && kk = "key" && dk = "default" && kx = kx' && S.hot && S.lam && isBl S "max" && lamSc S.sc scope R kx && kxOk kx then (slotOf S R).bind fun r => (rE S x).bind fun A => if !S.m r then some (.maxk A.1 r true, ⟨A.2.mu, [], [], false⟩) else none else none
  | _, _ => none
theorem maxk_snd {C : Cfg} {cs : Calls} : SndM Y C cs k trMaxk := by
  intro rE hE S bx args kws A z h X W G g p pos
  unfold trMaxk at h
  split at h
  · split at h
    · rename_i hc
      simp only [Bool.and_eq_true, decide_eq_true_eq] at hc
      obtain ⟨⟨⟨⟨⟨⟨⟨⟨b1, b2⟩, c1⟩, c2⟩, c3⟩, c4⟩, c5⟩, c6⟩, c7⟩ := hc
      subst b1 c1 c2
      simp only [Option.bind_eq_some_iff] at h
      obtain ⟨r, hr, ⟨A', za⟩, hA, h⟩ := h
      split at h
      · rename_i hm
        cases h
        obtain ⟨c, P, L⟩ := G.lam c4
        obtain ⟨g1, g2⟩ := G.bl c5
        have O : XOk Y k true X := by have := G.ok; rw [c3] at this; exact this
        exact je_maxk O L (by simpa using hm) g1 g2 (by rw [G.N]; exact slotOf_eq hr) (by rw [G.sc]; exact c6) c7 (star_cons b2) (hE _ _ _ _ hA X W G g)
      · cases h
    · cases h
  · split at h
    · rename_i hc
      simp only [Bool.and_eq_true, decide_eq_true_eq] at hc
      obtain ⟨⟨⟨⟨⟨⟨⟨⟨⟨b1, b2⟩, c1⟩, c0⟩, c2⟩, c3⟩, c4⟩, c5⟩, c6⟩, c7⟩ := hc
      subst b1 c1 c0 c2
      simp only [Option.bind_eq_some_iff] at h
      obtain ⟨r, hr, ⟨A', za⟩, hA, h⟩ := h
      split at h
      · rename_i hm
        cases h
        obtain ⟨c, P, L⟩ := G.lam c4
        obtain ⟨g1, g2⟩ := G.bl c5
        have O : XOk Y k true X := by have := G.ok; rw [c3] at this; exact this
        exact je_maxkD O L (by simpa using hm) g1 g2 (by rw [G.N]; exact slotOf_eq hr) (by rw [G.sc]; exact c6) c7 (star_cons b2) (hE _ _ _ _ hA X W G g)
      · cases h
    · cases h
  · cases h
end
end VF
set_option Elab.async false
set_option maxRecDepth 100000
set_option maxHeartbeats 4000000
namespace VF
open PySem PySem.Spec PyProof.Rows L2
/-- what the head tells of a def -/
structure DefF (Y : Sys) (st : Stmt) (r : Row) (fa : Addr) (fd : FuncData) : Prop where
  mg : Y.mg r.name = some (.ref fa)
  kp : PySem.W.keepIn Y.K (.ref fa) = true
  db : (r.name == ("__debug__" : Str)) = false
  bd : Binds Y.K fd (r.N.take r.np) []
  kb : ∀ ks, (r.name, ks) ∈ Y.kl → ∀ (h : Shared) (ws zs : List Value), Y.K.In h.heap → ws.length = ks.length → pick (kix (r.N.take r.np) ks) ws = some zs → BindsTo h fd ⟨[], ks.zip ws⟩ ((r.N.take r.np).zip zs)
  ex : ∃ (oc : Value) (od : Option Addr) (dV kV doc pm : Value) (an : Option Addr) (cdv ct : Value) (osl : Array (Option Value)), fd = PySem.W.fnOf r.name r.name (defArgs st) (defBody st) (defScope st) dV kV doc pm an cdv ct ∧ Y.K.lookup fa = some ⟨oc, od, .func fd, osl⟩ ∧
    PySem.W.codeIn Y.K cdv r.name = true ∧ (r.lam = true → ∃ c P, cdv = .ref c ∧ LamX.TabB Y.base Y.mg c P ∧ (P, r.name ++ ".<locals>." ++ "<lambda>") ∈ Y.T ∧ ∀ q ∈ Y.T, q.1 = P → q.2 = r.name ++ ".<locals>." ++ "<lambda>")
/-- what does not hang on a context -/
structure Base (Y : Sys) (C : Cfg) (p : Pg) : Prop where
  free : ∀ x, x ∈ p.free → Y.mg x = none
  sig : C.sig = p.sig
  glob : C.glob = p.glob
  gl : ∀ x d, p.glob x = some d → ∃ i u, d = .int i ∧ Y.mg x = some u ∧ RelV (.int i) u
  kl : Y.kl = p.kl
  ecl : ∀ x, x ∈ p.ecls → ExI Y x
  isx : ∀ q, q ∈ p.isx → IsI Y q.1.1 q.1.2 q.2
  hcl : ∀ x, x ∈ p.hcl → ∃ c, HsI Y C.exm x c ∧ (x == ("__debug__" : Str)) = false ∧ (Y.mg x = some c ∨ (Y.mg x = none ∧ bootBuiltins x = some c ∧ x ≠ "__name__"))
section
variable {Y : Sys} {C : Cfg} {p : Pg} {cs : Calls} {k : Nat} {r : Row} {st : Stmt} {fa : Addr}
theorem deep_guards {A : Around} {env : PySem.Env} (h : A.guards = some []) : (A.deeper env).guards = some [] := by
  exact h
/-- the context of a def's body is one of this program -/
theorem good_cx (B : Base Y C p) (fns : Fns Y cs k p.sig) (law : Bool) {qual : Str} {scope : Scope} {cdv : Value} {A : Around} {outer : List PySem.Env} {s : Shared} {H : Hp} {E : XK} (S : FnScope r.N (r.N.take r.np) scope) (hr : RoomG k (A.deeper (envOfC qual scope s.heap.objs.size fa cdv)))
    (hl : r.lam = true → ∃ c P, cdv = .ref c ∧ LamX.TabB Y.base Y.mg c P ∧ (P, qual ++ ".<locals>." ++ "<lambda>") ∈ Y.T ∧ ∀ q ∈ Y.T, q.1 = P → q.2 = qual ++ ".<locals>." ++ "<lambda>") :
    GoodS Y C cs k (p.sx r scope law) (cxOf (L2.CX Y.P Y.w) Y.P Y.w Y.K Y.mg Y.base r.N qual scope fa cdv A outer s H E) (fun cls dd _ H => E cls dd H) where
  g := {
    N := rfl
    sc := rfl
    fn := fun _ => rfl
    ok := ⟨rfl, rfl, rfl, rfl, rfl, S.nd, by have := hr.toRoom.un; show (A.deeper (envOfC qual scope s.heap.objs.size fa cdv)).units + 65 < cLine; omega, fun _ => hr, fun _ => rfl⟩
    tk := takes_of rfl rfl rfl rfl
    free := B.free
    sig := B.sig
    fns := fns
    glob := B.glob
    gl := B.gl
    kl := B.kl
    ecl := B.ecl
    hcl := B.hcl
    lam := fun z => by
      obtain ⟨c, P, h1, h2, h3, h4⟩ := hl z
      exact ⟨c, P, h1, h2, h3, h4⟩
    gd := fun _ => hr.gd
    exn := fun q z => (by cases z)
    isx := B.isx }
  kd := S.kind
  ps := fun _ => passes_of rfl
  st := fun _ => rfl
  fr := fun _ => rfl
/-- a row of the program: its text is translated, its slots are in order -/
structure RowOk (p : Pg) (tab : Str → Option Df) (st : Stmt) (r : Row) (b : Ss) : Prop where
  sc : FnScope r.N (r.N.take r.np) (defScope st)
  tr : p.tr trMaxk r (defScope st) (defBody st) false = some b
  tab : tab r.name = some ⟨r.N.length, r.np, r.nr, b⟩
  mo : MOk (fun i => r.ms.contains i) r.nr r.np
  np : r.np ≤ r.N.length
theorem fns_ok {tab : Str → Option Df} (B : Base Y C p) (hrow : ∀ r, p.rows.find? (fun q => decide (q.name = r.name)) = some r → r.name ≠ "law" → ∃ st b fa fd, RowOk p tab st r b ∧ DefF Y st r fa fd) : ∀ k, Fns Y (calls C tab k) k p.sig := by
  intro k
  induction k with
  | zero =>
    intro f s hs
    have hs0 := hs
    unfold Pg.sig at hs0
    split at hs0
    · cases hs0
    · rename_i hlaw
      obtain ⟨r, hr, es⟩ := Option.map_eq_some_iff.mp hs0
      have en : r.name = f := by have := List.find?_some hr; simpa using this
      subst en
      obtain ⟨st, b, fa, fd, R, D⟩ := hrow r hr hlaw
      subst es
      refine ⟨fa, fd, D.mg, D.kp, D.db, D.bd, D.kb, ⟨fun vs H Q E h => h.1, fun A outer s' H args us vs Q E _ _ _ _ h => ?_⟩⟩
      obtain ⟨_, as, ws, xs, ds, G, _, _, _, _, _, _, _, _, he⟩ := h
      exact he.elim
  | succ k ih =>
    intro f s hs
    have hs0 := hs
    unfold Pg.sig at hs0
    split at hs0
    · cases hs0
    · rename_i hlaw
      obtain ⟨r, hr, es⟩ := Option.map_eq_some_iff.mp hs0
      have en : r.name = f := by have := List.find?_some hr; simpa using this
      subst en
      obtain ⟨st, b, fa, fd, R, D⟩ := hrow r hr hlaw
      subst es
      obtain ⟨oc, od, dV, kV, doc, pm, an, cdv, ct, osl, e, lk, hcd, hlam⟩ := D.ex
      refine ⟨fa, fd, D.mg, D.kp, D.db, D.bd, D.kb, ?_⟩
      rw [e] at lk ⊢
      have lps : r.sig.ps.length = r.np := by
        show (r.N.take r.np).length = r.np
        rw [List.length_take]
        exact Nat.min_eq_left R.np
      refine ⟨fun vs H Q E h => h.1, fun A outer s' H args us vs Q E hroom e0 hb rv h => ?_⟩
      have G := good_cx B ih false R.sc (hroom.in_ (envOfC r.name (defScope st) s'.heap.objs.size fa cdv)) hlam (outer := outer) (H := H) (E := E) (s := s') (A := A) (fa := fa)
      obtain ⟨t, pt, jt⟩ := body_ok (X := cxOf (L2.CX Y.P Y.w) Y.P Y.w Y.K Y.mg Y.base r.N r.name (defScope st) fa cdv A outer s' H E) (Y := Y) (E := E) (body := defBody st) (N := r.N) (d := ⟨r.N.length, r.np, r.nr, b⟩) (m := fun i => r.ms.contains i) (C := C) (cs := calls C tab k) (by rw [lps]; exact R.mo) lps.symm rfl rfl (by rw [lps]; exact R.np) (fun g => ss_snd (S := p.sx r (defScope st) false) (trS_snd maxk_snd 60 60) G (fun j hj => R.mo.ref j hj) R.tr) (fun ds => by
        show (match tab r.name with | some d => run1 C (calls C tab k) d ds | none => .bad) = _
        rw [R.tab]) h
      exact fn_at (N := r.N) lk hcd R.sc hroom.toRoom e0 hb rv h.1 pt jt
end
end VF
set_option Elab.async false
set_option linter.all false
set_option maxRecDepth 100000
set_option maxHeartbeats 4000000
namespace VF
open PySem PySem.Spec PyProof.Rows L2
/-! ### the law's own call, its surroundings known -/
section
variable {CXX : CXT} {Pr : Program} {ww : World} {KK : PySem.W.Frag} {mg : Str → Option Value} {base : Heap}
end
section
variable {Pr : Program} {ww : World} {KK : PySem.W.Frag} {mg mb : Str → Option Value} {CXX : CXT}
/-- the script's list and the tables alone are tracked -/
def hpOf (KK : PySem.W.Frag) (T : List Addr) (a : Addr) (ob : Obj) (us : List V) : Hp := fun b => if b ∈ T then some (.tbl #[]) else if b = a ∧ KK.lookup a = none then some (.frz ob (.lst us)) else none
theorem hp_tab {T : List Addr} {a b : Addr} {ob : Obj} {us : List V} (h : b ∈ T) : hpOf KK T a ob us b = some (.tbl #[]) := if_pos h
theorem hp_scr {T : List Addr} {a : Addr} {ob : Obj} {us : List V} (h : a ∉ T) (q : KK.lookup a = none) : hpOf KK T a ob us a = some (.frz ob (.lst us)) := (if_neg h).trans (if_pos ⟨rfl, q⟩)
theorem hp_no {T : List Addr} {a b : Addr} {ob : Obj} {us : List V} (h : b ∉ T) (q : ¬ (b = a ∧ KK.lookup a = none)) : hpOf KK T a ob us b = none := (if_neg h).trans (if_neg q)
theorem hp_cases {T : List Addr} {a b : Addr} {ob : Obj} {us : List V} : (b ∈ T ∧ hpOf KK T a ob us b = some (.tbl #[])) ∨ (b ∉ T ∧ b = a ∧ KK.lookup a = none ∧ hpOf KK T a ob us b = some (.frz ob (.lst us))) ∨ (b ∉ T ∧ hpOf KK T a ob us b = none) := by
  by_cases h : b ∈ T
  · exact .inl ⟨h, hp_tab h⟩
  · by_cases q : b = a ∧ KK.lookup a = none
    · exact .inr (.inl ⟨h, q.1, q.2, (if_neg h).trans (if_pos q)⟩)
    · exact .inr (.inr ⟨h, hp_no h q⟩)
theorem law_end {fad a : Addr} {cs : List (Addr × Addr)} {s1 : Shared} {xs : List Value} {ns : List Int} (kin : KK.In s1.heap) (gns : s1.heap.Ns mainGlobals mg) (bns : s1.heap.Ns builtinsNs mb) (bb : ∀ x : Str, x ≠ "__name__" → mb x = bootBuiltins x) (nolim : s1.heap.NoLimit) (ng : s1.gens = #[])
    (tabs : ∀ p ∈ cs, s1.heap.get? p.2 = some { cls := .none, data := .fields #[] }) (tout : ∀ p ∈ cs, KK.lookup p.2 = none) (heads : ∀ p ∈ cs, PySem.W.CodeHd s1.heap p.1 p.2)
    (bmod : ∃ (bm : Addr) (ob : Obj), mg "__builtins__" = some (.ref bm) ∧ bm ≠ builtinsNs ∧ s1.heap.get? bm = some ob ∧ ob.cls = .type "module" ∧ ob.dict = some builtinsNs ∧ ob.data = .plain)
    (scr : s1.heap.get? a = some { cls := .type "list", data := .seq xs.toArray }) (are : IntsAre xs ns) (short : ns.length ≤ sizeLine)
    (run : ∀ (base : Heap) (H : Hp), KK.In base → base.Ns mainGlobals mg → (∀ p ∈ cs, LamX.TabB base mg p.1 p.2) → (∀ p ∈ cs, H p.2 = some (.tbl #[])) → SqL KK H a (ns.map V.int) → Env0 Pr ww KK mg base callerA [] s1 H →
      codeAny (model Pr ww) callerA (.call (.ref fad) ⟨[.ref a], []⟩) (CR CXX [] Pr ww H s1 (fun v _ => v = .bl true) fun _ _ _ => False) s1)
    (noexc : ∀ H e s', CXX [] H s1 (fun _ _ _ => False) e s' → False) :
    codeAny (model Pr ww) callerA (.call (.ref fad) ⟨[.ref a], []⟩) (fun r s' => r = .ok (.ret (.bool true)) ∧ OldK s1.heap s'.heap ∧ s'.os = s1.os ∧ AllBare s'.gens) s1 := by
  have rel := vals_ints are
  have same := are.length
  have emp : ∀ {b : Addr}, b ∈ cs.map (·.2) → s1.heap.get? b = some { cls := .none, data := .fields #[] } := fun {b} hb => by
    obtain ⟨p, hp, rfl⟩ := List.mem_map.mp hb
    exact tabs p hp
  have sno : a ∉ cs.map (·.2) := fun z => by
    have q := emp z
    rw [scr] at q
    exact absurd (congrArg Obj.data (Option.some.inj q)) (by intro w; cases w)
  obtain ⟨H, hH⟩ : ∃ H, H = hpOf KK (cs.map (·.2)) a { cls := .type "list", data := .seq xs.toArray } (ns.map V.int) := ⟨_, rfl⟩
  have split : ∀ b, (b ∈ cs.map (·.2) ∧ H b = some (.tbl #[])) ∨ (b ∉ cs.map (·.2) ∧ b = a ∧ KK.lookup a = none ∧ H b = some (.frz { cls := .type "list", data := .seq xs.toArray } (.lst (ns.map V.int)))) ∨ (b ∉ cs.map (·.2) ∧ H b = none) := fun b => by rw [hH]; exact hp_cases
  have clear : ∀ {b : Addr} {o : Obj}, s1.heap.get? b = some o → (∀ vs n, o.data ≠ .seq vs n) → o.data ≠ .fields #[] → H b = none := fun {b o} e n1 n2 => by
    rcases split b with ⟨z, _⟩ | ⟨_, rfl, _, _⟩ | ⟨_, z⟩
    · rw [emp z] at e; cases e; exact (n2 rfl).elim
    · rw [scr] at e; cases e; exact (n1 _ _ rfl).elim
    · exact z
  have lay : ∀ {b : Addr} {m : Str → Option Value}, s1.heap.Ns b m → (hidT s1.heap H).Ns b m := fun {b m} ⟨o, es, ep, e, d, r⟩ => ⟨o, es, ep, hidT_get e (clear e (fun _ _ z => by rw [d] at z; cases z) fun z => by rw [d] at z; cases z), d, r⟩
  have kb : KK.In (hidT s1.heap H) := fun b o e => by
    refine hidT_get (kin b o e) ?_
    rcases split b with ⟨z, _⟩ | ⟨_, rfl, z, _⟩ | ⟨_, z⟩
    · obtain ⟨p, hp, rfl⟩ := List.mem_map.mp z
      rw [tout p hp] at e; cases e
    · rw [z] at e; cases e
    · exact z
  have tb : ∀ p ∈ cs, LamX.TabB (hidT s1.heap H) mg p.1 p.2 := fun p hp => by
    have tp := tabs p hp
    obtain ⟨o, us, file, tf, flags, tg, inF, text, tt, c1, c2, c3, c4, c5, c6, c7, c8, c9, c10⟩ := heads p hp
    obtain ⟨bm, ob, b1, b2, b3, b4, b5, b6⟩ := bmod
    obtain ⟨og, es, ep, g1, g2, _⟩ := gns
    refine ⟨⟨o, us, file, tf, flags, tg, inF, text, tt, hidT_get c1 (clear c1 (fun _ _ z => by rw [c3] at z; cases z) fun z => ?_), c2, c3, c4, c5, c6, c7, c8, c9, c10⟩, ⟨bm, ob, b1, b2, fun z => ?_, fun z => ?_, hidT_get b3 (clear b3 (fun _ _ z => by rw [b6] at z; cases z) fun z => by rw [b6] at z; cases z), b4, b5, b6⟩, fun z => ?_⟩
    · rw [c3] at z
      cases z
      simp at c4
    · rw [z, g1] at b3
      cases b3
      rw [g2] at b6
      cases b6
    · rw [z, tp] at b3
      cases b3
      cases b6
    · rw [z, tp] at g1
      cases g1
      cases g2
  have hok : HOk Pr ww H s1.heap := fun b u z => by
    rcases split b with ⟨m, e⟩ | ⟨_, rfl, _, e⟩ | ⟨_, e⟩
    · rw [e] at z; cases z; exact emp m
    · rw [e] at z; cases z; exact ⟨scr, by rw [List.length_map]; exact short, xs, _, rel, scr⟩
    · rw [e] at z; cases z
  have tabH : ∀ p ∈ cs, H p.2 = some (.tbl #[]) := fun p hp => by rw [hH]; exact hp_tab (List.mem_map.mpr ⟨p, hp, rfl⟩)
  have sq : SqL KK H a (ns.map V.int) := by
    cases q : KK.lookup a with
    | none => exact .inl (.inr ⟨_, by rw [hH]; exact hp_scr sno q⟩)
    | some o =>
      have e := kin a o q
      rw [scr] at e
      cases e
      exact .inr ⟨_, xs.toArray, _, q, rfl, rfl, rfl, by rw [List.size_toArray, same]; exact short, by simpa using rel⟩
  have md : L2.Mod KK mg (hidT s1.heap H) := ⟨kb, lay gns, ⟨mb, lay bns, bb⟩, by obtain ⟨mc, z1, z2⟩ := nolim; exact ⟨mc, lay z1, z2⟩⟩
  have e0 : Env0 Pr ww KK mg (hidT s1.heap H) callerA [] s1 H := ⟨rfl, md, fun _ _ e => of_hidT e, Nat.le_of_eq (hidT_size _ _), trivial, fun b z => absurd (show b ∈ ([] : List Addr) from z) (by simp), hok, .of_eq ng⟩
  refine codeAny_mono (run _ H kb (lay gns) tb tabH sq e0) fun r s2 z => ?_
  match r, z with
  | .error e, z => exact (noexc H e s2 z).elim
  | .ok .next, z => exact z.elim
  | .ok .brk, z => exact z.elim
  | .ok .cont, z => exact z.elim
  | .ok (.ret u), ⟨v, H2, z1, z2, un, hok2, ru, q⟩ =>
    have q : v = .bl true := q
    subst q
    obtain rfl : u = Value.bool true := ru
    have stays : ∀ b o, b ∉ cs.map (·.2) → s1.heap.get? b = some o → s2.heap.get? b = some o := fun b o nb e => by
      rcases split b with ⟨m, _⟩ | ⟨_, rfl, _, w⟩ | ⟨_, w⟩
      · exact absurd m nb
      · have w2 := un.frzs _ _ _ w
        obtain ⟨y1, _⟩ := hok _ _ w
        obtain ⟨y2, _⟩ := hok2 _ _ w2
        rw [e] at y1
        cases y1
        exact y2
      · exact un.keep b o e w (fun y => absurd (show b ∈ ([] : List Addr) from y) (by simp)) (by simp)
    have more : ∀ b, b ∈ cs.map (·.2) → ∃ (p : Addr × Addr) (ys : Array Value), p ∈ cs ∧ p.2 = b ∧ s2.heap.get? b = some { cls := .none, data := .fields ys } := fun b m => by
      obtain ⟨p, hp, rfl⟩ := List.mem_map.mp m
      obtain ⟨ys, w⟩ := un.tbls p.2 #[] (tabH p hp)
      exact ⟨p, _, hp, rfl, hok2 p.2 _ w⟩
    refine ⟨rfl, ⟨fun b o e => ?_, fun b o e => ?_⟩, z1, z2⟩
    · by_cases m : b ∈ cs.map (·.2)
      · obtain ⟨p, ys, hp, rfl, w⟩ := more b m
        rw [tabs p hp] at e
        cases e
        exact .inr (.inl ⟨((heads p hp).tab (tabs p hp)).isCodeTable, rfl, #[], ys, rfl, by rw [Array.empty_append]; exact w⟩)
      · exact .inl (stays b o m e)
    · by_cases m : b ∈ cs.map (·.2)
      · obtain ⟨_, ys, _, _, w⟩ := more b m
        exact ⟨_, w⟩
      · exact ⟨o, stays b o m e⟩
end
end VF
set_option Elab.async false
set_option maxRecDepth 100000
set_option maxHeartbeats 4000000
namespace VF
open PySem PySem.Spec PyProof.Rows L2
/-- the law's promise -/
def spLaw (K : PySem.W.Frag) (T : List (Addr × Str)) (ok : List Int → Prop) : Sp := fun vs H Q _ => ∃ (a : Addr) (ns : List Int), vs = [.ref a] ∧ ok ns ∧ LamX.Tabs T H ∧ SqL K H a (ns.map V.int) ∧ ∀ H', Q (.bl true) H'
structure LawRow (p : Pg) (st : Stmt) (r : Row) (b : Ss) : Prop where
  sc : FnScope r.N (r.N.take r.np) (defScope st)
  tr : p.tr trMaxk r (defScope st) (defBody st) true = some b
  np : r.np = 1
  nr : r.nr = 0
  fr : r.fr = false
  len : 1 ≤ r.N.length
  m0 : r.ms.contains 0 = false
section
variable {Y : Sys} {p : Pg} {k : Nat} {r : Row} {st : Stmt} {fa : Addr} {fd : FuncData} {b : Ss} {ok : List Int → Prop}
theorem fi_law {m : Nat → Bool} {N : List Str} {a : Addr} {H : Hp} {ns : List Int} (hN : 1 ≤ N.length) (m0 : m 0 = false) (hS : SqL Y.K H a (ns.map V.int)) : Fi Y.K ⟨m, fun _ => False⟩ ⟨some ns, none⟩ (L2.start N [.ref a]) H (List.replicate N.length none) := by
  have noE : ∀ (i : Nat) (d : PyData), (List.replicate N.length (none : Option PyData))[i]? ≠ some (some d) := fun i d e => by
    rw [List.getElem?_replicate] at e
    split at e <;> cases e
  have only : ∀ (i : Nat) (v : V), (L2.start N [.ref a])[i]? = some (some v) → i = 0 := fun i v e => by
    have e1 := start_some e
    cases i with
    | zero => rfl
    | succ i => simp at e1
  have s0' : (L2.start N [.ref a])[0]? = some (some (.ref a)) := start_get (by simp)
  have noF : ∀ b, ¬ FX ⟨m, fun _ => False⟩ [] (L2.start N [.ref a]) b := fun b z => by
    rcases z with z | ⟨i, z1, _, z3⟩
    · exact z
    · have z1 : m i = true := z1
      rw [only i _ z3, m0] at z1
      cases z1
  refine ⟨?_, fun i d e => absurd e (noE i d), fun i d e => absurd e (noE i d), fun i mi e => ?_, fun i j b mi mj e1 e2 => by rw [only i _ e1, only j _ e2], fun b z => z.elim, fun i b mi e z => z, fun ns' e => ?_, fun _ _ e => (by cases e)⟩
  · unfold L2.start
    simp only [List.length_replicate, List.length_append, List.length_map, List.length_cons, List.length_nil]
    omega
  · have hi : i < N.length := by
      have := (List.getElem?_eq_some_iff.mp e).1
      simpa using this
    refine start_out ?_ hi
    have mi : m i = true := mi
    have : i ≠ 0 := fun z => by rw [z, m0] at mi; cases mi
    show 1 ≤ i
    omega
  · cases e
    refine ⟨a, s0', ?_, m0⟩
    rcases hS with hS | hS
    · exact .inl ⟨noF a, hS⟩
    · exact .inr hS
theorem law_okG {tab : Str → Option Df} {C : List Int → Cfg} (B : ∀ ns, Base Y (C ns) p) (hsc : ∀ ns, (C ns).scr = ns) (hrow : ∀ r, p.rows.find? (fun q => decide (q.name = r.name)) = some r → r.name ≠ "law" → ∃ st b fa fd, RowOk p tab st r b ∧ DefF Y st r fa fd)
    (R : LawRow p st r b) (D : DefF Y st r fa fd) (run : ∀ ns, ok ns → ∃ e, exs (C ns) (calls (C ns) tab k) b (List.replicate r.N.length none) = .ok (.ret (.bool true)) e)
    {s : Shared} {H : Hp} {a : Addr} {ns : List Int} (hok : ok ns) (hroom : RoomG (k + 1) callerA) (e0 : Env0 Y.P Y.w Y.K Y.mg Y.base callerA [] s H) (hT : LamX.Tabs Y.T H) (hS : SqL Y.K H a (ns.map V.int)) :
    codeAny (model Y.P Y.w) callerA (.call (.ref fa) ⟨[.ref a], []⟩) (CR (L2.CX Y.P Y.w) [] Y.P Y.w H s (fun v _ => v = .bl true) fun _ _ _ => False) s := by
  obtain ⟨oc, od, dV, kV, doc, pm, an, cdv, ct, osl, e, lk, hcd, hlam⟩ := D.ex
  have db := D.bd
  rw [e] at lk db
  have l1 : (r.N.take r.np).length = 1 := by
    rw [List.length_take, R.np]
    have := R.len
    omega
  have kin : Y.K.In s.heap := e0.mod.kin.keeps fun c o e => (e0.bs c o e).1
  obtain ⟨en, hrun⟩ := run ns hok
  have G := good_cx (B ns) (fns_ok (B ns) hrow k) true R.sc (hroom.in_ _) hlam (outer := []) (H := H) (E := fun _ _ _ => False) (s := s) (A := callerA) (fa := fa)
  obtain ⟨t, pt, jt⟩ := ss_snd (S := p.sx r (defScope st) true) (g := fun _ => False) (trS_snd maxk_snd 60 60) G (fun j hj => by rw [R.nr] at hj; omega) R.tr
  refine fn_at (N := r.N) (us := [.ref a]) (vs := [.ref a]) lk hcd R.sc hroom.toRoom e0 (by have := db s [.ref a] kin (by rw [l1]; rfl); rwa [List.append_nil] at this) (.cons rfl .nil) l1.symm pt ?_
  refine jt _ _ _ (List.replicate r.N.length none) ?_ hT ?_
  · have : ∀ X : Cx, scO (C ns) (p.sx r (defScope st) true) X = ⟨some ns, none⟩ := fun X => by
      show SC.mk (some (C ns).scr) none = _
      rw [hsc]
    rw [this]
    exact fi_law R.len R.m0 hS
  · rw [hrun]
    intro v σ' H' _ _ ro
    exact ro.rep
end
/-- what is known of the law at the head's heap -/
def LawG (l : PySem.W.OpenLaw) (w : World) (K : PySem.W.Frag) (CXX : CXT) (n : Nat) (mg : Str → Option Value) (fa : Addr) (h : Heap) : Prop :=
  ∃ cs : List (Addr × Addr), (∀ p ∈ cs, h.get? p.2 = some { cls := .none, data := .fields #[] }) ∧ (∀ p ∈ cs, K.lookup p.2 = none) ∧ (∀ p ∈ cs, PySem.W.CodeHd h p.1 p.2) ∧
    ∀ (s1 : Shared) (a : Addr) (ns : List Int) (base : Heap) (H : Hp), ns.length ≤ n → (∀ z ∈ ns, Builtin.Int.intBits z ≤ 1048576) → K.In base → base.Ns mainGlobals mg → (∀ p ∈ cs, LamX.TabB base mg p.1 p.2) → (∀ p ∈ cs, H p.2 = some (.tbl #[])) → SqL K H a (ns.map V.int) →
      Env0 l.prog w K mg base callerA [] s1 H → codeAny (model l.prog w) callerA (.call (.ref fa) ⟨[.ref a], []⟩) (CR CXX [] l.prog w H s1 (fun v _ => v = .bl true) fun _ _ _ => False) s1
theorem walk_end {l : PySem.W.OpenLaw} {n : Nat} {q : Program} {loose : List Str} {XP : (Str → Option Value) → Heap → Prop} {YP : World → Heap → Prop} {d : DefRec} {CXX : World → CXT} (most : l.most = some n) (nz : n ≤ sizeLine) (plain : d.params.defaults = [])
    (F : ∀ (w : World) (mg : Str → Option Value) (fa : Addr) (h : Heap), YP w h → h.Ns mainGlobals mg → mg d.name = some (.ref fa) → ∃ K : PySem.W.Frag, K.In h ∧ LawG l w K (CXX w) n mg fa h)
    (noexc : ∀ (w : World) (H : Hp) (s : Shared) (e : Value) (s' : Shared), CXX w [] H s (fun _ _ _ => False) e s' → False) : PySem.W.WalkO q loose XP YP l.row.toRowW d [] (fun f vs => PySem.call f vs) := by
  refine Att.attach_callB most plain fun w s0 s1 mg mb fa o pm cd doc a vs ns G Y ho hd hcd hmg hobj hints hlen hbits hg => ?_
  obtain ⟨K, kin, cs, c1, c2, c3, c4⟩ := F w mg fa _ Y G.T.g hmg
  exact law_end kin G.T.g G.T.b G.T.builtins G.T.nolimit hg c1 c2 c3 G.T.bmain hobj hints (Nat.le_trans hlen nz) (fun base H k1 k2 k3 k4 k5 k6 => c4 s1 a ns base H hlen hbits k1 k2 k3 k4 k5 k6) fun H e s' => noexc w H s1 e s'
end VF
set_option Elab.async false
set_option maxRecDepth 100000
set_option maxHeartbeats 4000000
namespace VF
open PySem PySem.Spec PyProof.Rows L2
/-- how a def's parameters are bound -/
structure BindP (st : Stmt) (r : Row) (kl : List (Str × List Str)) : Prop where
  pos : ∀ (kV doc pm : Value) (an : Option Addr) (cdv ct : Value) (us : List Value), us.length = (r.N.take r.np).length → bindArgs (PySem.W.fnOf r.name r.name (defArgs st) (defBody st) (defScope st) .none kV doc pm an cdv ct) ⟨us, []⟩ = pure ((r.N.take r.np).zip us)
  key : ∀ (kV doc pm : Value) (an : Option Addr) (cdv ct : Value) (ks : List Str), (r.name, ks) ∈ kl → ∀ (ws zs : List Value), ws.length = ks.length → pick (kix (r.N.take r.np) ks) ws = some zs →
    bindArgs (PySem.W.fnOf r.name r.name (defArgs st) (defBody st) (defScope st) .none kV doc pm an cdv ct) ⟨[], ks.zip ws⟩ = pure ((r.N.take r.np).zip zs)
def ddOf (r : Row) (st : Stmt) : He.DefD := ⟨(r.name, none), r.name, r.name, defArgs st, defBody st, defScope st, [], []⟩
section
variable {fa : List He.Fa} {fn : List He.DefD} {tf : List He.Defn} {ex : PySem.W.Frag → Bool} {w : World} {h base : Heap} {K : PySem.W.Frag} {mg : Str → Option Value} {P : Program}
/-- the tables of lambdas -/
def tabsOf (K : PySem.W.Frag) (tf : List He.Defn) : List (Addr × Str) := tf.map fun q => ((He.cT K q).2, q.1 ++ ".<locals>." ++ "<lambda>")
theorem nd_inj {α β : Type} {f : α → β} : ∀ {l : List α}, (l.map f).Nodup → ∀ {x y : α}, x ∈ l → y ∈ l → f x = f y → x = y
  | [], _, _, _, h, _, _ => by simp at h
  | a :: l, h, x, y, hx, hy, e => by
    rw [List.map_cons, List.nodup_cons] at h
    rcases List.mem_cons.mp hx with rfl | hx2
    · rcases List.mem_cons.mp hy with rfl | hy3
      · rfl
      · exact absurd (by rw [e]; exact List.mem_map_of_mem hy3) h.1
    · rcases List.mem_cons.mp hy with rfl | hy3
      · exact absurd (by rw [← e]; exact List.mem_map_of_mem hx2) h.1
      · exact nd_inj h.2 hx2 hy3 e
theorem defF_of (c : He.SaysX fa fn [] tf ex w h K) (KX : K.In base) (G : base.Ns mainGlobals mg) (hT : ∀ q ∈ tf.map (He.cT K), LamX.TabB base mg q.1 q.2) (tnd : (tf.map fun q => (He.cT K q).2).Nodup) {kl : List (Str × List Str)} {r : Row} {st : Stmt} (hfn : ddOf r st ∈ fn) (hfa : He.Fa.glo r.name ∈ fa) (db : (r.name == ("__debug__" : Str)) = false)
    (hl : r.lam = true → (r.name, none) ∈ tf) (bp : BindP st r kl) : ∃ fd, DefF ⟨P, w, K, mg, base, tabsOf K tf, kl⟩ st r (He.ga K r.name) fd := by
  obtain ⟨fd, F⟩ := c.t.d.defs hfn
  have F : FunD K r.name r.name (defArgs st) (defBody st) (defScope st) [] [] (He.ga K r.name) fd := F
  have hg := He.glo_ok KX G (c.t.d.facts hfa)
  refine ⟨fd, hg, F.kp, db, F.bindsN bp.pos, fun ks hk s ws zs _ hw hz => ?_, ?_⟩
  · obtain ⟨oc, od, dV, kV, doc, pm, an, cdv, ct, osl, rfl, lk, hcd, hD, hK⟩ := F.ex
    rcases hD with ⟨_, rfl⟩ | ⟨e, _⟩
    · exact .of_eq (bp.key kV doc pm an cdv ct ks hk ws zs hw hz)
    · exact absurd rfl e
  · obtain ⟨oc, od, dV, kV, doc, pm, an, cdv, ct, osl, e, lk, hcd, hD, hK⟩ := F.ex
    refine ⟨oc, od, dV, kV, doc, pm, an, cdv, ct, osl, e, lk, hcd, fun z => ?_⟩
    have hm := hl z
    obtain ⟨cc, ec⟩ := He.codeIn_ref hcd
    have e1 : He.codeOf K (r.name, none) = cc := He.codeOf_eq (p := (r.name, none)) lk (by rw [e]; exact ec)
    refine ⟨cc, (He.cT K (r.name, none)).2, ec, ?_, List.mem_map.mpr ⟨_, hm, rfl⟩, fun q hq _ => ?_⟩
    · have := hT _ (List.mem_map.mpr ⟨_, hm, rfl⟩)
      rw [← e1]
      exact this
    · obtain ⟨q', hq', rfl⟩ := List.mem_map.mp hq
      rename_i hqe
      rw [nd_inj tnd hq' hm hqe]
/-- what the head tells, taken together -/
theorem base_of (c : He.SaysX fa fn [] tf ex w h K) (KX : K.In base) (G : base.Ns mainGlobals mg) {p : Pg} {C : Cfg} (hs : C.sig = p.sig) (hg : C.glob = p.glob) (hfree : ∀ x ∈ p.free, He.Fa.free x ∈ fa) (hint : ∀ q ∈ p.globs, He.Fa.int q.1 q.2 ∈ fa) (hexc : ∀ x ∈ p.ecls, He.Fa.exc x ∈ fa ∧ He.Fa.glo x ∈ fa ∧ (x == ("__debug__" : Str)) = false)
    (hhc : ∀ x ∈ p.hcl, He.Fa.glo x ∈ fa ∧ (x == ("__debug__" : Str)) = false ∧ ∀ xc b, C.exm xc x = some b → He.Fa.exm xc x b ∈ fa ∧ He.Fa.glo xc ∈ fa) (hix : ∀ q ∈ p.isx, He.Fa.glo q.1.1 ∈ fa ∧ He.Fa.glo q.1.2 ∈ fa ∧ (q.1.2 == ("__debug__" : Str)) = false ∧ isCk K q = true) : Base ⟨P, w, K, mg, base, tabsOf K tf, p.kl⟩ C p where
  free := fun x hx => He.free_ok KX G (c.t.d.facts (hfree x hx))
  sig := hs
  glob := hg
  gl := fun x d hd => by
    obtain ⟨i, hi, e⟩ := Option.map_eq_some_iff.mp hd
    obtain ⟨t, ht⟩ := He.int_ok KX G (c.t.d.facts (hint (x, i) (PySem.mem_of_lookup hi)))
    exact ⟨i, _, e.symm, ht, ⟨t, rfl⟩⟩
  kl := rfl
  ecl := fun x hx => by
    obtain ⟨h1, h2, h3⟩ := hexc x hx
    obtain ⟨g1, g2, g3, g4⟩ := He.exc_ok (c.t.d.facts h1)
    exact ⟨h3, _, _, _, _, _, He.glo_ok KX G (c.t.d.facts h2), g2, PySem.F.excBase_ValueError, g1, g3, g4⟩
  isx := fun q hq => by
    obtain ⟨h1, h2, h3, h4⟩ := hix q hq
    obtain ⟨g1, g2⟩ := isCk_ok h4
    exact ⟨h3, _, .ref _, _, He.glo_ok KX G (c.t.d.facts h1), g1, rfl, fun u r => r, .inl (He.glo_ok KX G (c.t.d.facts h2)), g2⟩
  hcl := fun x hx => by
    obtain ⟨h1, h2, h3⟩ := hhc x hx
    have gx := He.glo_ok KX G (c.t.d.facts h1)
    refine ⟨_, fun xc b C' hb hm => ?_, h2, .inl gx⟩
    obtain ⟨f1, f2⟩ := h3 xc b hb
    have gc := He.glo_ok KX G (c.t.d.facts f2)
    have gc : mg xc = _ := gc
    have hm : mg xc = some (.ref C') := hm
    rw [gc] at hm
    cases hm
    exact He.exm_ok (c.t.d.facts f1)
end
end VF
set_option Elab.async false
set_option linter.all false
set_option maxRecDepth 100000
namespace VF
open PySem
/-- loops and comprehensions by their texts -/
def forX (C : Cfg) (cs : Calls) (tg : Tg) (b : Ss) (ds : List PyData) (env : Env) : Out Flw := forL tg (fun e => exs C cs b e) ds env
def whlX (C : Cfg) (cs : Calls) (n : Nat) (c : E) (b : Ss) (env : Env) : Out Flw := whlL (fun e => (ev C cs c e).bind fun x e1 => lift (tru x) e1) (fun e => exs C cs b e) n env
def compX (C : Cfg) (cs : Calls) (tg : Tg) (own : List Nat) (c : Eo) (g : E) (env0 : Env) (ds : List PyData) (env : Env) : Out (List PyData) := compL tg own (fun e => evC C cs c e) (fun e => ev C cs g e) env0 ds env
/-- a list of whole numbers -/
def il (ks : List Int) : List PyData := ks.map .int
end VF
namespace Sy
open PySem VF
section
variable {C : Cfg} {cs : Calls} {env : VF.Env} {α β : Type}
@[scoped simp] theorem bind_ok {a : α} {e : VF.Env} {f : α → VF.Env → Out β} : (Out.ok a e).bind f = f a e := rfl
@[scoped simp] theorem bind_exc {x : Exn} {e : VF.Env} {f : α → VF.Env → Out β} : (Out.exc x e : Out α).bind f = .exc x e := rfl
@[scoped simp] theorem bind_bad {f : α → VF.Env → Out β} : (Out.bad : Out α).bind f = .bad := rfl
@[scoped simp] theorem nox_ok {a : α} {e : VF.Env} : (Out.ok a e).nox = .ok a e := rfl
@[scoped simp] theorem lift_some {a : α} {e : VF.Env} : lift (some a) e = .ok a e := rfl
@[scoped simp] theorem getV_0 {a : Option PyData} {l : VF.Env} : getV (a :: l) 0 = a := by simp [getV]
@[scoped simp] theorem getV_s {a : Option PyData} {l : VF.Env} {n : Nat} : getV (a :: l) (n + 1) = getV l n := by simp [getV]
@[scoped simp] theorem setV_0 {a : Option PyData} {l : VF.Env} {d : PyData} : setV (a :: l) 0 d = some d :: l := by simp [setV]
@[scoped simp] theorem setV_s {a : Option PyData} {l : VF.Env} {n : Nat} {d : PyData} : setV (a :: l) (n + 1) d = a :: setV l n d := by simp [setV]
@[scoped simp] theorem getsV_0 : getsV env [] = some [] := rfl
@[scoped simp] theorem getsV_s {i : Nat} {is : List Nat} : getsV env (i :: is) = (getV env i).bind fun d => (getsV env is).map (d :: ·) := rfl
@[scoped simp] theorem setsV_0 : setsV env [] [] = env := rfl
@[scoped simp] theorem setsV_s {i : Nat} {is : List Nat} {d : PyData} {ds : List PyData} : setsV env (i :: is) (d :: ds) = setsV (setV env i d) is ds := rfl
@[scoped simp] theorem tupV_e {i : Nat} : tupV env i = (getV env i).bind fun d => match d with | .tuple ds => some ds | _ => none := rfl
-- expressions
@[scoped simp] theorem ev_v {i : Nat} : ev C cs (.v i) env = lift (getV env i) env := rfl
@[scoped simp] theorem ev_int {i : Int} : ev C cs (.int i) env = .ok (.int i) env := rfl
@[scoped simp] theorem ev_bl {b : Bool} : ev C cs (.bl b) env = .ok (.bool b) env := rfl
@[scoped simp] theorem ev_str {s : PySem.Str} : ev C cs (.str s) env = .ok (.str s) env := rfl
@[scoped simp] theorem ev_non : ev C cs .non env = .ok .none env := rfl
@[scoped simp] theorem ev_glob {x : PySem.Str} : ev C cs (.glob x) env = lift (C.glob x) env := rfl
@[scoped simp] theorem ev_tup {es : Es} : ev C cs (.tup es) env = (evs C cs es env).bind fun ds e => if ds.length ≤ lim then .ok (.tuple ds) e else .bad := rfl
@[scoped simp] theorem ev_lst {es : Es} : ev C cs (.lst es) env = (evs C cs es env).bind fun ds e => if ds.length ≤ lim then .ok (.list ds) e else .bad := rfl
@[scoped simp] theorem ev_bin {op : BOp} {a b : E} : ev C cs (.bin op a b) env = (ev C cs a env).bind fun x e1 => (ev C cs b e1).bind fun y e2 => lift (binD op x y) e2 := rfl
@[scoped simp] theorem ev_neg {a : E} : ev C cs (.neg a) env = (ev C cs a env).bind fun x e1 => (match x with | .int i => .ok (.int (-i)) e1 | _ => .bad) := rfl
@[scoped simp] theorem ev_cmp {op : COp} {a b : E} : ev C cs (.cmp op a b) env = (ev C cs a env).bind fun x e1 => (ev C cs b e1).bind fun y e2 => (lift (cmpD op x y) e2).bind fun k e => .ok (.bool k) e := rfl
@[scoped simp] theorem ev_isc {p : Bool} {a : E} {c : Cst} : ev C cs (.isc p a c) env = (ev C cs a env).bind fun x e1 => .ok (.bool (if p then isC x c else !isC x c)) e1 := rfl
@[scoped simp] theorem ev_chain {op op' : COp} {a b c : E} : ev C cs (.chain op op' a b c) env = (ev C cs a env).bind fun x e1 => (ev C cs b e1).bind fun y e2 => (lift (cmpD op x y) e2).bind fun k e =>
      if k then (ev C cs c e).bind fun z e3 => (lift (cmpD op' y z) e3).bind fun k e => .ok (.bool k) e else .ok (.bool false) e := rfl
@[scoped simp] theorem ev_not {a : E} : ev C cs (.not a) env = (ev C cs a env).bind fun x e1 => (lift (tru x) e1).bind fun k e => .ok (.bool (!k)) e := rfl
@[scoped simp] theorem ev_one {o : Bool} {a : E} : ev C cs (.one o a) env = ev C cs a env := rfl
@[scoped simp] theorem ev_bop {o : Bool} {a r : E} : ev C cs (.bop o a r) env = (ev C cs a env).bind fun x e1 => (lift (tru x) e1).bind fun k e => if k = o then ev C cs r e else .ok x e := rfl
@[scoped simp] theorem ev_ite {c a b : E} : ev C cs (.ite c a b) env = (ev C cs c env).bind fun x e1 => (lift (tru x) e1).bind fun k e => if k then ev C cs a e else ev C cs b e := rfl
@[scoped simp] theorem ev_idx {a i : E} : ev C cs (.idx a i) env = (ev C cs a env).bind fun x e1 => (ev C cs i e1).bind fun y e2 => lift (idxD x y) e2 := rfl
@[scoped simp] theorem ev_sl {a : E} {lo hi : Eo} : ev C cs (.sl a lo hi) env = (ev C cs a env).bind fun x e1 => (evO C cs lo e1).bind fun l e2 => (evO C cs hi e2).bind fun h e3 => lift (slD x l h) e3 := rfl
@[scoped simp] theorem ev_rev {a : E} : ev C cs (.rev a) env = (ev C cs a env).bind fun x e1 => (match x with | .list ds => .ok (.list ds.reverse) e1 | _ => .bad) := rfl
@[scoped simp] theorem ev_toL {it : It} : ev C cs (.toL it) env = (evIt C cs it env).bind fun ds e => .ok (.list ds) e := rfl
@[scoped simp] theorem ev_toT {it : It} : ev C cs (.toT it) env = (evIt C cs it env).bind fun ds e => .ok (.tuple ds) e := rfl
@[scoped simp] theorem ev_call {f : PySem.Str} {rs : List Nat} {es : Es} : ev C cs (.call f rs es) env = (lift (getsV env rs) env).bind fun _ e0 => (evs C cs es e0).bind fun ds e => callS C.sig cs f rs ds e := rfl
@[scoped simp] theorem ev_callk {f : PySem.Str} {ks : List PySem.Str} {es : Es} : ev C cs (.callk f ks es) env = (evs C cs es env).bind fun ds e => (match C.sig f with
    | some s => (match kperm s.ps ks ds with
      | some xs => callS C.sig cs f [] xs e
      | none => .bad)
    | none => .bad) := rfl
@[scoped simp] theorem ev_bi {b : Bi} {a : E} : ev C cs (.bi b a) env = (ev C cs a env).bind fun x e1 => lift (biD b x) e1 := rfl
@[scoped simp] theorem ev_bi2 {b : Bi} {a c : E} : ev C cs (.bi2 b a c) env = (ev C cs a env).bind fun x e1 => (ev C cs c e1).bind fun y e2 => lift (bi2D b x y) e2 := rfl
@[scoped simp] theorem ev_setop {x : Bool} {a b : E} : ev C cs (.setop x a b) env = (ev C cs a env).bind fun u e1 => (lift (tupInts u) e1).bind fun ns e1 => (ev C cs b e1).bind fun v e2 => lift (setD x ns v) e2 := rfl
@[scoped simp] theorem ev_index {a b : E} : ev C cs (.index a b) env = (ev C cs a env).bind fun x e1 => (lift ((items x).bind intsOf) e1).bind fun ns e1 => (ev C cs b e1).bind fun y e2 => (match y with
    | .int k => if k ∈ ns then .ok (.int (ns.idxOf k : Nat)) e2 else .bad
    | _ => .bad) := rfl
@[scoped simp] theorem ev_stake {n : Nat} : ev C cs (.stake n) env = .ok (.list (il (C.scr.take n))) env := rfl
@[scoped simp] theorem ev_sortset {a : E} : ev C cs (.sortset a) env = (ev C cs a env).bind fun x e1 => lift (sortsetD x) e1 := rfl
@[scoped simp] theorem ev_slen : ev C cs .slen env = .ok (.int C.scr.length) env := rfl
@[scoped simp] theorem ev_maxk {a : E} {r : Nat} {df : Bool} : ev C cs (.maxk a r df) env = (lift (tupV env r) env).bind fun rds e0 => (ev C cs a e0).bind fun x e1 => lift (maxkD x rds df) e1 := rfl
theorem ev_comp {tg : Tg} {own : List Nat} {it : It} {c : Eo} {g : E} : ev C cs (.comp tg own it c g) env = (evIt C cs it env).bind fun ds e1 => (compX C cs tg own c g e1 ds e1).bind fun ys e => if ys.length ≤ lim then .ok (.list ys) e else .bad := rfl
@[scoped simp] theorem evO_no : evO C cs .no env = .ok none env := rfl
@[scoped simp] theorem evO_y {e : E} : evO C cs (.y e) env = (ev C cs e env).bind fun x e1 => (lift (optI x) e1).bind fun i e => .ok (some i) e := rfl
@[scoped simp] theorem evC_no : evC C cs .no env = .ok true env := rfl
@[scoped simp] theorem evC_y {e : E} : evC C cs (.y e) env = (ev C cs e env).bind fun x e1 => lift (tru x) e1 := rfl
@[scoped simp] theorem evIt_enum {a : E} : evIt C cs (.enum a) env = (ev C cs a env).bind fun x e1 => lift (enumI x) e1 := rfl
@[scoped simp] theorem evIt_rng1 {a : E} : evIt C cs (.rng1 a) env = (ev C cs a env).bind fun x e1 => (match x with | .int n => if rngOk 0 n then .ok (rngD 0 n) e1 else .bad | _ => .bad) := rfl
@[scoped simp] theorem evIt_rng2 {a b : E} : evIt C cs (.rng2 a b) env = (ev C cs a env).bind fun x e1 => (ev C cs b e1).bind fun y e2 => (match x, y with | .int i, .int j => if rngOk i j then .ok (rngD i j) e2 else .bad | _, _ => .bad) := rfl
@[scoped simp] theorem evIt_seq {e : E} : evIt C cs (.seq e) env = (ev C cs e env).bind fun x e1 => lift (items x) e1 := rfl
@[scoped simp] theorem evs_nil : evs C cs .nil env = .ok [] env := rfl
@[scoped simp] theorem evs_cons {a : E} {es : Es} : evs C cs (.cons a es) env = (ev C cs a env).bind fun x e1 => (evs C cs es e1).bind fun xs e2 => .ok (x :: xs) e2 := rfl
-- calls
@[scoped simp] theorem callS_e {sig : PySem.Str → Option Sig} {f : PySem.Str} {rs : List Nat} {ds : List PyData} : callS sig cs f rs ds env = (match sig f with
  | some s => if rs.length = s.nr ∧ rs.length + ds.length = s.ps.length then callD cs f rs ds env else .bad
  | none => .bad) := rfl
@[scoped simp] theorem callD_e {f : PySem.Str} {rs : List Nat} {ds : List PyData} : callD cs f rs ds env = (match getsV env rs with
  | none => .bad
  | some xs => match cs f (xs ++ ds) with
    | .ok d ys => .ok d (setsV env rs ys)
    | .exc x ys => .exc x (setsV env rs ys)
    | .bad => .bad) := rfl
-- statements
@[scoped simp] theorem ex_asg {i : Nat} {e : E} : ex C cs (.asg i false e) env = (ev C cs e env).bind fun d e1 => .ok .nx (setV e1 i d) := rfl
@[scoped simp] theorem ex_asgm {i : Nat} {e : E} : ex C cs (.asg i true e) env = (ev C cs e env).bind fun d e1 => (match d with
    | .list _ => if (muE e).all (flatAt e1) then .ok .nx (setV e1 i d) else .bad
    | _ => .bad) := rfl
@[scoped simp] theorem ex_asgT {is : List Nat} {e : E} : ex C cs (.asgT is e) env = (ev C cs e env).bind fun d e1 => (match tgSet (.t is) d e1 with | some e2 => .ok .nx e2 | none => .bad) := rfl
@[scoped simp] theorem ex_par {is : List Nat} {es : Es} : ex C cs (.par is es) env = (evs C cs es env).bind fun ds e1 => if ds.length = is.length then .ok .nx (setsV e1 is ds) else .bad := rfl
@[scoped simp] theorem ex_augI {sub : Bool} {i : Nat} {e : E} : ex C cs (.augI sub i e) env = (lift (getI env i) env).bind fun x e0 => (ev C cs e e0).bind fun y e1 => (lift (augD sub x y) e1).bind fun z e2 => .ok .nx (setV e2 i z) := rfl
@[scoped simp] theorem ex_ins {i : Nat} {es : Es} : ex C cs (.ins i es) env = (lift (getV env i) env).bind fun _ e0 => (evs C cs es e0).bind fun us e1 => (lift ((getV e1 i).bind fun x => insD x us) e1).bind fun y e1 => .ok .nx (setV e1 i y) := rfl
@[scoped simp] theorem ex_parN {i j : Nat} {e : E} : ex C cs (.parN i j e) env = (ev C cs e env).bind fun d e1 => .ok .nx (setV (setV e1 i d) j (.list [])) := rfl
@[scoped simp] theorem ex_app {i : Nat} {e : E} : ex C cs (.app i e) env = (lift (getV env i) env).bind fun _ e0 => (ev C cs e e0).bind fun d e1 => (match getV e1 i with
    | some (.list ds) => if ds.length < lim then .ok .nx (setV e1 i (.list (ds ++ [d]))) else .bad
    | _ => .bad) := rfl
@[scoped simp] theorem ex_seti {i : Nat} {ix e : E} : ex C cs (.seti i ix e) env = (ev C cs e env).bind fun d e1 => (lift (getV e1 i) e1).bind fun _ e1 => (ev C cs ix e1).bind fun k e2 => (match getV e2 i, k with
    | some (.list ds), .int k => (match L2.ixN ds.length k with
      | some j => .ok .nx (setV e2 i (.list (ds.set j d)))
      | none => .bad)
    | _, _ => .bad) := rfl
@[scoped simp] theorem ex_asgf {i : Nat} {e : E} : ex C cs (.asgf i false e) env = ((ev C cs e env).bind fun d e1 => if flatL d then .ok d e1 else .bad).bind fun d e1 => .ok .nx (setV e1 i d) := rfl
@[scoped simp] theorem ex_asgfm {i : Nat} {e : E} : ex C cs (.asgf i true e) env = ((ev C cs e env).bind fun d e1 => if flatL d then .ok d e1 else .bad).bind fun d e1 => (match d with
    | .list _ => if (muE e).all (flatAt e1) then .ok .nx (setV e1 i d) else .bad
    | _ => .bad) := rfl
@[scoped simp] theorem ex_ext {i : Nat} {e : E} : ex C cs (.ext i e) env = (lift (getV env i) env).bind fun _ e0 => (ev C cs e e0).bind fun d e1 => (match getV e1 i, d with
    | some (.list ds), .list es => if ds.length + es.length ≤ lim then .ok .nx (setV e1 i (.list (ds ++ es))) else .bad
    | _, _ => .bad) := rfl
@[scoped simp] theorem ex_seta {sub : Bool} {i : Nat} {ix e : E} : ex C cs (.seta sub i ix e) env = (lift (getV env i) env).bind fun _ e0 => (ev C cs ix e0).bind fun k e1 => (lift (((getV e1 i).bind fun x => idxD x k).bind intD) e1).bind fun a e1 => (ev C cs e e1).bind fun y e2 => (lift (augD sub a y) e2).bind fun z e3 => (match getV e3 i, k with
    | some (.list ds), .int k => (match L2.ixN ds.length k with
      | some j => .ok .nx (setV e3 i (.list (ds.set j z)))
      | none => .bad)
    | _, _ => .bad) := rfl
@[scoped simp] theorem ex_ex {e : E} : ex C cs (.ex e) env = (ev C cs e env).bind fun _ e1 => .ok .nx e1 := rfl
@[scoped simp] theorem ex_ret {e : E} : ex C cs (.ret e) env = (ev C cs e env).bind fun d e1 => .ok (.ret d) e1 := rfl
@[scoped simp] theorem ex_ret0 : ex C cs .ret0 env = .ok (.ret .none) env := rfl
@[scoped simp] theorem ex_ifs {c : E} {a b : Ss} : ex C cs (.ifs c a b) env = (ev C cs c env).bind fun x e1 => (lift (tru x) e1).bind fun k e => if k then exs C cs a e else exs C cs b e := rfl
@[scoped simp] theorem ex_for {tg : Tg} {it : It} {b : Ss} : ex C cs (.for tg it b) env = (evIt C cs it env).bind fun ds e => forX C cs tg b ds e := rfl
@[scoped simp] theorem ex_whl {n : Nat} {c : E} {b : Ss} : ex C cs (.whl n c b) env = whlX C cs n c b env := rfl
@[scoped simp] theorem ex_try {b : Ss} {hs : Hs} : ex C cs (.try b hs) env = (match exs C cs b env with
    | .ok f e => .ok f e
    | .exc x e => exh C cs x hs e
    | .bad => .bad) := rfl
@[scoped simp] theorem ex_raise {cls : PySem.Str} : ex C cs (.raise cls) env = .exc ⟨cls, none⟩ env := rfl
@[scoped simp] theorem ex_pass : ex C cs .pass env = .ok .nx env := rfl
@[scoped simp] theorem exs_nil : exs C cs .nil env = .ok .nx env := rfl
@[scoped simp] theorem exs_cons {s : S} {r : Ss} : exs C cs (.cons s r) env = (ex C cs s env).bind fun f e => (match f with
    | .nx => exs C cs r e
    | .ret d => .ok (.ret d) e) := rfl
@[scoped simp] theorem ex_tryas {b : Ss} {hc : PySem.Str} {i : Nat} {t : Cls} : ex C cs (.tryas b hc i t) env = (match exs C cs b env with
    | .ok f e => .ok f e
    | .exc x e => (match C.exm x.cls hc with
      | some true => (match x.fld with
        | none => if i < e.length then endN i (exq C cs x.cls t (e.set i none)) else .bad
        | some _ => .bad)
      | some false => .exc x e
      | none => .bad)
    | .bad => .bad) := rfl
@[scoped simp] theorem ex_trym {b : Ss} {hs : Hm} : ex C cs (.trym b hs) env = (match exs C cs b env with
    | .ok f e => .ok f e
    | .exc x e => exm C cs x hs e
    | .bad => .bad) := rfl
@[scoped simp] theorem exm_nil {x : Exn} : exm C cs x .nil env = .exc x env := rfl
@[scoped simp] theorem exm_cons {x : Exn} {hc : PySem.Str} {i : Nat} {t : Cls} {r : Hm} : exm C cs x (.cons hc i t r) env = (match C.exm x.cls hc with
    | some true => (match x.fld with
      | none => if i < env.length then endN i (exq C cs x.cls t (env.set i none)) else .bad
      | some _ => .bad)
    | some false => exm C cs x r env
    | none => .bad) := rfl
@[scoped simp] theorem exq_cons {c d : PySem.Str} {b : Ss} {r : Cls} : exq C cs c (.cons d b r) env = if d = c then exs C cs b env else exq C cs c r env := rfl
@[scoped simp] theorem endN_ok {i : Nat} {f : Flw} {e : VF.Env} : endN i (.ok f e) = .ok f (e.set i none) := rfl
@[scoped simp] theorem exh_nil {x : Exn} : exh C cs x .nil env = .exc x env := rfl
@[scoped simp] theorem exh_cons {x : Exn} {cls : PySem.Str} {b : Ss} {r : Hs} : exh C cs x (.cons cls b r) env = (match C.exm x.cls cls with
    | some true => (exs C cs b env).nox
    | some false => exh C cs x r env
    | none => .bad) := rfl
@[scoped simp] theorem tgSet_n {i : Nat} {d : PyData} : tgSet (.n i) d env = some (setV env i d) := rfl
@[scoped simp] theorem tgSet_l {is : List Nat} {ds : List PyData} : tgSet (.t is) (.list ds) env = if ds.length = is.length then some (setsV env is ds) else none := rfl
@[scoped simp] theorem tgSet_t {is : List Nat} {ds : List PyData} : tgSet (.t is) (.tuple ds) env = if ds.length = is.length then some (setsV env is ds) else none := rfl
-- values
@[scoped simp] theorem tru_n : tru .none = some false := rfl
@[scoped simp] theorem tru_b {b : Bool} : tru (.bool b) = some b := rfl
@[scoped simp] theorem tru_i {i : Int} : tru (.int i) = some (i != 0) := rfl
@[scoped simp] theorem tru_l {ds : List PyData} : tru (.list ds) = some (!ds.isEmpty) := rfl
@[scoped simp] theorem tru_t {ds : List PyData} : tru (.tuple ds) = some (!ds.isEmpty) := rfl
@[scoped simp] theorem items_l {ds : List PyData} : items (.list ds) = some ds := rfl
@[scoped simp] theorem items_t {ds : List PyData} : items (.tuple ds) = some ds := rfl
@[scoped simp] theorem optI_i {i : Int} : optI (.int i) = some i := rfl
@[scoped simp] theorem idx_l {ds : List PyData} {i : Int} : idxD (.list ds) (.int i) = L2.atI ds i := rfl
@[scoped simp] theorem idx_t {ds : List PyData} {i : Int} : idxD (.tuple ds) (.int i) = L2.atI ds i := rfl
@[scoped simp] theorem sl_l {ds : List PyData} {l h : Option Int} : slD (.list ds) l h = some (.list (cutD ds l h)) := rfl
@[scoped simp] theorem sl_t {ds : List PyData} {l h : Option Int} : slD (.tuple ds) l h = some (.tuple (cutD ds l h)) := rfl
@[scoped simp] theorem bi_len_l {ds : List PyData} : biD .len (.list ds) = some (.int ds.length) := rfl
@[scoped simp] theorem bi_len_t {ds : List PyData} : biD .len (.tuple ds) = some (.int ds.length) := rfl
@[scoped simp] theorem bi_int_i {i : Int} : biD .int (.int i) = some (.int i) := rfl
@[scoped simp] theorem bi_int_b {b : Bool} : biD .int (.bool b) = some (.int (if b then 1 else 0)) := rfl
@[scoped simp] theorem bi_tyIs {d : PyData} {t : String} : biD (.tyIs t) d = some (.bool (tyD d == t)) := rfl
@[scoped simp] theorem bi_tyNo {d : PyData} {t : String} : biD (.tyNo t) d = some (.bool (!(tyD d == t))) := rfl
@[scoped simp] theorem bi_is1 {d : PyData} {t : String} : biD (.is1 t) d = some (.bool (isT1 d t)) := rfl
@[scoped simp] theorem bi_sorted_l {ds : List PyData} : biD .sorted (.list ds) = (sortD ds).map .list := rfl
@[scoped simp] theorem bi_sorted_t {ds : List PyData} : biD .sorted (.tuple ds) = (sortD ds).map .list := rfl
@[scoped simp] theorem bi_all {ds : List PyData} : biD .all (.list ds) = (boolsOf ds).map fun bs => .bool (bs.all id) := rfl
@[scoped simp] theorem bi_any {ds : List PyData} : biD .any (.list ds) = (boolsOf ds).map fun bs => .bool (bs.any id) := rfl
@[scoped simp] theorem bi_max {ds : List PyData} : biD .maxl (.list ds) = (match intsOf ds with | some ns => (maxI ns).map .int | none => (pairsOf ds).bind maxP) := rfl
@[scoped simp] theorem bi2_max {i j : Int} : bi2D .max2 (.int i) (.int j) = some (.int (if j > i then j else i)) := rfl
@[scoped simp] theorem bi2_min {i j : Int} : bi2D .min2 (.int i) (.int j) = some (.int (if j < i then j else i)) := rfl
@[scoped simp] theorem add_i {i j : Int} : binD .add (.int i) (.int j) = some (.int (i + j)) := rfl
@[scoped simp] theorem sub_i {i j : Int} : binD .sub (.int i) (.int j) = some (.int (i - j)) := rfl
@[scoped simp] theorem add_l {a b : List PyData} : binD .add (.list a) (.list b) = if a.length + b.length ≤ lim then some (.list (a ++ b)) else none := rfl
@[scoped simp] theorem add_t {a b : List PyData} : binD .add (.tuple a) (.tuple b) = if a.length + b.length ≤ lim then some (.tuple (a ++ b)) else none := rfl
@[scoped simp] theorem mod_i {i j : Int} : binD .mod (.int i) (.int j) = if 0 < j then some (.int (i % j)) else none := rfl
@[scoped simp] theorem fdiv_i {i j : Int} : binD .fdiv (.int i) (.int j) = if 0 < j ∧ j.natAbs.log2 < 9000 then some (.int (i / j)) else none := rfl
theorem mul_i {i j : Int} : binD .mul (.int i) (.int j) = if i.natAbs.log2 + j.natAbs.log2 < 1000000 then some (.int (i * j)) else if i.natAbs.log2 + j.natAbs.log2 < 4000000 then some (.int (i * j)) else none := rfl
@[scoped simp] theorem mul_l {a : List PyData} {k : Int} : binD .mul (.list a) (.int k) = if -1000 ≤ k ∧ k ≤ 1000 ∧ a.length ≤ 1000 then some (.list (List.replicate k.toNat a).flatten) else none := rfl
@[scoped simp] theorem lt_i {i j : Int} : cmpD .lt (.int i) (.int j) = some (decide (i < j)) := rfl
@[scoped simp] theorem le_i {i j : Int} : cmpD .le (.int i) (.int j) = some (decide (i ≤ j)) := rfl
@[scoped simp] theorem gt_i {i j : Int} : cmpD .gt (.int i) (.int j) = some (decide (j < i)) := rfl
@[scoped simp] theorem ge_i {i j : Int} : cmpD .ge (.int i) (.int j) = some (decide (j ≤ i)) := rfl
theorem eqv_i {i j : Int} : PyData.eqv (.int i) (.int j) = decide (i = j) := by
  simp [PyData.eqv]
  rfl
@[scoped simp] theorem eq_i {i j : Int} : cmpD .eq (.int i) (.int j) = some (decide (i = j)) := by rw [← eqv_i]; rfl
@[scoped simp] theorem ne_i {i j : Int} : cmpD .ne (.int i) (.int j) = some (!decide (i = j)) := by rw [← eqv_i]; rfl
theorem eqv_b {i j : Bool} : PyData.eqv (.bool i) (.bool j) = (i == j) := by cases i <;> cases j <;> rfl
@[scoped simp] theorem eq_b {i j : Bool} : cmpD .eq (.bool i) (.bool j) = some (i == j) := by rw [← eqv_b]; rfl
@[scoped simp] theorem ne_b {i j : Bool} : cmpD .ne (.bool i) (.bool j) = some (!(i == j)) := by rw [← eqv_b]; rfl
@[scoped simp] theorem il_len {ks : List Int} : (il ks).length = ks.length := by simp [il]
@[scoped simp] theorem il_empty {ks : List Int} : (il ks).isEmpty = ks.isEmpty := by simp [il]
@[scoped simp] theorem il_app {a b : List Int} : il a ++ il b = il (a ++ b) := by simp [il]
@[scoped simp] theorem il_nil : il [] = [] := rfl
theorem il_cons {a : Int} {b : List Int} : il (a :: b) = .int a :: il b := rfl
@[scoped simp] theorem il_snoc {a : List Int} {x : Int} : il a ++ [.int x] = il (a ++ [x]) := by simp [il]
@[scoped simp] theorem il_rev {a : List Int} : (il a).reverse = il a.reverse := by simp [il]
@[scoped simp] theorem il_ints {ks : List Int} : intsOf (il ks) = some ks := by
  unfold il
  induction ks with
  | nil => rfl
  | cons k ks ih => simp [intsOf, ih]
@[scoped simp] theorem il_flat {ks : List Int} : (il ks).all flat = true := by
  unfold il
  induction ks with
  | nil => rfl
  | cons k ks ih => simp [flat]
theorem il_mem {ks : List Int} {d : PyData} (h : d ∈ il ks) : ∃ k, k ∈ ks ∧ d = .int k := by
  obtain ⟨k, h1, h2⟩ := List.mem_map.mp h
  exact ⟨k, h1, h2.symm⟩
theorem il_any {x : Int} {ks : List Int} : ((il ks).any fun z => PyData.eqv z (.int x)) = decide (x ∈ ks) := by
  unfold il
  induction ks with
  | nil => simp
  | cons a ks ih => simp [eqv_i, ih, eq_comm]
theorem lay_il (ks : List Int) : PyData.canLayAll0 (il ks) = true := by
  unfold il
  induction ks with
  | nil => rfl
  | cons x ks ih => simp [PyData.canLayAll0, PyData.canLay0, ih]
theorem dep_il (ks : List Int) : PyData.depthAll (il ks) ≤ 1 := by
  unfold il
  induction ks with
  | nil => simp [PyData.depthAll]
  | cons x ks ih => simp [PyData.depthAll, PyData.depth]; omega
theorem shp_il {ks : List Int} : VF.shp (.list (il ks)) = true := by
  unfold VF.shp SeqAt.shaped
  have h := dep_il ks
  have e : PyData.canLay0 (.list (il ks)) = true := by simp [PyData.canLay0, lay_il]
  rw [e, Bool.true_and, decide_eq_true_eq]
  simp only [PyData.depth]
  omega
theorem shp_ilt {ks : List Int} : VF.shp (.tuple (il ks)) = true := by
  unfold VF.shp SeqAt.shaped
  have h := dep_il ks
  have e : PyData.canLay0 (.tuple (il ks)) = true := by simp [PyData.canLay0, lay_il]
  rw [e, Bool.true_and, decide_eq_true_eq]
  simp only [PyData.depth]
  omega
@[scoped simp] theorem in_t {x : Int} {ks : List Int} : cmpD .isin (.int x) (.tuple (il ks)) = some (decide (x ∈ ks)) := by
  show (if flat (.int x) && (il ks).all flat then some ((il ks).any fun z => PyData.eqv z (.int x)) else _) = _
  rw [il_flat, il_any]
  rfl
@[scoped simp] theorem notin_t {x : Int} {ks : List Int} : cmpD .notin (.int x) (.tuple (il ks)) = some (!decide (x ∈ ks)) := by
  show (if flat (.int x) && (il ks).all flat then some (!(il ks).any fun z => PyData.eqv z (.int x)) else _) = _
  rw [il_flat, il_any]
  rfl
@[scoped simp] theorem in_l {x : Int} {ks : List Int} : cmpD .isin (.int x) (.list (il ks)) = some (decide (x ∈ ks)) := by
  show (if VF.shp (.int x) && VF.shp (.list (il ks)) then some ((il ks).any fun z => PyData.eqv z (.int x)) else none) = _
  rw [shp_il, il_any]
  rfl
@[scoped simp] theorem notin_l {x : Int} {ks : List Int} : cmpD .notin (.int x) (.list (il ks)) = some (!decide (x ∈ ks)) := by
  show (if VF.shp (.int x) && VF.shp (.list (il ks)) then some (!(il ks).any fun z => PyData.eqv z (.int x)) else none) = _
  rw [shp_il, il_any]
  rfl
theorem eq_sh {x y : PyData} (hx : VF.shp x = true) (hy : VF.shp y = true) : cmpD .eq x y = some (PyData.eqv x y) := by
  show (if VF.shp x && VF.shp y then some (PyData.eqv x y) else none) = _
  rw [hx, hy]
  rfl
theorem ne_sh {x y : PyData} (hx : VF.shp x = true) (hy : VF.shp y = true) : cmpD .ne x y = some (!PyData.eqv x y) := by
  show (if VF.shp x && VF.shp y then some (!PyData.eqv x y) else none) = _
  rw [hx, hy]
  rfl
theorem notin_sh {x : PyData} {ds : List PyData} (hx : VF.shp x = true) (hy : VF.shp (.list ds) = true) : cmpD .notin x (.list ds) = some (!ds.any fun z => PyData.eqv z x) := by
  show (if VF.shp x && VF.shp (.list ds) then some (!ds.any fun z => PyData.eqv z x) else none) = _
  rw [hx, hy]
  rfl
theorem in_sh {x : PyData} {ds : List PyData} (hx : VF.shp x = true) (hy : VF.shp (.list ds) = true) : cmpD .isin x (.list ds) = some (ds.any fun z => PyData.eqv z x) := by
  show (if VF.shp x && VF.shp (.list ds) then some (ds.any fun z => PyData.eqv z x) else none) = _
  rw [hx, hy]
  rfl
/-- the whole numbers below n -/
def upto (n : Nat) : List Int := (List.range n).map fun i => ((i : Nat) : Int)
@[scoped simp] theorem rng_up {n : Nat} : rngD 0 (n : Int) = il (upto n) := by
  simp [rngD, il, upto]
@[scoped simp] theorem upto_len {n : Nat} : (upto n).length = n := by simp [upto]
theorem rng_ok {n : Nat} (h : n ≤ 1000000) : rngOk 0 (n : Int) = true := by
  unfold rngOk
  rw [decide_eq_true_eq]
  omega
theorem at_il {ks : List Int} {i : Nat} (h : i < ks.length) : L2.atI (il ks) (i : Int) = some (.int ks[i]) := by
  unfold L2.atI L2.ixN il
  have h0 : (0 : Int) ≤ (i : Int) := by omega
  have h1 : (i : Int) < (ks.length : Int) := by omega
  simp [h0, h1, h]
theorem at_nat {ds : List PyData} {i : Nat} (h : i < ds.length) : L2.atI ds (i : Int) = some ds[i] := by
  unfold L2.atI L2.ixN
  have h0 : (0 : Int) ≤ (i : Int) := by omega
  have h1 : (i : Int) < (ds.length : Int) := by omega
  simp [h0, h1, h]
@[scoped simp] theorem at_0 {d : PyData} {ds : List PyData} : L2.atI (d :: ds) 0 = some d := by
  have := at_nat (ds := d :: ds) (i := 0) (by simp)
  simpa using this
@[scoped simp] theorem at_1 {d e : PyData} {ds : List PyData} : L2.atI (d :: e :: ds) 1 = some e := by
  have := at_nat (ds := d :: e :: ds) (i := 1) (by simp)
  simpa using this
@[scoped simp] theorem at_2 {d e f : PyData} {ds : List PyData} : L2.atI (d :: e :: f :: ds) 2 = some f := by
  have := at_nat (ds := d :: e :: f :: ds) (i := 2) (by simp)
  simpa using this
theorem cut_take {ds : List PyData} {n : Nat} : cutD ds none (some (n : Int)) = ds.take n := by
  unfold cutD
  rw [HT.sIx_none, HT.sIx_nat, List.drop_zero, Nat.sub_zero]
  rcases Nat.le_total n ds.length with q | q
  · rw [Nat.min_eq_left q]
  · rw [Nat.min_eq_right q, List.take_of_length_le (Nat.le_refl _), List.take_of_length_le q]
theorem cut_drop {ds : List PyData} {n : Nat} : cutD ds (some (n : Int)) none = ds.drop n := by
  unfold cutD
  rw [HT.sIx_none, HT.sIx_nat]
  rcases Nat.le_total n ds.length with q | q
  · rw [Nat.min_eq_left q, List.take_of_length_le (by rw [List.length_drop]; exact Nat.le_refl _)]
  · rw [Nat.min_eq_right q, Nat.sub_self, List.take_zero, List.drop_eq_nil_of_le q]
end
/-! ### a text runs to its end -/
section
variable {C : Cfg} {cs : Calls} {env : VF.Env} {tab : PySem.Str → Option Df}
/-- it ends well, and P holds then -/
def Ru {α : Type} (o : Out α) (P : α → VF.Env → Prop) : Prop := ∃ a e, o = .ok a e ∧ P a e
theorem Ru.ok {α : Type} {a : α} {e : VF.Env} {P : α → VF.Env → Prop} (h : P a e) : Ru (.ok a e) P := ⟨a, e, rfl, h⟩
theorem Ru.bind {α β : Type} {o : Out α} {f : α → VF.Env → Out β} {Q : α → VF.Env → Prop} {P : β → VF.Env → Prop} (h : Ru o Q) (k : ∀ a e, Q a e → Ru (f a e) P) : Ru (o.bind f) P := by
  obtain ⟨a, e, rfl, q⟩ := h
  exact k a e q
theorem Ru.imp {α : Type} {o : Out α} {P Q : α → VF.Env → Prop} (h : Ru o Q) (k : ∀ a e, Q a e → P a e) : Ru o P := by
  obtain ⟨a, e, rfl, q⟩ := h
  exact ⟨a, e, rfl, k a e q⟩
theorem call_ok {k : Nat} {f : PySem.Str} {ds : List PyData} {d : Df} (h : tab f = some d) : calls C tab (k + 1) f ds = run1 C (calls C tab k) d ds := by
  show (match tab f with | some d => run1 C (calls C tab k) d ds | none => .bad) = _
  rw [h]
theorem run1_ret {d : Df} {ds : List PyData} {v : PyData} {e : VF.Env} {rs : List PyData} (hl : ds.length = d.np) (h : exs C cs d.body (ds.map some ++ List.replicate (d.n - d.np) none) = .ok (.ret v) e) (hr : getsV e (List.range d.nr) = some rs) : run1 C cs d ds = .ok v rs := by
  unfold run1
  rw [if_pos hl, h]
  simp only [hr]
theorem run1_nx {d : Df} {ds : List PyData} {e : VF.Env} {rs : List PyData} (hl : ds.length = d.np) (h : exs C cs d.body (ds.map some ++ List.replicate (d.n - d.np) none) = .ok .nx e) (hr : getsV e (List.range d.nr) = some rs) : run1 C cs d ds = .ok .none rs := by
  unfold run1
  rw [if_pos hl, h]
  simp only [hr]
theorem run1_exc {d : Df} {ds : List PyData} {x : Exn} {e : VF.Env} {rs : List PyData} (hl : ds.length = d.np) (h : exs C cs d.body (ds.map some ++ List.replicate (d.n - d.np) none) = .exc x e) (hr : getsV e (List.range d.nr) = some rs) : run1 C cs d ds = .exc x rs := by
  unfold run1
  rw [if_pos hl, h]
  simp only [hr]
/-- a call without owned lists tells what its body tells -/
theorem call_ret {k : Nat} {f : PySem.Str} {ds : List PyData} {d : Df} {v : PyData} (h : tab f = some d) (hl : ds.length = d.np) (hr : d.nr = 0) (hb : Ru (exs C (calls C tab k) d.body (ds.map some ++ List.replicate (d.n - d.np) none)) fun f _ => f = .ret v) : calls C tab (k + 1) f ds = .ok v [] := by
  obtain ⟨a, e, h1, rfl⟩ := hb
  rw [call_ok h]
  exact run1_ret hl h1 (by rw [hr]; rfl)
theorem whlX_s {n : Nat} {c : E} {b : Ss} : whlX C cs (n + 1) c b env = ((ev C cs c env).bind fun x e1 => lift (tru x) e1).bind fun k e1 => if k then (exs C cs b e1).bind fun f e2 => (match f with
      | .nx => whlX C cs n c b e2
      | .ret d => .ok (.ret d) e2) else .ok .nx e1 := rfl
theorem exs_nx {s : S} {r : Ss} {e : VF.Env} (h : ex C cs s env = .ok .nx e) : exs C cs (.cons s r) env = exs C cs r e := by
  rw [exs_cons, h]
  rfl
/-- comprehensions that change nothing -/
theorem back1 {i : Nat} {d : PyData} (hi : i < env.length) : backE env (setV env i d) [i] = env := by
  refine List.ext_getElem? fun j => ?_
  simp only [backE, setV, List.set_set]
  by_cases q : i = j
  · subst q
    rw [List.getElem?_set_self hi, List.getElem?_eq_getElem hi]
    simp
  · rw [List.getElem?_set_ne q]
theorem wipe1 {i : Nat} {d : PyData} : setV (wipeE env [i]) i d = setV env i d := by
  simp only [setV, wipeE, List.set_set]
theorem compX_pure {i : Nat} {c : Eo} {g : E} {p : PyData → Bool} {f : PyData → PyData} (hi : i < env.length) : ∀ {ds : List PyData},
    (∀ d ∈ ds, evC C cs c (setV env i d) = .ok (p d) (setV env i d) ∧ (p d = true → ev C cs g (setV env i d) = .ok (f d) (setV env i d))) →
    compX C cs (.n i) [i] c g env ds env = .ok ((ds.filter p).map f) env
  | [], _ => rfl
  | d :: ds, h => by
    obtain ⟨h1, h2⟩ := h d List.mem_cons_self
    have ih := compX_pure (p := p) (f := f) hi (ds := ds) fun x hx => h x (List.mem_cons_of_mem _ hx)
    unfold compX at ih ⊢
    unfold compL
    simp only [tgSet, wipe1]
    cases hp : p d with
    | true =>
      rw [hp] at h1
      rw [h1]
      dsimp only
      rw [h2 hp]
      dsimp only
      rw [back1 hi, ih, List.filter_cons_of_pos hp]
      rfl
    | false =>
      rw [hp] at h1
      rw [h1]
      dsimp only
      rw [back1 hi, ih, List.filter_cons_of_neg (by rw [hp]; decide)]
/-- one that asks for whole numbers, with a condition -/
theorem comp_il {i : Nat} {it : It} {c : Eo} {g : E} {ks : List Int} {p : Int → Bool} {f : Int → PyData} (hit : evIt C cs it env = .ok (il ks) env) (hi : i < env.length) (hl : ks.length ≤ 1000000)
    (h : ∀ k ∈ ks, evC C cs c (setV env i (.int k)) = .ok (p k) (setV env i (.int k)) ∧ (p k = true → ev C cs g (setV env i (.int k)) = .ok (f k) (setV env i (.int k)))) :
    ev C cs (.comp (.n i) [i] it c g) env = .ok (.list ((ks.filter p).map f)) env := by
  rw [ev_comp, hit]
  show ((compX C cs (.n i) [i] c g env (il ks) env).bind _) = _
  rw [compX_pure (p := fun d => match d with | .int k => p k | _ => false) (f := fun d => match d with | .int k => f k | d => d) hi (ds := il ks) fun d hd => by
    obtain ⟨k, hk, rfl⟩ := il_mem hd
    exact h k hk]
  have e : ((il ks).filter (fun d => match d with | .int k => p k | _ => false)).map (fun d => match d with | .int k => f k | d => d) = (ks.filter p).map f := by
    unfold il
    rw [List.filter_map, List.map_map]
    rfl
  rw [e, bind_ok, if_pos]
  rw [List.length_map]
  exact Nat.le_trans (List.length_filter_le _ _) hl
/-- whole numbers from whole numbers -/
theorem comp_ii {i : Nat} {it : It} {c : Eo} {g : E} {ks : List Int} {p : Int → Bool} {f : Int → Int} (hit : evIt C cs it env = .ok (il ks) env) (hi : i < env.length) (hl : ks.length ≤ 1000000)
    (h : ∀ k ∈ ks, evC C cs c (setV env i (.int k)) = .ok (p k) (setV env i (.int k)) ∧ (p k = true → ev C cs g (setV env i (.int k)) = .ok (.int (f k)) (setV env i (.int k)))) :
    ev C cs (.comp (.n i) [i] it c g) env = .ok (.list (il ((ks.filter p).map f))) env := by
  rw [comp_il (f := fun k => .int (f k)) hit hi hl h]
  simp [il]
/-- any values -/
theorem comp_ds {i : Nat} {it : It} {c : Eo} {g : E} {ds : List PyData} {p : PyData → Bool} {f : PyData → PyData} (hit : evIt C cs it env = .ok ds env) (hi : i < env.length) (hl : ds.length ≤ 1000000)
    (h : ∀ d ∈ ds, evC C cs c (setV env i d) = .ok (p d) (setV env i d) ∧ (p d = true → ev C cs g (setV env i d) = .ok (f d) (setV env i d))) :
    ev C cs (.comp (.n i) [i] it c g) env = .ok (.list ((ds.filter p).map f)) env := by
  rw [ev_comp, hit]
  show ((compX C cs (.n i) [i] c g env ds env).bind _) = _
  rw [compX_pure (p := p) (f := f) hi h, bind_ok, if_pos]
  rw [List.length_map]
  exact Nat.le_trans (List.length_filter_le _ _) hl
/-- a loop by its invariant -/
theorem forX_inv {tg : Tg} {b : Ss} (I : Nat → VF.Env → Prop) : ∀ (ds : List PyData) (n : Nat) (env : VF.Env), I n env → (∀ i d env, ds[i]? = some d → I (n + i) env → ∃ e1, tgSet tg d env = some e1 ∧ Ru (exs C cs b e1) fun f e => f = .nx ∧ I (n + i + 1) e) → Ru (forX C cs tg b ds env) fun f e => f = .nx ∧ I (n + ds.length) e
  | [], n, env, h0, _ => ⟨_, _, rfl, rfl, h0⟩
  | d :: ds, n, env, h0, h => by
    obtain ⟨e1, h1, a, e2, h2, rfl, h3⟩ := h 0 d env rfl h0
    have ih := forX_inv (tg := tg) (b := b) I ds (n + 1) e2 h3 fun i d' env' hd hi => by
      have := h (i + 1) d' env' (by simpa using hd) (by rw [show n + (i + 1) = n + 1 + i by omega]; exact hi)
      rw [show n + (i + 1) = n + 1 + i by omega] at this
      exact this
    rw [show n + (d :: ds).length = n + 1 + ds.length by simp; omega]
    have e : forX C cs tg b (d :: ds) env = forX C cs tg b ds e2 := by
      show (match tgSet tg d env with | none => _ | some e1 => _) = _
      rw [h1]
      show (exs C cs b e1).bind _ = _
      rw [h2]
      rfl
    rw [e]
    exact ih
theorem for_inv {tg : Tg} {b : Ss} {ds : List PyData} {env : VF.Env} (I : Nat → VF.Env → Prop) (h0 : I 0 env) (h : ∀ i d env, ds[i]? = some d → I i env → ∃ e1, tgSet tg d env = some e1 ∧ Ru (exs C cs b e1) fun f e => f = .nx ∧ I (i + 1) e) : Ru (forX C cs tg b ds env) fun f e => f = .nx ∧ I ds.length e := by
  have := forX_inv (C := C) (cs := cs) (tg := tg) (b := b) I ds 0 env h0 fun i d env hd hi => by
    rw [Nat.zero_add] at hi ⊢
    exact h i d env hd hi
  rwa [Nat.zero_add] at this
/-- a loop that may end with an answer -/
theorem for_ret {tg : Tg} {b : Ss} (I : Nat → VF.Env → Prop) (R : PyData → VF.Env → Prop) : ∀ (ds : List PyData) (n : Nat) (env : VF.Env), I n env → (∀ i d env, ds[i]? = some d → I (n + i) env → ∃ e1, tgSet tg d env = some e1 ∧ Ru (exs C cs b e1) fun f e => (f = .nx ∧ I (n + i + 1) e) ∨ ∃ v, f = .ret v ∧ R v e) → Ru (forX C cs tg b ds env) fun f e => (f = .nx ∧ I (n + ds.length) e) ∨ ∃ v, f = .ret v ∧ R v e
  | [], n, env, h0, _ => ⟨_, _, rfl, .inl ⟨rfl, h0⟩⟩
  | d :: ds, n, env, h0, h => by
    obtain ⟨e1, h1, a, e2, h2, q⟩ := h 0 d env rfl h0
    rcases q with ⟨rfl, h3⟩ | ⟨v, rfl, h3⟩
    · have ih := for_ret (tg := tg) (b := b) I R ds (n + 1) e2 h3 fun i d' env' hd hi => by
        have := h (i + 1) d' env' (by simpa using hd) (by rw [show n + (i + 1) = n + 1 + i by omega]; exact hi)
        rw [show n + (i + 1) = n + 1 + i by omega] at this
        exact this
      rw [show n + (d :: ds).length = n + 1 + ds.length by simp; omega]
      have e : forX C cs tg b (d :: ds) env = forX C cs tg b ds e2 := by
        show (match tgSet tg d env with | none => _ | some e1 => _) = _
        rw [h1]
        show (exs C cs b e1).bind _ = _
        rw [h2]
        rfl
      rw [e]
      exact ih
    · refine ⟨.ret v, e2, ?_, .inr ⟨v, rfl, h3⟩⟩
      show (match tgSet tg d env with | none => _ | some e1 => _) = _
      rw [h1]
      show (exs C cs b e1).bind _ = _
      rw [h2]
      rfl
end
end Sy
set_option Elab.async false
set_option linter.all false
set_option maxRecDepth 100000
set_option maxHeartbeats 0
namespace Hd
open PySem PySem.Spec PyProof.Rows L2
def top (i : Nat) : Stmt := PySem.Challenge.pw_oneshape_k29_whole_page_stretches.main.body.getD i (.Pass ⟨0, 0, 0, 0⟩)
def dd (x : Str) (i : Nat) : He.DefD := ⟨(x, none), x, x, defArgs (top i), defBody (top i), defScope (top i), [], []⟩
def fn : List He.DefD := [dd "holds_levels" 7, dd "check_levels" 8, dd "inner_of" 10, dd "stretches_within" 11, dd "whole_of" 12, dd "page_stretches" 14, dd "_all_stretches" 15, dd "inner_stretches" 16, dd "_holds_stretch" 17, dd "_law_source" 19, dd "_law_draw" 20, dd "_law_same" 21, dd "_law_levels" 22, dd "_law_stretches" 23, dd "_law_inner" 24, dd "_law_bad_levels" 25, dd "_law_told" 26, dd "_law_inner_right" 27, dd "_law_refused_right" 28, dd "law" 29]
def fa0 : List He.Fa := [.glo "holds_levels", .glo "check_levels", .glo "inner_of", .glo "stretches_within", .glo "whole_of", .glo "page_stretches", .glo "_all_stretches", .glo "inner_stretches", .glo "_holds_stretch", .glo "_law_source", .glo "_law_draw", .glo "_law_same", .glo "_law_levels", .glo "_law_stretches", .glo "_law_inner", .glo "_law_bad_levels", .glo "_law_told", .glo "_law_inner_right", .glo "_law_refused_right", .glo "law", .glo "ShapeError", .glo "InvalidLevels", .glo "InvalidStretch", .int "MOST_KEYS" 24, .int "GREATEST_LEVEL" 4, .free "ValueError", .free "all", .free "bool", .free "int", .free "isinstance"]
def fa1 : List He.Fa := [.free "len", .free "list", .free "max", .free "min", .free "range", .free "set", .free "sorted", .free "tuple", .free "type", .exc "ShapeError", .exc "InvalidLevels", .exc "InvalidStretch", .exm "InvalidLevels" "InvalidLevels" true, .exm "InvalidLevels" "InvalidStretch" false, .exm "InvalidStretch" "InvalidLevels" false, .exm "InvalidStretch" "InvalidStretch" true]
def fa : List He.Fa := fa0 ++ fa1
def lo0 : List Str := ["holds_levels", "check_levels", "inner_of", "stretches_within", "whole_of", "page_stretches", "_all_stretches", "inner_stretches", "_holds_stretch", "_law_source", "_law_draw", "_law_same", "_law_levels", "_law_stretches", "_law_inner", "_law_bad_levels", "_law_told", "_law_inner_right", "_law_refused_right", "ShapeError", "InvalidLevels", "InvalidStretch", "MOST_KEYS", "GREATEST_LEVEL"]
def loose : List Str := lo0
def tf : List He.Defn := []
abbrev R : PySem.W.OpenRow := PySem.W.OpenLaw.row PySem.Challenge.rw_oneshape_k29_whole_page_stretches
def isx : List ((PySem.Str × PySem.Str) × Bool) := [(("InvalidLevels", "ShapeError"), true), (("InvalidStretch", "ShapeError"), true)]
def ex1 (K : PySem.W.Frag) : Bool := decide ((tf.map fun q => (He.cT K q).2).Nodup) && isx.all (VF.isCk K)
abbrev hk : PySem.W.Hook := He.hookX 5 fa fn [] tf ex1
def ob (s : PySem.W.SharedT) : He.AlX := He.obsX 5 fa fn [] tf ex1 (HandSHeadRun.getT s)
theorem ob_eq (s : PySem.W.SharedT) : ob s = hk.obs s.abs := He.obsX_eq (HandSHeadRun.getT_eq s)
theorem run (w : World) : HandSHeadRun.RunEq R (PySem.W.view R.prog [29]) hk ob 8000 loose w := by
  intro os
  kernel_rfl
end Hd
set_option Elab.async false
set_option maxRecDepth 100000
set_option maxHeartbeats 0
namespace Pr
open PySem PySem.Spec PyProof.Rows L2 VF
def exms : List ((PySem.Str × PySem.Str) × Bool) := [(("InvalidLevels", "InvalidLevels"), true), (("InvalidLevels", "InvalidStretch"), false), (("InvalidStretch", "InvalidLevels"), false), (("InvalidStretch", "InvalidStretch"), true)]
def rows : List VF.Row := [
  ⟨"holds_levels", 7, ["value", "level"], 1, 0, false, [], false⟩,
  ⟨"check_levels", 8, ["levels"], 1, 0, false, [], false⟩,
  ⟨"inner_of", 10, ["levels", "stretch", "greatest", "found", "key", "first", "last"], 2, 0, true, [3], false⟩,
  ⟨"stretches_within", 11, ["levels", "stretch", "found", "part"], 2, 0, true, [2], false⟩,
  ⟨"whole_of", 12, ["levels"], 1, 0, false, [], false⟩,
  ⟨"page_stretches", 14, ["levels"], 1, 0, true, [], false⟩,
  ⟨"_all_stretches", 15, ["levels"], 1, 0, true, [], false⟩,
  ⟨"inner_stretches", 16, ["levels", "page_stretch"], 2, 0, true, [], false⟩,
  ⟨"_holds_stretch", 17, ["levels", "value", "key"], 2, 0, false, [], false⟩,
  ⟨"_law_source", 19, ["cell", "digits"], 1, 0, true, [], false⟩,
  ⟨"_law_draw", 20, ["source", "many", "turn", "mixed", "rest", "found"], 2, 1, false, [0], false⟩,
  ⟨"_law_same", 21, ["found", "due", "k"], 2, 0, false, [], false⟩,
  ⟨"_law_levels", 22, ["source", "most", "found", "key", "many", "kind", "top", "twos", "some", "size"], 2, 1, false, [0, 2], false⟩,
  ⟨"_law_stretches", 23, ["levels", "found", "height", "first", "key", "last", "low"], 1, 0, false, [1], false⟩,
  ⟨"_law_inner", 24, ["stretches", "stretch", "inside", "found", "one", "other"], 2, 0, false, [3], false⟩,
  ⟨"_law_bad_levels", 25, ["source", "levels", "at", "odd", "some"], 2, 1, false, [0], false⟩,
  ⟨"_law_told", 26, ["door", "levels", "stretch", "found", "error"], 3, 0, false, [], false⟩,
  ⟨"_law_inner_right", 27, ["levels", "stretches", "stretch", "due", "told", "held", "first", "last"], 3, 0, false, [4], false⟩,
  ⟨"_law_refused_right", 28, ["source", "levels", "stretches", "some", "wrong", "good", "many", "bad", "first", "last", "one"], 3, 1, false, [0], false⟩,
  ⟨"law", 29, ["script", "cell", "source", "levels", "due", "told", "turn", "apart", "inside", "one", "other"], 1, 0, false, [2, 5], false⟩]
def kls : List (PySem.Str × List PySem.Str) := [("inner_stretches", ["page_stretch", "levels"]), ("page_stretches", ["levels"])]
def pg : VF.Pg := ⟨rows, ["ValueError", "all", "bool", "int", "isinstance", "len", "list", "max", "min", "range", "set", "sorted", "tuple", "type"], [("MOST_KEYS", 24), ("GREATEST_LEVEL", 4)], kls, ["InvalidLevels", "InvalidStretch"], ["InvalidLevels", "InvalidStretch"], Hd.isx, [("InvalidLevels", ["InvalidLevels"]), ("InvalidStretch", ["InvalidStretch"])]⟩
def b_holds_levels : Ss := (Ss.cons (S.ifs (E.bop false (E.bi (Bi.tyNo "tuple") (E.v 0)) (E.cmp (COp.gt) (E.bi (Bi.len) (E.v 0)) (E.glob "MOST_KEYS"))) (Ss.cons (S.ret (E.bl false)) (Ss.nil)) (Ss.nil)) (Ss.cons (S.ret (E.bi (Bi.all) (E.comp (Tg.n 1) [1] (It.seq (E.v 0)) (Eo.no) (E.bop true (E.bi (Bi.tyIs "int") (E.v 1)) (E.chain (COp.le) (COp.le) (E.int 0) (E.v 1) (E.glob "GREATEST_LEVEL")))))) (Ss.nil)))
def r_holds_levels : VF.Row := ⟨"holds_levels", 7, ["value", "level"], 1, 0, false, [], false⟩
def b_check_levels : Ss := (Ss.cons (S.ifs (E.not (E.call "holds_levels" [] (Es.cons (E.v 0) (Es.nil)))) (Ss.cons (S.raise "InvalidLevels") (Ss.nil)) (Ss.nil)) (Ss.nil))
def r_check_levels : VF.Row := ⟨"check_levels", 8, ["levels"], 1, 0, false, [], false⟩
def b_inner_of : Ss := (Ss.cons (S.asgT [5, 6] (E.v 1)) (Ss.cons (S.ifs (E.cmp (COp.eq) (E.v 5) (E.v 6)) (Ss.cons (S.ret (E.lst (Es.nil))) (Ss.nil)) (Ss.nil)) (Ss.cons (S.asg 2 false (E.bi (Bi.maxl) (E.sl (E.v 0) (Eo.y (E.v 5)) (Eo.y (E.bin (BOp.add) (E.v 6) (E.int 1)))))) (Ss.cons (S.asg 3 true (E.lst (Es.nil))) (Ss.cons (S.for (Tg.n 4) (It.rng2 (E.v 5) (E.bin (BOp.add) (E.v 6) (E.int 1))) (Ss.cons (S.ifs (E.bop true (E.cmp (COp.lt) (E.idx (E.v 0) (E.v 4)) (E.v 2)) (E.bop true (E.v 3) (E.cmp (COp.lt) (E.idx (E.v 0) (E.idx (E.idx (E.v 3) (E.neg (E.int 1))) (E.int 1))) (E.v 2)))) (Ss.cons (S.seti 3 (E.neg (E.int 1)) (E.tup (Es.cons (E.idx (E.idx (E.v 3) (E.neg (E.int 1))) (E.int 0)) (Es.cons (E.v 4) (Es.nil))))) (Ss.nil)) (Ss.cons (S.app 3 (E.tup (Es.cons (E.v 4) (Es.cons (E.v 4) (Es.nil))))) (Ss.nil))) (Ss.nil))) (Ss.cons (S.ret (E.v 3)) (Ss.nil)))))))
def r_inner_of : VF.Row := ⟨"inner_of", 10, ["levels", "stretch", "greatest", "found", "key", "first", "last"], 2, 0, true, [3], false⟩
def b_stretches_within : Ss := (Ss.cons (S.asg 2 true (E.lst (Es.cons (E.v 1) (Es.nil)))) (Ss.cons (S.for (Tg.n 3) (It.seq (E.call "inner_of" [] (Es.cons (E.v 0) (Es.cons (E.v 1) (Es.nil))))) (Ss.cons (S.ext 2 (E.call "stretches_within" [] (Es.cons (E.v 0) (Es.cons (E.v 3) (Es.nil))))) (Ss.nil))) (Ss.cons (S.ret (E.v 2)) (Ss.nil))))
def r_stretches_within : VF.Row := ⟨"stretches_within", 11, ["levels", "stretch", "found", "part"], 2, 0, true, [2], false⟩
def b_whole_of : Ss := (Ss.cons (S.ret (E.tup (Es.cons (E.int 0) (Es.cons (E.bin (BOp.sub) (E.bi (Bi.len) (E.v 0)) (E.int 1)) (Es.nil))))) (Ss.nil))
def r_whole_of : VF.Row := ⟨"whole_of", 12, ["levels"], 1, 0, false, [], false⟩
def b_page_stretches : Ss := (Ss.cons (S.ex (E.call "check_levels" [] (Es.cons (E.v 0) (Es.nil)))) (Ss.cons (S.ret (E.call "_all_stretches" [] (Es.cons (E.v 0) (Es.nil)))) (Ss.nil)))
def r_page_stretches : VF.Row := ⟨"page_stretches", 14, ["levels"], 1, 0, true, [], false⟩
def b__all_stretches : Ss := (Ss.cons (S.ret (E.ite (E.v 0) (E.bi (Bi.sorted) (E.call "stretches_within" [] (Es.cons (E.v 0) (Es.cons (E.call "whole_of" [] (Es.cons (E.v 0) (Es.nil))) (Es.nil))))) (E.lst (Es.nil)))) (Ss.nil))
def r__all_stretches : VF.Row := ⟨"_all_stretches", 15, ["levels"], 1, 0, true, [], false⟩
def b_inner_stretches : Ss := (Ss.cons (S.ex (E.call "check_levels" [] (Es.cons (E.v 0) (Es.nil)))) (Ss.cons (S.ifs (E.not (E.call "_holds_stretch" [] (Es.cons (E.v 0) (Es.cons (E.v 1) (Es.nil))))) (Ss.cons (S.raise "InvalidStretch") (Ss.nil)) (Ss.nil)) (Ss.cons (S.ret (E.call "inner_of" [] (Es.cons (E.v 0) (Es.cons (E.v 1) (Es.nil))))) (Ss.nil))))
def r_inner_stretches : VF.Row := ⟨"inner_stretches", 16, ["levels", "page_stretch"], 2, 0, true, [], false⟩
def b__holds_stretch : Ss := (Ss.cons (S.ifs (E.bop false (E.bi (Bi.tyNo "tuple") (E.v 1)) (E.not (E.bi (Bi.all) (E.comp (Tg.n 2) [2] (It.seq (E.v 1)) (Eo.no) (E.bi (Bi.tyIs "int") (E.v 2)))))) (Ss.cons (S.ret (E.bl false)) (Ss.nil)) (Ss.nil)) (Ss.cons (S.ret (E.cmp (COp.isin) (E.v 1) (E.call "_all_stretches" [] (Es.cons (E.v 0) (Es.nil))))) (Ss.nil)))
def r__holds_stretch : VF.Row := ⟨"_holds_stretch", 17, ["levels", "value", "key"], 2, 0, false, [], false⟩
def b__law_source : Ss := (Ss.cons (S.asg 1 false (E.ite (E.cmp (COp.ge) (E.v 0) (E.bin (BOp.pow) (E.int 10) (E.int 18))) (E.bin (BOp.sub) (E.v 0) (E.bin (BOp.pow) (E.int 10) (E.int 18))) (E.int 0))) (Ss.cons (S.ret (E.lst (Es.cons (E.v 1) (Es.cons (E.bin (BOp.mod) (E.bi (Bi.int) (E.v 0)) (E.int 2305843009213693951)) (Es.cons (E.int 0) (Es.nil)))))) (Ss.nil)))
def r__law_source : VF.Row := ⟨"_law_source", 19, ["cell", "digits"], 1, 0, true, [], false⟩
def b__law_draw : Ss := (Ss.cons (S.ifs (E.bop true (E.cmp (COp.gt) (E.idx (E.v 0) (E.int 0)) (E.int 0)) (E.cmp (COp.gt) (E.v 1) (E.int 1))) (Ss.cons (S.asg 4 false (E.bin (BOp.fdiv) (E.idx (E.v 0) (E.int 0)) (E.v 1))) (Ss.cons (S.asg 5 false (E.bin (BOp.sub) (E.idx (E.v 0) (E.int 0)) (E.bin (BOp.mul) (E.v 4) (E.v 1)))) (Ss.cons (S.seti 0 (E.int 0) (E.v 4)) (Ss.cons (S.ret (E.v 5)) (Ss.nil))))) (Ss.nil)) (Ss.cons (S.seti 0 (E.int 2) (E.bin (BOp.add) (E.idx (E.v 0) (E.int 2)) (E.int 1))) (Ss.cons (S.asg 2 false (E.idx (E.v 0) (E.int 2))) (Ss.cons (S.asg 3 false (E.bin (BOp.mod) (E.bi (Bi.int) (E.bin (BOp.add) (E.bin (BOp.add) (E.bin (BOp.mul) (E.idx (E.v 0) (E.int 1)) (E.bin (BOp.add) (E.bin (BOp.mul) (E.int 2) (E.v 2)) (E.int 31))) (E.bin (BOp.mul) (E.bin (BOp.mul) (E.int 7919) (E.v 2)) (E.v 2))) (E.int 17))) (E.int 2305843009213693951))) (Ss.cons (S.asg 3 false (E.bin (BOp.fdiv) (E.bin (BOp.mod) (E.bi (Bi.int) (E.bin (BOp.add) (E.bin (BOp.add) (E.bin (BOp.mul) (E.v 3) (E.v 3)) (E.bin (BOp.mul) (E.int 104729) (E.v 3))) (E.v 2))) (E.int 2305843009213693951)) (E.int 1021))) (Ss.cons (S.asg 3 false (E.bin (BOp.fdiv) (E.bin (BOp.mod) (E.bi (Bi.int) (E.bin (BOp.add) (E.bin (BOp.mul) (E.v 3) (E.v 3)) (E.bin (BOp.mul) (E.int 611953) (E.v 2)))) (E.int 1152921504606846883)) (E.int 4099))) (Ss.cons (S.ret (E.bin (BOp.mod) (E.bi (Bi.int) (E.v 3)) (E.v 1))) (Ss.nil))))))))
def r__law_draw : VF.Row := ⟨"_law_draw", 20, ["source", "many", "turn", "mixed", "rest", "found"], 2, 1, false, [0], false⟩
def b__law_same : Ss := (Ss.cons (S.ifs (E.bop false (E.cmp (COp.ne) (E.bi (Bi.is1 "tuple") (E.v 1)) (E.bi (Bi.is1 "tuple") (E.v 0))) (E.cmp (COp.ne) (E.bi (Bi.is1 "list") (E.v 1)) (E.bi (Bi.is1 "list") (E.v 0)))) (Ss.cons (S.ret (E.bl false)) (Ss.nil)) (Ss.nil)) (Ss.cons (S.ifs (E.bi (Bi.isT ["tuple", "list"] false) (E.v 1)) (Ss.cons (S.ret (E.bop true (E.cmp (COp.eq) (E.bi (Bi.len) (E.v 0)) (E.bi (Bi.len) (E.v 1))) (E.cmp (COp.eq) (E.comp (Tg.n 2) [2] (It.rng1 (E.bi (Bi.len) (E.v 1))) (Eo.y (E.not (E.call "_law_same" [] (Es.cons (E.idx (E.v 0) (E.v 2)) (Es.cons (E.idx (E.v 1) (E.v 2)) (Es.nil)))))) (E.v 2)) (E.lst (Es.nil))))) (Ss.nil)) (Ss.nil)) (Ss.cons (S.ifs (E.bop false (E.cmp (COp.ne) (E.bi (Bi.is1 "bool") (E.v 1)) (E.bi (Bi.is1 "bool") (E.v 0))) (E.cmp (COp.ne) (E.isc true (E.v 1) (Cst.non)) (E.isc true (E.v 0) (Cst.non)))) (Ss.cons (S.ret (E.bl false)) (Ss.nil)) (Ss.nil)) (Ss.cons (S.ret (E.bop false (E.isc true (E.v 0) (Cst.non)) (E.bop true (E.bi (Bi.is1 "int") (E.v 0)) (E.cmp (COp.eq) (E.v 0) (E.v 1))))) (Ss.nil)))))
def r__law_same : VF.Row := ⟨"_law_same", 21, ["found", "due", "k"], 2, 0, false, [], false⟩
def b__law_levels : Ss := (Ss.cons (S.par [4, 5, 6] (Es.cons (E.call "_law_draw" [0] (Es.cons (E.bin (BOp.add) (E.v 1) (E.int 1)) (Es.nil))) (Es.cons (E.call "_law_draw" [0] (Es.cons (E.int 6) (Es.nil))) (Es.cons (E.bin (BOp.add) (E.int 1) (E.call "_law_draw" [0] (Es.cons (E.int 4) (Es.nil)))) (Es.nil))))) (Ss.cons (S.asg 2 true (E.lst (Es.nil))) (Ss.cons (S.for (Tg.n 3) (It.rng1 (E.v 4)) (Ss.cons (S.asg 7 false (E.bi (Bi.len) (E.comp (Tg.n 9) [9] (It.seq (E.tup (Es.cons (E.int 2) (Es.cons (E.int 4) (Es.cons (E.int 8) (Es.cons (E.int 16) (Es.nil))))))) (Eo.y (E.cmp (COp.eq) (E.bin (BOp.mul) (E.bin (BOp.fdiv) (E.bin (BOp.add) (E.v 3) (E.int 1)) (E.v 9)) (E.v 9)) (E.bin (BOp.add) (E.v 3) (E.int 1)))) (E.v 9)))) (Ss.cons (S.asg 8 false (E.lst (Es.cons (E.call "_law_draw" [0] (Es.cons (E.bin (BOp.add) (E.v 6) (E.int 1)) (Es.nil))) (Es.cons (E.int 0) (Es.cons (E.bin (BOp.mul) (E.v 6) (E.bi (Bi.int) (E.cmp (COp.eq) (E.call "_law_draw" [0] (Es.cons (E.int 5) (Es.nil))) (E.int 0)))) (Es.cons (E.v 6) (Es.cons (E.v 7) (Es.cons (E.bi2 (Bi.min2) (E.int 4) (E.bin (BOp.fdiv) (E.bin (BOp.mul) (E.v 3) (E.v 6)) (E.int 8))) (Es.nil))))))))) (Ss.cons (S.app 2 (E.idx (E.v 8) (E.v 5))) (Ss.nil))))) (Ss.cons (S.ret (E.toT (It.seq (E.v 2)))) (Ss.nil)))))
def r__law_levels : VF.Row := ⟨"_law_levels", 22, ["source", "most", "found", "key", "many", "kind", "top", "twos", "some", "size"], 2, 1, false, [0, 2], false⟩
def b__law_stretches : Ss := (Ss.cons (S.asg 1 true (E.comp (Tg.n 4) [4] (It.rng1 (E.bi (Bi.len) (E.v 0))) (Eo.no) (E.tup (Es.cons (E.v 4) (Es.cons (E.v 4) (Es.nil)))))) (Ss.cons (S.for (Tg.n 2) (It.rng1 (E.int 5)) (Ss.cons (S.for (Tg.n 3) (It.rng1 (E.bi (Bi.len) (E.v 0))) (Ss.cons (S.for (Tg.n 5) (It.rng2 (E.v 3) (E.bi (Bi.len) (E.v 0))) (Ss.cons (S.asg 6 false (E.bop false (E.bop true (E.cmp (COp.gt) (E.v 3) (E.int 0)) (E.cmp (COp.le) (E.idx (E.v 0) (E.bin (BOp.sub) (E.v 3) (E.int 1))) (E.v 2))) (E.bop true (E.cmp (COp.lt) (E.bin (BOp.add) (E.v 5) (E.int 1)) (E.bi (Bi.len) (E.v 0))) (E.cmp (COp.le) (E.idx (E.v 0) (E.bin (BOp.add) (E.v 5) (E.int 1))) (E.v 2))))) (Ss.cons (S.ifs (E.bop true (E.cmp (COp.le) (E.bi (Bi.maxl) (E.sl (E.v 0) (Eo.y (E.v 3)) (Eo.y (E.bin (BOp.add) (E.v 5) (E.int 1))))) (E.v 2)) (E.not (E.v 6))) (Ss.cons (S.app 1 (E.tup (Es.cons (E.v 3) (Es.cons (E.v 5) (Es.nil))))) (Ss.nil)) (Ss.nil)) (Ss.nil)))) (Ss.nil))) (Ss.nil))) (Ss.cons (S.ret (E.sortset (E.v 1))) (Ss.nil))))
def r__law_stretches : VF.Row := ⟨"_law_stretches", 23, ["levels", "found", "height", "first", "key", "last", "low"], 1, 0, false, [1], false⟩
def b__law_inner : Ss := (Ss.cons (S.asg 2 false (E.comp (Tg.n 4) [4] (It.seq (E.v 0)) (Eo.y (E.bop true (E.cmp (COp.ne) (E.v 4) (E.v 1)) (E.bop true (E.cmp (COp.le) (E.idx (E.v 1) (E.int 0)) (E.idx (E.v 4) (E.int 0))) (E.cmp (COp.le) (E.idx (E.v 4) (E.int 1)) (E.idx (E.v 1) (E.int 1)))))) (E.v 4))) (Ss.cons (S.asg 3 true (E.lst (Es.nil))) (Ss.cons (S.for (Tg.n 4) (It.seq (E.v 2)) (Ss.cons (S.ifs (E.cmp (COp.eq) (E.comp (Tg.n 5) [5] (It.seq (E.v 2)) (Eo.y (E.bop true (E.cmp (COp.ne) (E.v 5) (E.v 4)) (E.bop true (E.cmp (COp.le) (E.idx (E.v 5) (E.int 0)) (E.idx (E.v 4) (E.int 0))) (E.cmp (COp.le) (E.idx (E.v 4) (E.int 1)) (E.idx (E.v 5) (E.int 1)))))) (E.v 5)) (E.lst (Es.nil))) (Ss.cons (S.app 3 (E.v 4)) (Ss.nil)) (Ss.nil)) (Ss.nil))) (Ss.cons (S.ret (E.v 3)) (Ss.nil)))))
def r__law_inner : VF.Row := ⟨"_law_inner", 24, ["stretches", "stretch", "inside", "found", "one", "other"], 2, 0, false, [3], false⟩
def b__law_bad_levels : Ss := (Ss.cons (S.asg 2 false (E.call "_law_draw" [0] (Es.cons (E.bin (BOp.add) (E.bi (Bi.len) (E.v 1)) (E.int 1)) (Es.nil)))) (Ss.cons (S.asg 3 false (E.idx (E.lst (Es.cons (E.bin (BOp.add) (E.int 5) (E.call "_law_draw" [0] (Es.cons (E.int 99999) (Es.nil)))) (Es.cons (E.bin (BOp.sub) (E.neg (E.int 1)) (E.call "_law_draw" [0] (Es.cons (E.int 99999) (Es.nil)))) (Es.cons (E.bl true) (Es.cons (E.non) (Es.cons (E.str "0") (Es.cons (E.tup (Es.cons (E.int 0) (Es.nil))) (Es.cons (E.lst (Es.cons (E.int 0) (Es.nil))) (Es.cons (E.bin (BOp.pow) (E.int 10) (E.int 30)) (Es.cons (E.bl false) (Es.nil))))))))))) (E.call "_law_draw" [0] (Es.cons (E.int 9) (Es.nil))))) (Ss.cons (S.asg 4 false (E.lst (Es.cons (E.toL (It.seq (E.v 1))) (Es.cons (E.non) (Es.cons (E.int 0) (Es.cons (E.str "0") (Es.cons (E.bin (BOp.mul) (E.tup (Es.cons (E.call "_law_draw" [0] (Es.cons (E.int 5) (Es.nil))) (Es.nil))) (E.bin (BOp.add) (E.int 25) (E.call "_law_draw" [0] (Es.cons (E.int 40) (Es.nil))))) (Es.cons (E.bin (BOp.add) (E.tup (Es.cons (E.v 1) (Es.nil))) (E.tup (Es.cons (E.v 1) (Es.nil)))) (Es.cons (E.lst (Es.nil)) (Es.cons (E.bl true) (Es.nil))))))))))) (Ss.cons (S.asg 4 false (E.bin (BOp.add) (E.v 4) (E.bin (BOp.mul) (E.lst (Es.cons (E.bin (BOp.add) (E.bin (BOp.add) (E.sl (E.v 1) (Eo.no) (Eo.y (E.v 2))) (E.tup (Es.cons (E.v 3) (Es.nil)))) (E.sl (E.v 1) (Eo.y (E.v 2)) (Eo.no))) (Es.nil))) (E.int 5)))) (Ss.cons (S.ret (E.idx (E.v 4) (E.call "_law_draw" [0] (Es.cons (E.bi (Bi.len) (E.v 4)) (Es.nil))))) (Ss.nil))))))
def r__law_bad_levels : VF.Row := ⟨"_law_bad_levels", 25, ["source", "levels", "at", "odd", "some"], 2, 1, false, [0], false⟩
def b__law_told : Ss := (Ss.cons (S.asg 3 false (E.str "none")) (Ss.cons (S.trym (Ss.cons (S.asg 3 false (E.ite (E.cmp (COp.eq) (E.v 0) (E.int 0)) (E.call "page_stretches" [] (Es.cons (E.v 1) (Es.nil))) (E.call "inner_stretches" [] (Es.cons (E.v 1) (Es.cons (E.v 2) (Es.nil)))))) (Ss.cons (S.asg 3 false (E.str "none")) (Ss.nil))) (Hm.cons "InvalidLevels" 4 (Cls.cons "InvalidLevels" (Ss.cons (S.asg 3 false (E.ite (E.bl true) (E.str "levels") (E.str "other"))) (Ss.nil)) (Cls.nil)) (Hm.cons "InvalidStretch" 4 (Cls.cons "InvalidStretch" (Ss.cons (S.asg 3 false (E.ite (E.bl true) (E.str "stretch") (E.str "other"))) (Ss.nil)) (Cls.nil)) (Hm.nil)))) (Ss.cons (S.ret (E.v 3)) (Ss.nil))))
def r__law_told : VF.Row := ⟨"_law_told", 26, ["door", "levels", "stretch", "found", "error"], 3, 0, false, [], false⟩
def b__law_inner_right : Ss := (Ss.cons (S.asg 3 false (E.call "_law_inner" [] (Es.cons (E.v 1) (Es.cons (E.v 2) (Es.nil))))) (Ss.cons (S.asg 4 true (E.call "inner_stretches" [] (Es.cons (E.v 0) (Es.cons (E.v 2) (Es.nil))))) (Ss.cons (S.ifs (E.not (E.call "_law_same" [] (Es.cons (E.lst (Es.cons (E.v 4) (Es.cons (E.callk "inner_stretches" ["page_stretch", "levels"] (Es.cons (E.v 2) (Es.cons (E.v 0) (Es.nil)))) (Es.nil)))) (Es.cons (E.lst (Es.cons (E.v 3) (Es.cons (E.v 3) (Es.nil)))) (Es.nil))))) (Ss.cons (S.ret (E.bl false)) (Ss.nil)) (Ss.nil)) (Ss.cons (S.app 4 (E.non)) (Ss.cons (S.ifs (E.not (E.call "_law_same" [] (Es.cons (E.call "inner_stretches" [] (Es.cons (E.v 0) (Es.cons (E.v 2) (Es.nil)))) (Es.cons (E.v 3) (Es.nil))))) (Ss.cons (S.ret (E.bl false)) (Ss.nil)) (Ss.nil)) (Ss.cons (S.ifs (E.cmp (COp.eq) (E.idx (E.v 2) (E.int 0)) (E.idx (E.v 2) (E.int 1))) (Ss.cons (S.ret (E.cmp (COp.eq) (E.v 3) (E.lst (Es.nil)))) (Ss.nil)) (Ss.nil)) (Ss.cons (S.asg 5 false (E.lst (Es.nil))) (Ss.cons (S.for (Tg.t [6, 7]) (It.seq (E.v 3)) (Ss.cons (S.asg 5 false (E.bin (BOp.add) (E.v 5) (E.toL (It.rng2 (E.v 6) (E.bin (BOp.add) (E.v 7) (E.int 1)))))) (Ss.nil))) (Ss.cons (S.ret (E.bop true (E.cmp (COp.gt) (E.bi (Bi.len) (E.v 3)) (E.int 1)) (E.cmp (COp.eq) (E.v 5) (E.toL (It.rng2 (E.idx (E.v 2) (E.int 0)) (E.bin (BOp.add) (E.idx (E.v 2) (E.int 1)) (E.int 1))))))) (Ss.nil))))))))))
def r__law_inner_right : VF.Row := ⟨"_law_inner_right", 27, ["levels", "stretches", "stretch", "due", "told", "held", "first", "last"], 3, 0, false, [4], false⟩
def b__law_refused_right : Ss := (Ss.cons (S.par [6, 7] (Es.cons (E.bi (Bi.len) (E.v 1)) (Es.cons (E.call "_law_bad_levels" [0] (Es.cons (E.v 1) (Es.nil))) (Es.nil)))) (Ss.cons (S.par [8, 9] (Es.cons (E.call "_law_draw" [0] (Es.cons (E.bi2 (Bi.max2) (E.int 1) (E.v 6)) (Es.nil))) (Es.cons (E.call "_law_draw" [0] (Es.cons (E.bi2 (Bi.max2) (E.int 1) (E.v 6)) (Es.nil))) (Es.nil)))) (Ss.cons (S.asg 3 false (E.lst (Es.cons (E.tup (Es.cons (E.v 8) (Es.cons (E.v 6) (Es.nil)))) (Es.cons (E.tup (Es.cons (E.neg (E.int 1)) (Es.cons (E.v 9) (Es.nil)))) (Es.cons (E.tup (Es.cons (E.v 8) (Es.nil))) (Es.cons (E.lst (Es.cons (E.v 8) (Es.cons (E.v 9) (Es.nil)))) (Es.cons (E.non) (Es.cons (E.int 0) (Es.cons (E.str "00") (Es.cons (E.tup (Es.cons (E.v 8) (Es.cons (E.v 9) (Es.cons (E.int 0) (Es.nil))))) (Es.cons (E.tup (Es.cons (E.v 8) (Es.cons (E.non) (Es.nil)))) (Es.cons (E.tup (Es.cons (E.cmp (COp.eq) (E.v 8) (E.int 1)) (Es.cons (E.v 9) (Es.nil)))) (Es.nil))))))))))))) (Ss.cons (S.asg 3 false (E.bin (BOp.add) (E.v 3) (E.lst (Es.cons (E.tup (Es.cons (E.v 8) (Es.cons (E.cmp (COp.eq) (E.v 9) (E.int 1)) (Es.nil)))) (Es.cons (E.tup (Es.cons (E.int 0) (Es.cons (E.bl false) (Es.nil)))) (Es.cons (E.tup (Es.cons (E.v 8) (Es.cons (E.bin (BOp.add) (E.v 6) (E.call "_law_draw" [0] (Es.cons (E.int 30) (Es.nil)))) (Es.nil)))) (Es.cons (E.tup (Es.cons (E.bin (BOp.sub) (E.neg (E.int 1)) (E.call "_law_draw" [0] (Es.cons (E.int 99) (Es.nil)))) (Es.cons (E.v 9) (Es.nil)))) (Es.nil)))))))) (Ss.cons (S.asg 3 false (E.bin (BOp.add) (E.v 3) (E.lst (Es.cons (E.tup (Es.cons (E.tup (Es.cons (E.v 8) (Es.nil))) (Es.cons (E.v 9) (Es.nil)))) (Es.cons (E.tup (Es.cons (E.bin (BOp.pow) (E.int 10) (E.int 30)) (Es.cons (E.v 9) (Es.nil)))) (Es.cons (E.tup (Es.cons (E.bin (BOp.add) (E.v 9) (E.int 1)) (Es.cons (E.v 9) (Es.nil)))) (Es.cons (E.tup (Es.cons (E.lst (Es.cons (E.v 8) (Es.nil))) (Es.cons (E.v 9) (Es.nil)))) (Es.cons (E.tup (Es.cons (E.bl true) (Es.cons (E.bl true) (Es.nil)))) (Es.cons (E.tup (Es.cons (E.bl false) (Es.cons (E.bl false) (Es.nil)))) (Es.nil)))))))))) (Ss.cons (S.asg 3 false (E.bin (BOp.add) (E.v 3) (E.bin (BOp.mul) (E.comp (Tg.n 10) [10] (It.seq (E.lst (Es.cons (E.tup (Es.cons (E.v 8) (Es.cons (E.v 9) (Es.nil)))) (Es.cons (E.tup (Es.cons (E.v 9) (Es.cons (E.v 8) (Es.nil)))) (Es.nil))))) (Eo.y (E.cmp (COp.notin) (E.v 10) (E.v 2))) (E.v 10)) (E.int 6)))) (Ss.cons (S.asg 4 false (E.idx (E.v 3) (E.call "_law_draw" [0] (Es.cons (E.bi (Bi.len) (E.v 3)) (Es.nil))))) (Ss.cons (S.asg 5 false (E.ite (E.cmp (COp.ne) (E.v 2) (E.lst (Es.nil))) (E.idx (E.v 2) (E.call "_law_draw" [0] (Es.cons (E.bi (Bi.len) (E.v 2)) (Es.nil)))) (E.non))) (Ss.cons (S.ifs (E.cmp (COp.ne) (E.lst (Es.cons (E.call "_law_told" [] (Es.cons (E.int 0) (Es.cons (E.v 7) (Es.cons (E.non) (Es.nil))))) (Es.cons (E.call "_law_told" [] (Es.cons (E.int 1) (Es.cons (E.v 7) (Es.cons (E.v 5) (Es.nil))))) (Es.cons (E.call "_law_told" [] (Es.cons (E.int 1) (Es.cons (E.v 7) (Es.cons (E.v 4) (Es.nil))))) (Es.nil))))) (E.bin (BOp.mul) (E.lst (Es.cons (E.str "levels") (Es.nil))) (E.int 3))) (Ss.cons (S.ret (E.bl false)) (Ss.nil)) (Ss.nil)) (Ss.cons (S.ifs (E.bop false (E.cmp (COp.ne) (E.call "_law_told" [] (Es.cons (E.int 1) (Es.cons (E.v 1) (Es.cons (E.v 4) (Es.nil))))) (E.str "stretch")) (E.cmp (COp.ne) (E.call "_law_told" [] (Es.cons (E.int 0) (Es.cons (E.v 1) (Es.cons (E.non) (Es.nil))))) (E.str "none"))) (Ss.cons (S.ret (E.bl false)) (Ss.nil)) (Ss.nil)) (Ss.cons (S.ret (E.bop false (E.isc true (E.v 5) (Cst.non)) (E.cmp (COp.eq) (E.call "_law_told" [] (Es.cons (E.int 1) (Es.cons (E.v 1) (Es.cons (E.v 5) (Es.nil))))) (E.str "none")))) (Ss.nil))))))))))))
def r__law_refused_right : VF.Row := ⟨"_law_refused_right", 28, ["source", "levels", "stretches", "some", "wrong", "good", "many", "bad", "first", "last", "one"], 3, 1, false, [0], false⟩
def b_law : Ss := (Ss.cons (S.for (Tg.n 1) (It.seq (E.bin (BOp.add) (E.lst (Es.cons (E.slen) (Es.nil))) (E.stake 4))) (Ss.cons (S.asg 2 true (E.call "_law_source" [] (Es.cons (E.v 1) (Es.nil)))) (Ss.cons (S.asg 3 false (E.call "_law_levels" [2] (Es.cons (E.ite (E.cmp (COp.eq) (E.call "_law_draw" [2] (Es.cons (E.int 4) (Es.nil))) (E.int 0)) (E.int 24) (E.int 10)) (Es.nil)))) (Ss.cons (S.asg 4 false (E.call "_law_stretches" [] (Es.cons (E.v 3) (Es.nil)))) (Ss.cons (S.asg 5 true (E.call "page_stretches" [] (Es.cons (E.v 3) (Es.nil)))) (Ss.cons (S.ifs (E.not (E.call "_law_same" [] (Es.cons (E.lst (Es.cons (E.v 5) (Es.cons (E.callk "page_stretches" ["levels"] (Es.cons (E.v 3) (Es.nil))) (Es.nil)))) (Es.cons (E.lst (Es.cons (E.v 4) (Es.cons (E.v 4) (Es.nil)))) (Es.nil))))) (Ss.cons (S.ret (E.bl false)) (Ss.nil)) (Ss.nil)) (Ss.cons (S.app 5 (E.non)) (Ss.cons (S.ifs (E.not (E.call "_law_same" [] (Es.cons (E.call "page_stretches" [] (Es.cons (E.v 3) (Es.nil))) (Es.cons (E.v 4) (Es.nil))))) (Ss.cons (S.ret (E.bl false)) (Ss.nil)) (Ss.nil)) (Ss.cons (S.for (Tg.n 6) (It.rng1 (E.bin (BOp.mul) (E.int 6) (E.bi (Bi.int) (E.cmp (COp.ne) (E.v 4) (E.lst (Es.nil)))))) (Ss.cons (S.par [9, 10] (Es.cons (E.idx (E.v 4) (E.call "_law_draw" [2] (Es.cons (E.bi (Bi.len) (E.v 4)) (Es.nil)))) (Es.cons (E.idx (E.v 4) (E.call "_law_draw" [2] (Es.cons (E.bi (Bi.len) (E.v 4)) (Es.nil)))) (Es.nil)))) (Ss.cons (S.asg 7 false (E.bop false (E.cmp (COp.lt) (E.idx (E.v 9) (E.int 1)) (E.idx (E.v 10) (E.int 0))) (E.cmp (COp.lt) (E.idx (E.v 10) (E.int 1)) (E.idx (E.v 9) (E.int 0))))) (Ss.cons (S.asg 8 false (E.bop false (E.bop true (E.cmp (COp.le) (E.idx (E.v 9) (E.int 0)) (E.idx (E.v 10) (E.int 0))) (E.cmp (COp.le) (E.idx (E.v 10) (E.int 1)) (E.idx (E.v 9) (E.int 1)))) (E.bop true (E.cmp (COp.le) (E.idx (E.v 10) (E.int 0)) (E.idx (E.v 9) (E.int 0))) (E.cmp (COp.le) (E.idx (E.v 9) (E.int 1)) (E.idx (E.v 10) (E.int 1)))))) (Ss.cons (S.ifs (E.bop false (E.bop true (E.not (E.v 7)) (E.not (E.v 8))) (E.not (E.call "_law_inner_right" [] (Es.cons (E.v 3) (Es.cons (E.v 4) (Es.cons (E.v 9) (Es.nil))))))) (Ss.cons (S.ret (E.bl false)) (Ss.nil)) (Ss.nil)) (Ss.nil)))))) (Ss.cons (S.ifs (E.bop false (E.bop true (E.cmp (COp.ne) (E.v 4) (E.lst (Es.nil))) (E.not (E.call "_law_inner_right" [] (Es.cons (E.v 3) (Es.cons (E.v 4) (Es.cons (E.tup (Es.cons (E.int 0) (Es.cons (E.bin (BOp.sub) (E.bi (Bi.len) (E.v 3)) (E.int 1)) (Es.nil)))) (Es.nil))))))) (E.not (E.call "_law_refused_right" [2] (Es.cons (E.v 3) (Es.cons (E.v 4) (Es.nil)))))) (Ss.cons (S.ret (E.bl false)) (Ss.nil)) (Ss.nil)) (Ss.nil))))))))))) (Ss.cons (S.ret (E.bl true)) (Ss.nil)))
def r_law : VF.Row := ⟨"law", 29, ["script", "cell", "source", "levels", "due", "told", "turn", "apart", "inside", "one", "other"], 1, 0, false, [2, 5], false⟩
def ents : List (VF.Row × Ss) := [(r_holds_levels, b_holds_levels), (r_check_levels, b_check_levels), (r_inner_of, b_inner_of), (r_stretches_within, b_stretches_within), (r_whole_of, b_whole_of), (r_page_stretches, b_page_stretches), (r__all_stretches, b__all_stretches), (r_inner_stretches, b_inner_stretches), (r__holds_stretch, b__holds_stretch), (r__law_source, b__law_source), (r__law_draw, b__law_draw), (r__law_same, b__law_same), (r__law_levels, b__law_levels), (r__law_stretches, b__law_stretches), (r__law_inner, b__law_inner), (r__law_bad_levels, b__law_bad_levels), (r__law_told, b__law_told), (r__law_inner_right, b__law_inner_right), (r__law_refused_right, b__law_refused_right)]
def tab (x : Str) : Option Df := (ents.find? fun e => decide (e.1.name = x)).map fun e => ⟨e.1.N.length, e.1.np, e.1.nr, e.2⟩
def cfg (ns : List Int) : Cfg := ⟨pg.sig, pg.glob, fun a b => exms.lookup (a, b), ns⟩
theorem rows_eq : rows = ents.map (·.1) ++ [r_law] := by rfl
theorem t_holds_levels : pg.tr trMaxk r_holds_levels (defScope (Hd.top 7)) (defBody (Hd.top 7)) false = some b_holds_levels := by kernel_rfl
theorem ok_holds_levels : RowOk pg tab (Hd.top 7) r_holds_levels b_holds_levels := ⟨⟨rfl, rfl, rfl, by decide +kernel, rfl, by decide +kernel, by decide +kernel⟩, t_holds_levels, by rfl, ⟨by decide +kernel, by decide +kernel, by decide⟩, by decide⟩
theorem bp_holds_levels : BindP (Hd.top 7) r_holds_levels kls := by
  refine ⟨fun kV doc pm an cdv ct us hl => ?_, fun kV doc pm an cdv ct ks hk ws zs hw hz => ?_⟩
  · match us, hl with
    | [_], _ => rfl
  · exact absurd (List.mem_map_of_mem (f := Prod.fst) hk) (show (r_holds_levels).name ∉ kls.map Prod.fst by decide +kernel)
theorem t_check_levels : pg.tr trMaxk r_check_levels (defScope (Hd.top 8)) (defBody (Hd.top 8)) false = some b_check_levels := by kernel_rfl
theorem ok_check_levels : RowOk pg tab (Hd.top 8) r_check_levels b_check_levels := ⟨⟨rfl, rfl, rfl, by decide +kernel, rfl, by decide +kernel, by decide +kernel⟩, t_check_levels, by rfl, ⟨by decide +kernel, by decide +kernel, by decide⟩, by decide⟩
theorem bp_check_levels : BindP (Hd.top 8) r_check_levels kls := by
  refine ⟨fun kV doc pm an cdv ct us hl => ?_, fun kV doc pm an cdv ct ks hk ws zs hw hz => ?_⟩
  · match us, hl with
    | [_], _ => rfl
  · exact absurd (List.mem_map_of_mem (f := Prod.fst) hk) (show (r_check_levels).name ∉ kls.map Prod.fst by decide +kernel)
theorem t_inner_of : pg.tr trMaxk r_inner_of (defScope (Hd.top 10)) (defBody (Hd.top 10)) false = some b_inner_of := by kernel_rfl
theorem ok_inner_of : RowOk pg tab (Hd.top 10) r_inner_of b_inner_of := ⟨⟨rfl, rfl, rfl, by decide +kernel, rfl, by decide +kernel, by decide +kernel⟩, t_inner_of, by rfl, ⟨by decide +kernel, by decide +kernel, by decide⟩, by decide⟩
theorem bp_inner_of : BindP (Hd.top 10) r_inner_of kls := by
  refine ⟨fun kV doc pm an cdv ct us hl => ?_, fun kV doc pm an cdv ct ks hk ws zs hw hz => ?_⟩
  · match us, hl with
    | [_, _], _ => rfl
  · exact absurd (List.mem_map_of_mem (f := Prod.fst) hk) (show (r_inner_of).name ∉ kls.map Prod.fst by decide +kernel)
theorem t_stretches_within : pg.tr trMaxk r_stretches_within (defScope (Hd.top 11)) (defBody (Hd.top 11)) false = some b_stretches_within := by kernel_rfl
theorem ok_stretches_within : RowOk pg tab (Hd.top 11) r_stretches_within b_stretches_within := ⟨⟨rfl, rfl, rfl, by decide +kernel, rfl, by decide +kernel, by decide +kernel⟩, t_stretches_within, by rfl, ⟨by decide +kernel, by decide +kernel, by decide⟩, by decide⟩
theorem bp_stretches_within : BindP (Hd.top 11) r_stretches_within kls := by
  refine ⟨fun kV doc pm an cdv ct us hl => ?_, fun kV doc pm an cdv ct ks hk ws zs hw hz => ?_⟩
  · match us, hl with
    | [_, _], _ => rfl
  · exact absurd (List.mem_map_of_mem (f := Prod.fst) hk) (show (r_stretches_within).name ∉ kls.map Prod.fst by decide +kernel)
theorem t_whole_of : pg.tr trMaxk r_whole_of (defScope (Hd.top 12)) (defBody (Hd.top 12)) false = some b_whole_of := by kernel_rfl
theorem ok_whole_of : RowOk pg tab (Hd.top 12) r_whole_of b_whole_of := ⟨⟨rfl, rfl, rfl, by decide +kernel, rfl, by decide +kernel, by decide +kernel⟩, t_whole_of, by rfl, ⟨by decide +kernel, by decide +kernel, by decide⟩, by decide⟩
theorem bp_whole_of : BindP (Hd.top 12) r_whole_of kls := by
  refine ⟨fun kV doc pm an cdv ct us hl => ?_, fun kV doc pm an cdv ct ks hk ws zs hw hz => ?_⟩
  · match us, hl with
    | [_], _ => rfl
  · exact absurd (List.mem_map_of_mem (f := Prod.fst) hk) (show (r_whole_of).name ∉ kls.map Prod.fst by decide +kernel)
theorem t_page_stretches : pg.tr trMaxk r_page_stretches (defScope (Hd.top 14)) (defBody (Hd.top 14)) false = some b_page_stretches := by kernel_rfl
theorem ok_page_stretches : RowOk pg tab (Hd.top 14) r_page_stretches b_page_stretches := ⟨⟨rfl, rfl, rfl, by decide +kernel, rfl, by decide +kernel, by decide +kernel⟩, t_page_stretches, by rfl, ⟨by decide +kernel, by decide +kernel, by decide⟩, by decide⟩
theorem bp_page_stretches : BindP (Hd.top 14) r_page_stretches kls := by
  refine ⟨fun kV doc pm an cdv ct us hl => ?_, fun kV doc pm an cdv ct ks hk ws zs hw hz => ?_⟩
  · match us, hl with
    | [_], _ => rfl
  · have e : ks = (["levels"] : List PySem.Str) := (show ∀ e ∈ kls, e.1 = (r_page_stretches).name → e.2 = (["levels"] : List PySem.Str) by decide +kernel) _ hk rfl
    subst e
    match ws, hw with
    | [_], _ =>
      cases hz
      rfl
theorem t__all_stretches : pg.tr trMaxk r__all_stretches (defScope (Hd.top 15)) (defBody (Hd.top 15)) false = some b__all_stretches := by kernel_rfl
theorem ok__all_stretches : RowOk pg tab (Hd.top 15) r__all_stretches b__all_stretches := ⟨⟨rfl, rfl, rfl, by decide +kernel, rfl, by decide +kernel, by decide +kernel⟩, t__all_stretches, by rfl, ⟨by decide +kernel, by decide +kernel, by decide⟩, by decide⟩
theorem bp__all_stretches : BindP (Hd.top 15) r__all_stretches kls := by
  refine ⟨fun kV doc pm an cdv ct us hl => ?_, fun kV doc pm an cdv ct ks hk ws zs hw hz => ?_⟩
  · match us, hl with
    | [_], _ => rfl
  · exact absurd (List.mem_map_of_mem (f := Prod.fst) hk) (show (r__all_stretches).name ∉ kls.map Prod.fst by decide +kernel)
theorem t_inner_stretches : pg.tr trMaxk r_inner_stretches (defScope (Hd.top 16)) (defBody (Hd.top 16)) false = some b_inner_stretches := by kernel_rfl
theorem ok_inner_stretches : RowOk pg tab (Hd.top 16) r_inner_stretches b_inner_stretches := ⟨⟨rfl, rfl, rfl, by decide +kernel, rfl, by decide +kernel, by decide +kernel⟩, t_inner_stretches, by rfl, ⟨by decide +kernel, by decide +kernel, by decide⟩, by decide⟩
theorem bp_inner_stretches : BindP (Hd.top 16) r_inner_stretches kls := by
  refine ⟨fun kV doc pm an cdv ct us hl => ?_, fun kV doc pm an cdv ct ks hk ws zs hw hz => ?_⟩
  · match us, hl with
    | [_, _], _ => rfl
  · have e : ks = (["page_stretch", "levels"] : List PySem.Str) := (show ∀ e ∈ kls, e.1 = (r_inner_stretches).name → e.2 = (["page_stretch", "levels"] : List PySem.Str) by decide +kernel) _ hk rfl
    subst e
    match ws, hw with
    | [_, _], _ =>
      cases hz
      rfl
theorem t__holds_stretch : pg.tr trMaxk r__holds_stretch (defScope (Hd.top 17)) (defBody (Hd.top 17)) false = some b__holds_stretch := by kernel_rfl
theorem ok__holds_stretch : RowOk pg tab (Hd.top 17) r__holds_stretch b__holds_stretch := ⟨⟨rfl, rfl, rfl, by decide +kernel, rfl, by decide +kernel, by decide +kernel⟩, t__holds_stretch, by rfl, ⟨by decide +kernel, by decide +kernel, by decide⟩, by decide⟩
theorem bp__holds_stretch : BindP (Hd.top 17) r__holds_stretch kls := by
  refine ⟨fun kV doc pm an cdv ct us hl => ?_, fun kV doc pm an cdv ct ks hk ws zs hw hz => ?_⟩
  · match us, hl with
    | [_, _], _ => rfl
  · exact absurd (List.mem_map_of_mem (f := Prod.fst) hk) (show (r__holds_stretch).name ∉ kls.map Prod.fst by decide +kernel)
theorem t__law_source : pg.tr trMaxk r__law_source (defScope (Hd.top 19)) (defBody (Hd.top 19)) false = some b__law_source := by kernel_rfl
theorem ok__law_source : RowOk pg tab (Hd.top 19) r__law_source b__law_source := ⟨⟨rfl, rfl, rfl, by decide +kernel, rfl, by decide +kernel, by decide +kernel⟩, t__law_source, by rfl, ⟨by decide +kernel, by decide +kernel, by decide⟩, by decide⟩
theorem bp__law_source : BindP (Hd.top 19) r__law_source kls := by
  refine ⟨fun kV doc pm an cdv ct us hl => ?_, fun kV doc pm an cdv ct ks hk ws zs hw hz => ?_⟩
  · match us, hl with
    | [_], _ => rfl
  · exact absurd (List.mem_map_of_mem (f := Prod.fst) hk) (show (r__law_source).name ∉ kls.map Prod.fst by decide +kernel)
theorem t__law_draw : pg.tr trMaxk r__law_draw (defScope (Hd.top 20)) (defBody (Hd.top 20)) false = some b__law_draw := by kernel_rfl
theorem ok__law_draw : RowOk pg tab (Hd.top 20) r__law_draw b__law_draw := ⟨⟨rfl, rfl, rfl, by decide +kernel, rfl, by decide +kernel, by decide +kernel⟩, t__law_draw, by rfl, ⟨by decide +kernel, by decide +kernel, by decide⟩, by decide⟩
theorem bp__law_draw : BindP (Hd.top 20) r__law_draw kls := by
  refine ⟨fun kV doc pm an cdv ct us hl => ?_, fun kV doc pm an cdv ct ks hk ws zs hw hz => ?_⟩
  · match us, hl with
    | [_, _], _ => rfl
  · exact absurd (List.mem_map_of_mem (f := Prod.fst) hk) (show (r__law_draw).name ∉ kls.map Prod.fst by decide +kernel)
theorem t__law_same : pg.tr trMaxk r__law_same (defScope (Hd.top 21)) (defBody (Hd.top 21)) false = some b__law_same := by kernel_rfl
theorem ok__law_same : RowOk pg tab (Hd.top 21) r__law_same b__law_same := ⟨⟨rfl, rfl, rfl, by decide +kernel, rfl, by decide +kernel, by decide +kernel⟩, t__law_same, by rfl, ⟨by decide +kernel, by decide +kernel, by decide⟩, by decide⟩
theorem bp__law_same : BindP (Hd.top 21) r__law_same kls := by
  refine ⟨fun kV doc pm an cdv ct us hl => ?_, fun kV doc pm an cdv ct ks hk ws zs hw hz => ?_⟩
  · match us, hl with
    | [_, _], _ => rfl
  · exact absurd (List.mem_map_of_mem (f := Prod.fst) hk) (show (r__law_same).name ∉ kls.map Prod.fst by decide +kernel)
theorem t__law_levels : pg.tr trMaxk r__law_levels (defScope (Hd.top 22)) (defBody (Hd.top 22)) false = some b__law_levels := by kernel_rfl
theorem ok__law_levels : RowOk pg tab (Hd.top 22) r__law_levels b__law_levels := ⟨⟨rfl, rfl, rfl, by decide +kernel, rfl, by decide +kernel, by decide +kernel⟩, t__law_levels, by rfl, ⟨by decide +kernel, by decide +kernel, by decide⟩, by decide⟩
theorem bp__law_levels : BindP (Hd.top 22) r__law_levels kls := by
  refine ⟨fun kV doc pm an cdv ct us hl => ?_, fun kV doc pm an cdv ct ks hk ws zs hw hz => ?_⟩
  · match us, hl with
    | [_, _], _ => rfl
  · exact absurd (List.mem_map_of_mem (f := Prod.fst) hk) (show (r__law_levels).name ∉ kls.map Prod.fst by decide +kernel)
theorem t__law_stretches : pg.tr trMaxk r__law_stretches (defScope (Hd.top 23)) (defBody (Hd.top 23)) false = some b__law_stretches := by kernel_rfl
theorem ok__law_stretches : RowOk pg tab (Hd.top 23) r__law_stretches b__law_stretches := ⟨⟨rfl, rfl, rfl, by decide +kernel, rfl, by decide +kernel, by decide +kernel⟩, t__law_stretches, by rfl, ⟨by decide +kernel, by decide +kernel, by decide⟩, by decide⟩
theorem bp__law_stretches : BindP (Hd.top 23) r__law_stretches kls := by
  refine ⟨fun kV doc pm an cdv ct us hl => ?_, fun kV doc pm an cdv ct ks hk ws zs hw hz => ?_⟩
  · match us, hl with
    | [_], _ => rfl
  · exact absurd (List.mem_map_of_mem (f := Prod.fst) hk) (show (r__law_stretches).name ∉ kls.map Prod.fst by decide +kernel)
theorem t__law_inner : pg.tr trMaxk r__law_inner (defScope (Hd.top 24)) (defBody (Hd.top 24)) false = some b__law_inner := by kernel_rfl
theorem ok__law_inner : RowOk pg tab (Hd.top 24) r__law_inner b__law_inner := ⟨⟨rfl, rfl, rfl, by decide +kernel, rfl, by decide +kernel, by decide +kernel⟩, t__law_inner, by rfl, ⟨by decide +kernel, by decide +kernel, by decide⟩, by decide⟩
theorem bp__law_inner : BindP (Hd.top 24) r__law_inner kls := by
  refine ⟨fun kV doc pm an cdv ct us hl => ?_, fun kV doc pm an cdv ct ks hk ws zs hw hz => ?_⟩
  · match us, hl with
    | [_, _], _ => rfl
  · exact absurd (List.mem_map_of_mem (f := Prod.fst) hk) (show (r__law_inner).name ∉ kls.map Prod.fst by decide +kernel)
theorem t__law_bad_levels : pg.tr trMaxk r__law_bad_levels (defScope (Hd.top 25)) (defBody (Hd.top 25)) false = some b__law_bad_levels := by kernel_rfl
theorem ok__law_bad_levels : RowOk pg tab (Hd.top 25) r__law_bad_levels b__law_bad_levels := ⟨⟨rfl, rfl, rfl, by decide +kernel, rfl, by decide +kernel, by decide +kernel⟩, t__law_bad_levels, by rfl, ⟨by decide +kernel, by decide +kernel, by decide⟩, by decide⟩
theorem bp__law_bad_levels : BindP (Hd.top 25) r__law_bad_levels kls := by
  refine ⟨fun kV doc pm an cdv ct us hl => ?_, fun kV doc pm an cdv ct ks hk ws zs hw hz => ?_⟩
  · match us, hl with
    | [_, _], _ => rfl
  · exact absurd (List.mem_map_of_mem (f := Prod.fst) hk) (show (r__law_bad_levels).name ∉ kls.map Prod.fst by decide +kernel)
theorem t__law_told : pg.tr trMaxk r__law_told (defScope (Hd.top 26)) (defBody (Hd.top 26)) false = some b__law_told := by kernel_rfl
theorem ok__law_told : RowOk pg tab (Hd.top 26) r__law_told b__law_told := ⟨⟨rfl, rfl, rfl, by decide +kernel, rfl, by decide +kernel, by decide +kernel⟩, t__law_told, by rfl, ⟨by decide +kernel, by decide +kernel, by decide⟩, by decide⟩
theorem bp__law_told : BindP (Hd.top 26) r__law_told kls := by
  refine ⟨fun kV doc pm an cdv ct us hl => ?_, fun kV doc pm an cdv ct ks hk ws zs hw hz => ?_⟩
  · match us, hl with
    | [_, _, _], _ => rfl
  · exact absurd (List.mem_map_of_mem (f := Prod.fst) hk) (show (r__law_told).name ∉ kls.map Prod.fst by decide +kernel)
theorem t__law_inner_right : pg.tr trMaxk r__law_inner_right (defScope (Hd.top 27)) (defBody (Hd.top 27)) false = some b__law_inner_right := by kernel_rfl
theorem ok__law_inner_right : RowOk pg tab (Hd.top 27) r__law_inner_right b__law_inner_right := ⟨⟨rfl, rfl, rfl, by decide +kernel, rfl, by decide +kernel, by decide +kernel⟩, t__law_inner_right, by rfl, ⟨by decide +kernel, by decide +kernel, by decide⟩, by decide⟩
theorem bp__law_inner_right : BindP (Hd.top 27) r__law_inner_right kls := by
  refine ⟨fun kV doc pm an cdv ct us hl => ?_, fun kV doc pm an cdv ct ks hk ws zs hw hz => ?_⟩
  · match us, hl with
    | [_, _, _], _ => rfl
  · exact absurd (List.mem_map_of_mem (f := Prod.fst) hk) (show (r__law_inner_right).name ∉ kls.map Prod.fst by decide +kernel)
theorem t__law_refused_right : pg.tr trMaxk r__law_refused_right (defScope (Hd.top 28)) (defBody (Hd.top 28)) false = some b__law_refused_right := by kernel_rfl
theorem ok__law_refused_right : RowOk pg tab (Hd.top 28) r__law_refused_right b__law_refused_right := ⟨⟨rfl, rfl, rfl, by decide +kernel, rfl, by decide +kernel, by decide +kernel⟩, t__law_refused_right, by rfl, ⟨by decide +kernel, by decide +kernel, by decide⟩, by decide⟩
theorem bp__law_refused_right : BindP (Hd.top 28) r__law_refused_right kls := by
  refine ⟨fun kV doc pm an cdv ct us hl => ?_, fun kV doc pm an cdv ct ks hk ws zs hw hz => ?_⟩
  · match us, hl with
    | [_, _, _], _ => rfl
  · exact absurd (List.mem_map_of_mem (f := Prod.fst) hk) (show (r__law_refused_right).name ∉ kls.map Prod.fst by decide +kernel)
theorem t_law : pg.tr trMaxk r_law (defScope (Hd.top 29)) (defBody (Hd.top 29)) true = some b_law := by kernel_rfl
theorem ok_law : LawRow pg (Hd.top 29) r_law b_law := ⟨⟨rfl, rfl, rfl, by decide +kernel, rfl, by decide +kernel, by decide +kernel⟩, t_law, rfl, rfl, rfl, by decide, by decide⟩
theorem bp_law : BindP (Hd.top 29) r_law kls := by
  refine ⟨fun kV doc pm an cdv ct us hl => ?_, fun kV doc pm an cdv ct ks hk ws zs hw hz => ?_⟩
  · match us, hl with
    | [_], _ => rfl
  · exact absurd (List.mem_map_of_mem (f := Prod.fst) hk) (show (r_law).name ∉ kls.map Prod.fst by decide +kernel)
end Pr
set_option Elab.async false
set_option linter.all false
set_option maxRecDepth 100000
namespace Sg
open VF Pr PySem
variable {ns : List Int}
@[scoped simp] theorem scr_ns : (cfg ns).scr = ns := rfl
@[scoped simp] theorem s_holds_levels : (cfg ns).sig "holds_levels" = some ⟨["value"], 0, false⟩ := by rfl
theorem tb_holds_levels : tab "holds_levels" = some ⟨2, 1, 0, b_holds_levels⟩ := ok_holds_levels.tab
@[scoped simp] theorem s_check_levels : (cfg ns).sig "check_levels" = some ⟨["levels"], 0, false⟩ := by rfl
theorem tb_check_levels : tab "check_levels" = some ⟨1, 1, 0, b_check_levels⟩ := ok_check_levels.tab
@[scoped simp] theorem s_inner_of : (cfg ns).sig "inner_of" = some ⟨["levels", "stretch"], 0, true⟩ := by rfl
theorem tb_inner_of : tab "inner_of" = some ⟨7, 2, 0, b_inner_of⟩ := ok_inner_of.tab
@[scoped simp] theorem s_stretches_within : (cfg ns).sig "stretches_within" = some ⟨["levels", "stretch"], 0, true⟩ := by rfl
theorem tb_stretches_within : tab "stretches_within" = some ⟨4, 2, 0, b_stretches_within⟩ := ok_stretches_within.tab
@[scoped simp] theorem s_whole_of : (cfg ns).sig "whole_of" = some ⟨["levels"], 0, false⟩ := by rfl
theorem tb_whole_of : tab "whole_of" = some ⟨1, 1, 0, b_whole_of⟩ := ok_whole_of.tab
@[scoped simp] theorem s_page_stretches : (cfg ns).sig "page_stretches" = some ⟨["levels"], 0, true⟩ := by rfl
theorem tb_page_stretches : tab "page_stretches" = some ⟨1, 1, 0, b_page_stretches⟩ := ok_page_stretches.tab
@[scoped simp] theorem s__all_stretches : (cfg ns).sig "_all_stretches" = some ⟨["levels"], 0, true⟩ := by rfl
theorem tb__all_stretches : tab "_all_stretches" = some ⟨1, 1, 0, b__all_stretches⟩ := ok__all_stretches.tab
@[scoped simp] theorem s_inner_stretches : (cfg ns).sig "inner_stretches" = some ⟨["levels", "page_stretch"], 0, true⟩ := by rfl
theorem tb_inner_stretches : tab "inner_stretches" = some ⟨2, 2, 0, b_inner_stretches⟩ := ok_inner_stretches.tab
@[scoped simp] theorem s__holds_stretch : (cfg ns).sig "_holds_stretch" = some ⟨["levels", "value"], 0, false⟩ := by rfl
theorem tb__holds_stretch : tab "_holds_stretch" = some ⟨3, 2, 0, b__holds_stretch⟩ := ok__holds_stretch.tab
@[scoped simp] theorem s__law_source : (cfg ns).sig "_law_source" = some ⟨["cell"], 0, true⟩ := by rfl
theorem tb__law_source : tab "_law_source" = some ⟨2, 1, 0, b__law_source⟩ := ok__law_source.tab
@[scoped simp] theorem s__law_draw : (cfg ns).sig "_law_draw" = some ⟨["source", "many"], 1, false⟩ := by rfl
theorem tb__law_draw : tab "_law_draw" = some ⟨6, 2, 1, b__law_draw⟩ := ok__law_draw.tab
@[scoped simp] theorem s__law_same : (cfg ns).sig "_law_same" = some ⟨["found", "due"], 0, false⟩ := by rfl
theorem tb__law_same : tab "_law_same" = some ⟨3, 2, 0, b__law_same⟩ := ok__law_same.tab
@[scoped simp] theorem s__law_levels : (cfg ns).sig "_law_levels" = some ⟨["source", "most"], 1, false⟩ := by rfl
theorem tb__law_levels : tab "_law_levels" = some ⟨10, 2, 1, b__law_levels⟩ := ok__law_levels.tab
@[scoped simp] theorem s__law_stretches : (cfg ns).sig "_law_stretches" = some ⟨["levels"], 0, false⟩ := by rfl
theorem tb__law_stretches : tab "_law_stretches" = some ⟨7, 1, 0, b__law_stretches⟩ := ok__law_stretches.tab
@[scoped simp] theorem s__law_inner : (cfg ns).sig "_law_inner" = some ⟨["stretches", "stretch"], 0, false⟩ := by rfl
theorem tb__law_inner : tab "_law_inner" = some ⟨6, 2, 0, b__law_inner⟩ := ok__law_inner.tab
@[scoped simp] theorem s__law_bad_levels : (cfg ns).sig "_law_bad_levels" = some ⟨["source", "levels"], 1, false⟩ := by rfl
theorem tb__law_bad_levels : tab "_law_bad_levels" = some ⟨5, 2, 1, b__law_bad_levels⟩ := ok__law_bad_levels.tab
@[scoped simp] theorem s__law_told : (cfg ns).sig "_law_told" = some ⟨["door", "levels", "stretch"], 0, false⟩ := by rfl
theorem tb__law_told : tab "_law_told" = some ⟨5, 3, 0, b__law_told⟩ := ok__law_told.tab
@[scoped simp] theorem s__law_inner_right : (cfg ns).sig "_law_inner_right" = some ⟨["levels", "stretches", "stretch"], 0, false⟩ := by rfl
theorem tb__law_inner_right : tab "_law_inner_right" = some ⟨8, 3, 0, b__law_inner_right⟩ := ok__law_inner_right.tab
@[scoped simp] theorem s__law_refused_right : (cfg ns).sig "_law_refused_right" = some ⟨["source", "levels", "stretches"], 1, false⟩ := by rfl
theorem tb__law_refused_right : tab "_law_refused_right" = some ⟨11, 3, 1, b__law_refused_right⟩ := ok__law_refused_right.tab
@[scoped simp] theorem g_MOST_KEYS : (cfg ns).glob "MOST_KEYS" = some (.int 24) := by rfl
@[scoped simp] theorem g_GREATEST_LEVEL : (cfg ns).glob "GREATEST_LEVEL" = some (.int 4) := by rfl
@[scoped simp] theorem x_InvalidLevels_InvalidLevels : (cfg ns).exm "InvalidLevels" "InvalidLevels" = some true := by rfl
@[scoped simp] theorem x_InvalidLevels_InvalidStretch : (cfg ns).exm "InvalidLevels" "InvalidStretch" = some false := by rfl
@[scoped simp] theorem x_InvalidStretch_InvalidLevels : (cfg ns).exm "InvalidStretch" "InvalidLevels" = some false := by rfl
@[scoped simp] theorem x_InvalidStretch_InvalidStretch : (cfg ns).exm "InvalidStretch" "InvalidStretch" = some true := by rfl
@[scoped simp] theorem k_inner_stretches_0 {a0 a1 : PyData} : kperm ["levels", "page_stretch"] ["page_stretch", "levels"] [a0, a1] = some [a1, a0] := by rfl
@[scoped simp] theorem k_page_stretches_1 {a0 : PyData} : kperm ["levels"] ["levels"] [a0] = some [a0] := by rfl
end Sg
set_option Elab.async false
set_option linter.all false
set_option maxRecDepth 100000
namespace Ma
/-! ### greatest sums -/
def upM (b : List Int) (p : Nat × Int) : List Int := b.set p.1 (max (b.getD p.1 0) p.2)
theorem upM_len {b : List Int} {p : Nat × Int} : (upM b p).length = b.length := by simp [upM]
theorem foldM_len : ∀ (ups : List (Nat × Int)) (b : List Int), (ups.foldl upM b).length = b.length
  | [], _ => rfl
  | p :: ups, b => by
    rw [List.foldl_cons, foldM_len ups, upM_len]
theorem fold_max : ∀ (ups : List (Nat × Int)) (b : List Int) (j : Nat) (x : Int), b[j]? = some x → ∃ m, (ups.foldl upM b)[j]? = some m ∧ (m = x ∨ (j, m) ∈ ups) ∧ x ≤ m ∧ ∀ y, (j, y) ∈ ups → y ≤ m
  | [], b, j, x, h => ⟨x, h, .inl rfl, Int.le_refl _, fun y hy => by cases hy⟩
  | (p, y) :: ups, b, j, x, h => by
    rw [List.foldl_cons]
    have hl : j < b.length := (List.getElem?_eq_some_iff.mp h).1
    by_cases e : p = j
    · subst e
      have h1 : (upM b (p, y))[p]? = some (max x y) := by
        simp only [upM]
        rw [List.getElem?_set_self hl, List.getD_eq_getElem?_getD, h]
        rfl
      obtain ⟨m, g1, g2, g3, g4⟩ := fold_max ups _ _ _ h1
      refine ⟨m, g1, ?_, by omega, fun z hz => ?_⟩
      · rcases g2 with rfl | g2
        · by_cases q : x ≤ y
          · right
            rw [Int.max_eq_right q]
            exact List.mem_cons_self ..
          · left
            omega
        · exact .inr (List.mem_cons_of_mem _ g2)
      · rcases List.mem_cons.mp hz with e | hz
        · cases e
          omega
        · exact g4 z hz
    · have h1 : (upM b (p, y))[j]? = some x := by
        simp only [upM]
        rw [List.getElem?_set_ne e]
        exact h
      obtain ⟨m, g1, g2, g3, g4⟩ := fold_max ups _ _ _ h1
      refine ⟨m, g1, g2.imp id (List.mem_cons_of_mem _), g3, fun z hz => ?_⟩
      rcases List.mem_cons.mp hz with q | hz
      · cases q
        exact absurd rfl e
      · exact g4 z hz
def upsw (w : Nat → Int) (a b : List Int) : List (Nat × Int) := a.zipIdx.flatMap fun p => b.zipIdx.map fun q => (p.2 + q.2, p.1 + w p.2 + q.1)
def Cw (w : Nat → Int) (a b : List Int) (j : Nat) (x : Int) : Prop := ∃ i k u v, a[i]? = some u ∧ b[k]? = some v ∧ j = i + k ∧ x = u + w i + v
theorem mem_upsw {w : Nat → Int} {a b : List Int} {j : Nat} {x : Int} : (j, x) ∈ upsw w a b ↔ Cw w a b j x := by
  unfold upsw Cw
  rw [List.mem_flatMap]
  constructor
  · rintro ⟨⟨u, i⟩, h1, h2⟩
    obtain ⟨⟨v, k⟩, h3, e⟩ := List.mem_map.mp h2
    cases e
    exact ⟨i, k, u, v, List.mem_zipIdx_iff_getElem?.mp h1, List.mem_zipIdx_iff_getElem?.mp h3, rfl, rfl⟩
  · rintro ⟨i, k, u, v, h1, h2, rfl, rfl⟩
    exact ⟨(u, i), List.mem_zipIdx_iff_getElem?.mpr h1, List.mem_map.mpr ⟨(v, k), List.mem_zipIdx_iff_getElem?.mpr h2, rfl⟩⟩
def gsw (w : Nat → Int) (a b : List Int) : List Int := (upsw w a b).foldl upM (List.replicate (a.length + b.length - 1) 0)
theorem gsw_len {w : Nat → Int} {a b : List Int} : (gsw w a b).length = a.length + b.length - 1 := by
  unfold gsw
  rw [foldM_len, List.length_replicate]
theorem gsw_at {w : Nat → Int} {a b : List Int} {j : Nat} {m : Int} (h : (gsw w a b)[j]? = some m) : (m = 0 ∨ Cw w a b j m) ∧ 0 ≤ m ∧ ∀ y, Cw w a b j y → y ≤ m := by
  have hl : j < (gsw w a b).length := (List.getElem?_eq_some_iff.mp h).1
  rw [gsw_len] at hl
  obtain ⟨m', g1, g2, g3, g4⟩ := fold_max (upsw w a b) (List.replicate (a.length + b.length - 1) 0) j 0 (by simp [hl])
  have : m = m' := by
    have e : (gsw w a b)[j]? = some m' := g1
    rw [h] at e
    exact Option.some.inj e
  subst this
  exact ⟨g2.imp id mem_upsw.mp, g3, fun y hy => g4 y (mem_upsw.mpr hy)⟩
theorem gsw_get {w : Nat → Int} {a b : List Int} {j : Nat} (h : j < a.length + b.length - 1) : ∃ m, (gsw w a b)[j]? = some m := by
  rw [← gsw_len (w := w)] at h
  exact ⟨_, List.getElem?_eq_getElem h⟩
/-! ### a key that is taken or not -/
structure RR (A A' A'' : List Int) : Prop where
  l1 : A.length = A'.length + 1
  l2 : A.length = A''.length + 1
  p0 : 0 < A''.length
  at1 : ∀ (j : Nat) (m : Int), A[j]? = some m → (∃ i : Nat, j = i + 1 ∧ A'[i]? = some m) ∨ A''[j]? = some m
  le1 : ∀ (i : Nat) (m x : Int), A[i + 1]? = some m → A'[i]? = some x → x ≤ m
  le2 : ∀ (j : Nat) (m x : Int), A[j]? = some m → A''[j]? = some x → x ≤ m
theorem get_lt {α : Type} {l : List α} {i : Nat} {x : α} (h : l[i]? = some x) : i < l.length := (List.getElem?_eq_some_iff.mp h).1
theorem get_ex {α : Type} {l : List α} {i : Nat} (h : i < l.length) : ∃ x, l[i]? = some x := ⟨_, List.getElem?_eq_getElem h⟩
theorem rr_left {A A' A'' B : List Int} {w w' w'' : Nat → Int} (R : RR A A' A'') (hB : 0 < B.length) (h1 : ∀ i, w' i = w (i + 1)) (h2 : ∀ i, w'' i = w i) : RR (gsw w A B) (gsw w' A' B) (gsw w'' A'' B) := by
  have l1 := R.l1
  have l2 := R.l2
  have p0 := R.p0
  have le1 : ∀ (i : Nat) (m x : Int), (gsw w A B)[i + 1]? = some m → (gsw w' A' B)[i]? = some x → x ≤ m := fun i m x hm hx => by
    obtain ⟨_, g2, g3⟩ := gsw_at hm
    rcases (gsw_at hx).1 with rfl | ⟨i', k, u, v, e1, e2, e3, e4⟩
    · exact g2
    · obtain ⟨u0, hu⟩ := get_ex (l := A) (i := i' + 1) (by have := get_lt e1; omega)
      have := R.le1 _ _ _ hu e1
      have := g3 _ ⟨i' + 1, k, u0, v, hu, e2, by omega, rfl⟩
      have := h1 i'
      omega
  have le2 : ∀ (j : Nat) (m x : Int), (gsw w A B)[j]? = some m → (gsw w'' A'' B)[j]? = some x → x ≤ m := fun j m x hm hx => by
    obtain ⟨_, g2, g3⟩ := gsw_at hm
    rcases (gsw_at hx).1 with rfl | ⟨i', k, u, v, e1, e2, e3, e4⟩
    · exact g2
    · obtain ⟨u0, hu⟩ := get_ex (l := A) (i := i') (by have := get_lt e1; omega)
      have := R.le2 _ _ _ hu e1
      have := g3 _ ⟨i', k, u0, v, hu, e2, by omega, rfl⟩
      have := h2 i'
      omega
  refine ⟨by rw [gsw_len, gsw_len]; omega, by rw [gsw_len, gsw_len]; omega, by rw [gsw_len]; omega, fun j m hm => ?_, le1, le2⟩
  have hj := get_lt hm
  rw [gsw_len] at hj
  rcases (gsw_at hm).1 with rfl | ⟨i, k, u, v, e1, e2, e3, e4⟩
  · by_cases q : j < A''.length + B.length - 1
    · obtain ⟨x, hx⟩ := gsw_get (w := w'') q
      have a1 := le2 _ _ _ hm hx
      have a2 := (gsw_at hx).2.1
      have : x = 0 := by omega
      subst this
      exact .inr hx
    · obtain ⟨x, hx⟩ := gsw_get (w := w') (a := A') (b := B) (j := j - 1) (by omega)
      have a1 := le1 _ _ _ (by rw [show j - 1 + 1 = j by omega]; exact hm) hx
      have a2 := (gsw_at hx).2.1
      have : x = 0 := by omega
      subst this
      exact .inl ⟨j - 1, by omega, hx⟩
  · rcases R.at1 _ _ e1 with ⟨i', rfl, g⟩ | g
    · obtain ⟨x, hx⟩ := gsw_get (w := w') (a := A') (b := B) (j := i' + k) (by have := get_lt g; have := get_lt e2; omega)
      have a1 := le1 (i' + k) m x (by rw [show i' + k + 1 = j by omega]; exact hm) hx
      have a2 := (gsw_at hx).2.2 _ ⟨i', k, u, v, g, e2, rfl, rfl⟩
      have := h1 i'
      have : x = m := by omega
      subst this
      exact .inl ⟨i' + k, by omega, hx⟩
    · obtain ⟨x, hx⟩ := gsw_get (w := w'') (a := A'') (b := B) (j := j) (by have := get_lt g; have := get_lt e2; omega)
      have a1 := le2 _ _ _ hm hx
      have a2 := (gsw_at hx).2.2 _ ⟨i, k, u, v, g, e2, e3, rfl⟩
      have := h2 i
      have : x = m := by omega
      subst this
      exact .inr hx
theorem rr_right {A B B' B'' : List Int} {w : Nat → Int} (R : RR B B' B'') (hA : 0 < A.length) : RR (gsw w A B) (gsw w A B') (gsw w A B'') := by
  have l1 := R.l1
  have l2 := R.l2
  have p0 := R.p0
  have le1 : ∀ (i : Nat) (m x : Int), (gsw w A B)[i + 1]? = some m → (gsw w A B')[i]? = some x → x ≤ m := fun i m x hm hx => by
    obtain ⟨_, g2, g3⟩ := gsw_at hm
    rcases (gsw_at hx).1 with rfl | ⟨i', k, u, v, e1, e2, e3, e4⟩
    · exact g2
    · obtain ⟨u0, hu⟩ := get_ex (l := B) (i := k + 1) (by have := get_lt e2; omega)
      have := R.le1 _ _ _ hu e2
      have := g3 _ ⟨i', k + 1, u, u0, e1, hu, by omega, rfl⟩
      omega
  have le2 : ∀ (j : Nat) (m x : Int), (gsw w A B)[j]? = some m → (gsw w A B'')[j]? = some x → x ≤ m := fun j m x hm hx => by
    obtain ⟨_, g2, g3⟩ := gsw_at hm
    rcases (gsw_at hx).1 with rfl | ⟨i', k, u, v, e1, e2, e3, e4⟩
    · exact g2
    · obtain ⟨u0, hu⟩ := get_ex (l := B) (i := k) (by have := get_lt e2; omega)
      have := R.le2 _ _ _ hu e2
      have := g3 _ ⟨i', k, u, u0, e1, hu, by omega, rfl⟩
      omega
  refine ⟨by rw [gsw_len, gsw_len]; omega, by rw [gsw_len, gsw_len]; omega, by rw [gsw_len]; omega, fun j m hm => ?_, le1, le2⟩
  have hj := get_lt hm
  rw [gsw_len] at hj
  rcases (gsw_at hm).1 with rfl | ⟨i, k, u, v, e1, e2, e3, e4⟩
  · by_cases q : j < A.length + B''.length - 1
    · obtain ⟨x, hx⟩ := gsw_get (w := w) q
      have a1 := le2 _ _ _ hm hx
      have a2 := (gsw_at hx).2.1
      have : x = 0 := by omega
      subst this
      exact .inr hx
    · obtain ⟨x, hx⟩ := gsw_get (w := w) (a := A) (b := B') (j := j - 1) (by omega)
      have a1 := le1 _ _ _ (by rw [show j - 1 + 1 = j by omega]; exact hm) hx
      have a2 := (gsw_at hx).2.1
      have : x = 0 := by omega
      subst this
      exact .inl ⟨j - 1, by omega, hx⟩
  · rcases R.at1 _ _ e2 with ⟨k', rfl, g⟩ | g
    · obtain ⟨x, hx⟩ := gsw_get (w := w) (a := A) (b := B') (j := i + k') (by have := get_lt g; have := get_lt e1; omega)
      have a1 := le1 (i + k') m x (by rw [show i + k' + 1 = j by omega]; exact hm) hx
      have a2 := (gsw_at hx).2.2 _ ⟨i, k', u, v, e1, g, rfl, rfl⟩
      have : x = m := by omega
      subst this
      exact .inl ⟨i + k', by omega, hx⟩
    · obtain ⟨x, hx⟩ := gsw_get (w := w) (a := A) (b := B'') (j := j) (by have := get_lt g; have := get_lt e1; omega)
      have a1 := le2 _ _ _ hm hx
      have a2 := (gsw_at hx).2.2 _ ⟨i, k, u, v, e1, g, e3, rfl⟩
      have : x = m := by omega
      subst this
      exact .inr hx
theorem map1_get {A : List Int} {j : Nat} {m : Int} (h : (A.map (1 + ·))[j]? = some m) : A[j]? = some (m - 1) := by
  rw [List.getElem?_map] at h
  cases e : A[j]? with
  | none => rw [e] at h; cases h
  | some x =>
    rw [e] at h
    cases h
    show some x = some (1 + x - 1)
    congr 1
    omega
theorem get_map1 {A : List Int} {j : Nat} {m : Int} (h : A[j]? = some (m - 1)) : (A.map (1 + ·))[j]? = some m := by
  rw [List.getElem?_map, h]
  simp
  omega
theorem rr_map {A A' A'' : List Int} (R : RR A A' A'') : RR (A.map (1 + ·)) (A'.map (1 + ·)) (A''.map (1 + ·)) where
  l1 := by simpa using R.l1
  l2 := by simpa using R.l2
  p0 := by simpa using R.p0
  at1 := fun j m h => by
    rcases R.at1 _ _ (map1_get h) with ⟨i, e, g⟩ | g
    · exact .inl ⟨i, e, get_map1 g⟩
    · exact .inr (get_map1 g)
  le1 := fun i m x h1 h2 => by have := R.le1 _ _ _ (map1_get h1) (map1_get h2); omega
  le2 := fun i m x h1 h2 => by have := R.le2 _ _ _ (map1_get h1) (map1_get h2); omega
theorem rr_set {A A' A'' : List Int} (R : RR A A' A'') : RR (A.set 0 0) A' (A''.set 0 0) where
  l1 := by simpa using R.l1
  l2 := by simpa using R.l2
  p0 := by simpa using R.p0
  at1 := fun j m h => by
    have hl := get_lt h
    have l2 := R.l2
    have p0 := R.p0
    cases j with
    | zero =>
      rw [List.getElem?_set_self (by simpa using hl)] at h
      cases h
      exact .inr (List.getElem?_set_self p0)
    | succ j =>
      rw [List.getElem?_set_ne (by omega)] at h
      rcases R.at1 _ _ h with ⟨i, e, g⟩ | g
      · exact .inl ⟨i, e, g⟩
      · exact .inr (by rw [List.getElem?_set_ne (by omega)]; exact g)
  le1 := fun i m x h1 h2 => by
    rw [List.getElem?_set_ne (by omega)] at h1
    exact R.le1 _ _ _ h1 h2
  le2 := fun j m x h1 h2 => by
    have hl := get_lt h1
    have hl2 := get_lt h2
    cases j with
    | zero =>
      rw [List.getElem?_set_self (by simpa using hl)] at h1
      rw [List.getElem?_set_self (by simpa using hl2)] at h2
      cases h1
      cases h2
      exact Int.le_refl _
    | succ j =>
      rw [List.getElem?_set_ne (by omega)] at h1 h2
      exact R.le2 _ _ _ h1 h2
theorem rr_leaf : RR [0, 0] [0] [0] where
  l1 := rfl
  l2 := rfl
  p0 := by decide
  at1 := fun j m h => by
    rcases j with _ | _ | j
    · exact .inr h
    · exact .inl ⟨0, rfl, h⟩
    · simp at h
  le1 := fun i m x h1 h2 => by
    rcases i with _ | i
    · cases h1; cases h2; exact Int.le_refl _
    · simp at h2
  le2 := fun i m x h1 h2 => by
    rcases i with _ | i
    · cases h1; cases h2; exact Int.le_refl _
    · simp at h2
end Ma
set_option Elab.async false
set_option linter.all false
set_option maxRecDepth 100000
namespace Ma
/-! ### stretches, parted -/
def Chn : Int → Int → List (Int × Int) → Prop
  | lo, hi, [] => lo = hi + 1
  | lo, hi, p :: r => p.1 = lo ∧ p.1 ≤ p.2 ∧ Chn (p.2 + 1) hi r
theorem chn_le : ∀ {ps : List (Int × Int)} {lo hi : Int}, Chn lo hi ps → lo + ps.length ≤ hi + 1
  | [], lo, hi, h => by
    have : lo = hi + 1 := h
    simp
    omega
  | p :: r, lo, hi, h => by
    have h1 := h.1
    have h2 := h.2.1
    have := chn_le h.2.2
    simp only [List.length_cons]
    omega
theorem chn_mem : ∀ {ps : List (Int × Int)} {lo hi : Int} {p : Int × Int}, Chn lo hi ps → p ∈ ps → lo ≤ p.1 ∧ p.1 ≤ p.2 ∧ p.2 ≤ hi ∧ p.2 - p.1 + ps.length ≤ hi - lo + 1
  | [], lo, hi, p, h, m => by cases m
  | q :: r, lo, hi, p, h, m => by
    have h1 := h.1
    have h2 := h.2.1
    have h3 := chn_le h.2.2
    simp only [List.length_cons]
    rcases List.mem_cons.mp m with rfl | m
    · exact ⟨by omega, h2, by omega, by omega⟩
    · have := chn_mem h.2.2 m
      omega
theorem chn_snoc : ∀ {ps : List (Int × Int)} {lo hi : Int} {z : Int × Int}, Chn lo hi (ps ++ [z]) → Chn lo (z.1 - 1) ps ∧ z.1 ≤ z.2 ∧ z.2 = hi
  | [], lo, hi, z, h => by
    have h1 : z.1 = lo := h.1
    have h2 := h.2.1
    have h3 : z.2 + 1 = hi + 1 := h.2.2
    exact ⟨show lo = z.1 - 1 + 1 by omega, h2, by omega⟩
  | p :: r, lo, hi, z, h => by
    obtain ⟨a, b, c⟩ := chn_snoc (ps := r) h.2.2
    exact ⟨⟨h.1, h.2.1, a⟩, b, c⟩
/-- a stretch of two or more keys has two parts or more, one after another; that of one has none -/
structure Par (par : Int × Int → List (Int × Int)) (lo hi : Int) : Prop where
  one : ∀ a, lo ≤ a → a ≤ hi → par (a, a) = []
  more : ∀ a b, lo ≤ a → a < b → b ≤ hi → ∃ qs z, par (a, b) = qs ++ [z] ∧ qs ≠ [] ∧ Chn a b (qs ++ [z])
def holdB (s : Int × Int) (ch : List Int) : Bool := ch.any fun k => decide (s.1 ≤ k) && decide (k ≤ s.2)
def wf (b : Bool) (i : Nat) : Int := if b || decide (0 < i) then 1 else 0
def mi (par : Int × Int → List (Int × Int)) (ch : List Int) (ls : Int) : Nat → Int × Int → List Int
  | 0, _ => []
  | f + 1, s => if par s = [] then (if ls ≤ s.1 then [0, 0] else [0]) else
    if holdB s ch then gsw (wf ((par s).dropLast.any fun p => holdB p ch)) ((par s).dropLast.foldl (fun acc q => gsw (fun _ => 0) acc ((mi par ch ls f q).map (1 + ·))) [0]) (mi par ch ls f ((par s).getLastD (0, 0)))
    else (gsw (wf ((par s).dropLast.any fun p => holdB p ch)) ((par s).dropLast.foldl (fun acc q => gsw (fun _ => 0) acc ((mi par ch ls f q).map (1 + ·))) [0]) (mi par ch ls f ((par s).getLastD (0, 0)))).set 0 0
theorem foldl_same {α β : Type} {f g : α → β → α} : ∀ {l : List β} {a : α}, (∀ b ∈ l, ∀ a, f a b = g a b) → l.foldl f a = l.foldl g a
  | [], a, h => rfl
  | b :: l, a, h => by
    rw [List.foldl_cons, List.foldl_cons, h b (List.mem_cons_self ..), foldl_same fun c hc => h c (List.mem_cons_of_mem _ hc)]
theorem any_same {β : Type} {f g : β → Bool} : ∀ {l : List β}, (∀ b ∈ l, f b = g b) → l.any f = l.any g
  | [], h => rfl
  | b :: l, h => by
    rw [List.any_cons, List.any_cons, h b (List.mem_cons_self ..), any_same fun c hc => h c (List.mem_cons_of_mem _ hc)]
variable {par : Int × Int → List (Int × Int)} {lo hi : Int}
theorem mi_same (P : Par par lo hi) {ch ch2 : List Int} {ls ls2 : Int} : ∀ (f : Nat) (s : Int × Int), lo ≤ s.1 → s.1 ≤ s.2 → s.2 ≤ hi → (∀ t : Int × Int, s.1 ≤ t.1 → t.1 ≤ t.2 → t.2 ≤ s.2 → holdB t ch = holdB t ch2) → (∀ k, s.1 ≤ k → k ≤ s.2 → (ls ≤ k ↔ ls2 ≤ k)) → mi par ch ls f s = mi par ch2 ls2 f s
  | 0, s, _, _, _, _, _ => rfl
  | f + 1, (a, b), h1, h2, h3, hh, hk => by
    simp only at h1 h2 h3
    by_cases e : a = b
    · subst e
      have p1 := P.one a h1 h3
      have := hk a (Int.le_refl _) (Int.le_refl _)
      simp only [mi, p1, if_true]
      by_cases q : ls ≤ a
      · rw [if_pos q, if_pos (this.mp q)]
      · rw [if_neg q, if_neg fun z => q (this.mpr z)]
    · obtain ⟨qs, z, e1, e2, c⟩ := P.more a b h1 (by omega) h3
      have ne : par (a, b) ≠ [] := by rw [e1]; simp
      have sub : ∀ q ∈ qs ++ [z], mi par ch ls f q = mi par ch2 ls2 f q ∧ holdB q ch = holdB q ch2 := fun q hq => by
        obtain ⟨g1, g2, g3, _⟩ := chn_mem c hq
        exact ⟨mi_same P f q (by omega) g2 (by omega) (fun t t1 t2 t3 => hh t (by omega) t2 (by omega)) (fun k k1 k2 => hk k (by omega) (by omega)), hh q g1 g2 g3⟩
      have A : (par (a, b)).dropLast = qs := by rw [e1, List.dropLast_concat]
      have B : (par (a, b)).getLastD (0, 0) = z := by rw [e1, List.getLastD_concat]
      have E1 : (qs.any fun p => holdB p ch) = qs.any fun p => holdB p ch2 := any_same fun q hq => (sub q (List.mem_append_left _ hq)).2
      have E2 : qs.foldl (fun acc q => gsw (fun _ => 0) acc ((mi par ch ls f q).map (1 + ·))) [0] = qs.foldl (fun acc q => gsw (fun _ => 0) acc ((mi par ch2 ls2 f q).map (1 + ·))) [0] := foldl_same fun q hq acc => by
        rw [(sub q (List.mem_append_left _ hq)).1]
      have E3 := (sub z (by simp)).1
      have E4 := hh (a, b) (Int.le_refl _) h2 (Int.le_refl _)
      simp only [mi, ne, if_false, A, B, E1, E2, E3, E4]
theorem mi_len (P : Par par lo hi) {ch : List Int} {ls : Int} : ∀ (f : Nat) (s : Int × Int), lo ≤ s.1 → s.1 ≤ s.2 → s.2 ≤ hi → s.2 - s.1 + 1 ≤ f → 0 < (mi par ch ls f s).length ∧ ((mi par ch ls f s).length : Int) ≤ s.2 - s.1 + 2
  | 0, s, _, _, _, _ => by omega
  | f + 1, (a, b), h1, h2, h3, hf => by
    simp only at h1 h2 h3 hf
    by_cases e : a = b
    · subst e
      have p1 := P.one a h1 h3
      simp only [mi, p1, if_true]
      by_cases q : ls ≤ a
      · rw [if_pos q]; exact ⟨by decide, by simp⟩
      · rw [if_neg q]; exact ⟨by decide, by simp⟩
    · obtain ⟨qs, z, e1, e2, c⟩ := P.more a b h1 (by omega) h3
      have ne : par (a, b) ≠ [] := by rw [e1]; simp
      have hq0 : 0 < qs.length := List.length_pos_iff.mpr e2
      have sub : ∀ q ∈ qs ++ [z], 0 < (mi par ch ls f q).length ∧ ((mi par ch ls f q).length : Int) ≤ q.2 - q.1 + 2 := fun q hq => by
        obtain ⟨g1, g2, g3, g4⟩ := chn_mem c hq
        simp only [List.length_append, List.length_cons, List.length_nil] at g4
        exact mi_len P f q (by omega) g2 (by omega) (by omega)
      have A : (par (a, b)).dropLast = qs := by rw [e1, List.dropLast_concat]
      have B : (par (a, b)).getLastD (0, 0) = z := by rw [e1, List.getLastD_concat]
      have fl : ∀ (rs : List (Int × Int)) (acc : List Int) (l0 : Int), Chn l0 (z.1 - 1) rs → (∀ q ∈ rs, q ∈ qs ++ [z]) → 0 < acc.length → (acc.length : Int) ≤ l0 - a + 1 →
          0 < (rs.foldl (fun acc q => gsw (fun _ => 0) acc ((mi par ch ls f q).map (1 + ·))) acc).length ∧ ((rs.foldl (fun acc q => gsw (fun _ => 0) acc ((mi par ch ls f q).map (1 + ·))) acc).length : Int) ≤ z.1 - a + 1 := by
        intro rs
        induction rs with
        | nil =>
          intro acc l0 c0 _ ha hb
          have : l0 = z.1 - 1 + 1 := c0
          exact ⟨ha, by show (acc.length : Int) ≤ _; omega⟩
        | cons q rs ih =>
          intro acc l0 c0 hm ha hb
          obtain ⟨s1, s2⟩ := sub q (hm q (List.mem_cons_self ..))
          have c1 := c0.1
          have c2 := c0.2.1
          rw [List.foldl_cons]
          refine ih _ _ c0.2.2 (fun x hx => hm x (List.mem_cons_of_mem _ hx)) ?_ ?_
          · rw [gsw_len, List.length_map]; omega
          · rw [gsw_len, List.length_map]; omega
      obtain ⟨z1, z2, z3⟩ := chn_snoc c
      obtain ⟨f1, f2⟩ := fl qs [0] a z1 (fun q hq => List.mem_append_left _ hq) (by decide) (by simp)
      obtain ⟨s1, s2⟩ := sub z (by simp)
      have key : ∀ w, 0 < (gsw w (qs.foldl (fun acc q => gsw (fun _ => 0) acc ((mi par ch ls f q).map (1 + ·))) [0]) (mi par ch ls f z)).length ∧ ((gsw w (qs.foldl (fun acc q => gsw (fun _ => 0) acc ((mi par ch ls f q).map (1 + ·))) [0]) (mi par ch ls f z)).length : Int) ≤ b - a + 2 := fun w => by
        rw [gsw_len]
        constructor
        · omega
        · omega
      simp only [mi, ne, if_false, A, B]
      by_cases q : holdB (a, b) ch = true
      · rw [if_pos q]; exact key _
      · rw [if_neg q, List.length_set]; exact key _
theorem hold_snoc {s : Int × Int} {ch : List Int} {l : Int} : holdB s (ch ++ [l]) = (holdB s ch || (decide (s.1 ≤ l) && decide (l ≤ s.2))) := by
  simp [holdB]
theorem hold_out {s : Int × Int} {ch : List Int} {l : Int} (h : l < s.1 ∨ s.2 < l) : holdB s (ch ++ [l]) = holdB s ch := by
  rw [hold_snoc]
  rcases h with h | h
  · simp [show ¬ s.1 ≤ l by omega]
  · simp [show ¬ l ≤ s.2 by omega]
theorem hold_in {s : Int × Int} {ch : List Int} {l : Int} (h : s.1 ≤ l) (h' : l ≤ s.2) : holdB s (ch ++ [l]) = true := by
  rw [hold_snoc]
  simp [h, h']
theorem mi_out (P : Par par lo hi) {ch : List Int} {l : Int} {f : Nat} {s : Int × Int} (h1 : lo ≤ s.1) (h2 : s.1 ≤ s.2) (h3 : s.2 ≤ hi) (ho : l < s.1 ∨ s.2 < l) : mi par (ch ++ [l]) (l + 1) f s = mi par ch l f s ∧ mi par ch (l + 1) f s = mi par ch l f s :=
  ⟨mi_same P f s h1 h2 h3 (fun t t1 t2 t3 => hold_out (by omega)) (fun k k1 k2 => by omega), mi_same P f s h1 h2 h3 (fun t t1 t2 t3 => rfl) (fun k k1 k2 => by omega)⟩
theorem wf_one {b : Bool} {i : Nat} : wf true i = wf b (i + 1) := by simp [wf]
/-- at any key it is taken or not -/
theorem mi_rel (P : Par par lo hi) {ch : List Int} {l : Int} : ∀ (f : Nat) (s : Int × Int), lo ≤ s.1 → s.1 ≤ l → l ≤ s.2 → s.2 ≤ hi → s.2 - s.1 + 1 ≤ f → RR (mi par ch l f s) (mi par (ch ++ [l]) (l + 1) f s) (mi par ch (l + 1) f s)
  | 0, s, _, _, _, _, _ => by omega
  | f + 1, (a, b), h1, h2, h2', h3, hf => by
    simp only at h1 h2 h2' h3 hf
    by_cases e : a = b
    · subst e
      have p1 := P.one a h1 h3
      have : l = a := by omega
      subst this
      simp only [mi, p1, if_true, Int.le_refl]
      rw [if_neg (by omega)]
      exact rr_leaf
    · obtain ⟨qs, z, e1, e2, c⟩ := P.more a b h1 (by omega) h3
      have ne : par (a, b) ≠ [] := by rw [e1]; simp
      have hq0 : 0 < qs.length := List.length_pos_iff.mpr e2
      have bd : ∀ q ∈ qs ++ [z], lo ≤ q.1 ∧ q.1 ≤ q.2 ∧ q.2 ≤ hi ∧ q.2 - q.1 + 1 ≤ f := fun q hq => by
        obtain ⟨g1, g2, g3, g4⟩ := chn_mem c hq
        simp only [List.length_append, List.length_cons, List.length_nil] at g4
        exact ⟨by omega, g2, by omega, by omega⟩
      have A : (par (a, b)).dropLast = qs := by rw [e1, List.dropLast_concat]
      have B : (par (a, b)).getLastD (0, 0) = z := by rw [e1, List.getLastD_concat]
      obtain ⟨z1, z2, z3⟩ := chn_snoc c
      -- what lies behind
      have F1 : ∀ (rs : List (Int × Int)) (X X' X'' : List Int), (∀ q ∈ rs, q ∈ qs ++ [z]) → (∀ q ∈ rs, l < q.1 ∨ q.2 < l) → RR X X' X'' →
          RR (rs.foldl (fun acc q => gsw (fun _ => 0) acc ((mi par ch l f q).map (1 + ·))) X) (rs.foldl (fun acc q => gsw (fun _ => 0) acc ((mi par (ch ++ [l]) (l + 1) f q).map (1 + ·))) X') (rs.foldl (fun acc q => gsw (fun _ => 0) acc ((mi par ch (l + 1) f q).map (1 + ·))) X'') := by
        intro rs
        induction rs with
        | nil => intro X X' X'' _ _ R; exact R
        | cons q rs ih =>
          intro X X' X'' hm ho R
          obtain ⟨b1, b2, b3, b4⟩ := bd q (hm q (List.mem_cons_self ..))
          obtain ⟨o1, o2⟩ := mi_out (f := f) (ch := ch) P b1 b2 b3 (ho q (List.mem_cons_self ..))
          rw [List.foldl_cons, List.foldl_cons, List.foldl_cons, o1, o2]
          exact ih _ _ _ (fun x hx => hm x (List.mem_cons_of_mem _ hx)) (fun x hx => ho x (List.mem_cons_of_mem _ hx)) (rr_left R (by rw [List.length_map]; exact (mi_len P f q b1 b2 b3 b4).1) (fun _ => rfl) fun _ => rfl)
      have F0 : ∀ (rs : List (Int × Int)) (X : List Int), (∀ q ∈ rs, q ∈ qs ++ [z]) → (∀ q ∈ rs, l < q.1 ∨ q.2 < l) →
          rs.foldl (fun acc q => gsw (fun _ => 0) acc ((mi par (ch ++ [l]) (l + 1) f q).map (1 + ·))) X = rs.foldl (fun acc q => gsw (fun _ => 0) acc ((mi par ch l f q).map (1 + ·))) X ∧ rs.foldl (fun acc q => gsw (fun _ => 0) acc ((mi par ch (l + 1) f q).map (1 + ·))) X = rs.foldl (fun acc q => gsw (fun _ => 0) acc ((mi par ch l f q).map (1 + ·))) X := by
        intro rs X hm ho
        refine ⟨foldl_same fun q hq acc => ?_, foldl_same fun q hq acc => ?_⟩
        · obtain ⟨b1, b2, b3, b4⟩ := bd q (hm q hq)
          rw [(mi_out (f := f) (ch := ch) P b1 b2 b3 (ho q hq)).1]
        · obtain ⟨b1, b2, b3, b4⟩ := bd q (hm q hq)
          rw [(mi_out (f := f) (ch := ch) P b1 b2 b3 (ho q hq)).2]
      have F2 : ∀ (rs : List (Int × Int)) (X : List Int) (l0 : Int), Chn l0 (z.1 - 1) rs → l0 ≤ l → l ≤ z.1 - 1 → (∀ q ∈ rs, q ∈ qs ++ [z]) → 0 < X.length →
          RR (rs.foldl (fun acc q => gsw (fun _ => 0) acc ((mi par ch l f q).map (1 + ·))) X) (rs.foldl (fun acc q => gsw (fun _ => 0) acc ((mi par (ch ++ [l]) (l + 1) f q).map (1 + ·))) X) (rs.foldl (fun acc q => gsw (fun _ => 0) acc ((mi par ch (l + 1) f q).map (1 + ·))) X) := by
        intro rs
        induction rs with
        | nil =>
          intro X l0 c0 g1 g2 _ _
          have : l0 = z.1 - 1 + 1 := c0
          omega
        | cons q rs ih =>
          intro X l0 c0 g1 g2 hm hX
          obtain ⟨b1, b2, b3, b4⟩ := bd q (hm q (List.mem_cons_self ..))
          have c1 := c0.1
          rw [List.foldl_cons, List.foldl_cons, List.foldl_cons]
          by_cases w : l ≤ q.2
          · refine F1 rs _ _ _ (fun x hx => hm x (List.mem_cons_of_mem _ hx)) (fun x hx => .inl ?_) (rr_right (rr_map (mi_rel P f q b1 (by omega) w b3 b4)) hX)
            have := (chn_mem c0.2.2 hx).1
            omega
          · obtain ⟨o1, o2⟩ := mi_out (f := f) (ch := ch) P b1 b2 b3 (.inr (by omega : q.2 < l))
            rw [o1, o2]
            exact ih _ _ c0.2.2 (by omega) g2 (fun x hx => hm x (List.mem_cons_of_mem _ hx)) (by rw [gsw_len, List.length_map]; have := (mi_len (ch := ch) (ls := l) P f q b1 b2 b3 b4).1; omega)
      have H1 : holdB (a, b) (ch ++ [l]) = true := hold_in h2 h2'
      obtain ⟨b1, b2, b3, b4⟩ := bd z (by simp)
      have fp : ∀ (rs : List (Int × Int)) (X : List Int), (∀ q ∈ rs, q ∈ qs ++ [z]) → 0 < X.length → 0 < (rs.foldl (fun acc q => gsw (fun _ => 0) acc ((mi par ch l f q).map (1 + ·))) X).length := by
        intro rs
        induction rs with
        | nil => intro X _ hX; exact hX
        | cons q rs ih =>
          intro X hm hX
          obtain ⟨b1, b2, b3, b4⟩ := bd q (hm q (List.mem_cons_self ..))
          rw [List.foldl_cons]
          exact ih _ (fun x hx => hm x (List.mem_cons_of_mem _ hx)) (by rw [gsw_len, List.length_map]; have := (mi_len (ch := ch) (ls := l) P f q b1 b2 b3 b4).1; omega)
      have core : RR (gsw (wf (qs.any fun p => holdB p ch)) (qs.foldl (fun acc q => gsw (fun _ => 0) acc ((mi par ch l f q).map (1 + ·))) [0]) (mi par ch l f z))
          (gsw (wf (qs.any fun p => holdB p (ch ++ [l]))) (qs.foldl (fun acc q => gsw (fun _ => 0) acc ((mi par (ch ++ [l]) (l + 1) f q).map (1 + ·))) [0]) (mi par (ch ++ [l]) (l + 1) f z))
          (gsw (wf (qs.any fun p => holdB p ch)) (qs.foldl (fun acc q => gsw (fun _ => 0) acc ((mi par ch (l + 1) f q).map (1 + ·))) [0]) (mi par ch (l + 1) f z)) := by
        by_cases w : l ≤ z.1 - 1
        · obtain ⟨o1, o2⟩ := mi_out (f := f) (ch := ch) P b1 b2 b3 (.inl (by omega : l < z.1))
          rw [o1, o2]
          have an : (qs.any fun p => holdB p (ch ++ [l])) = true := by
            have : ∀ (rs : List (Int × Int)) (l0 : Int), Chn l0 (z.1 - 1) rs → l0 ≤ l → l ≤ z.1 - 1 → (rs.any fun p => holdB p (ch ++ [l])) = true := by
              intro rs
              induction rs with
              | nil =>
                intro l0 c0 g1 g2
                have : l0 = z.1 - 1 + 1 := c0
                omega
              | cons q rs ih =>
                intro l0 c0 g1 g2
                rw [List.any_cons]
                by_cases w : l ≤ q.2
                · rw [hold_in (by have := c0.1; omega) w]; rfl
                · rw [ih _ c0.2.2 (by omega) g2, Bool.or_true]
            exact this qs a z1 h2 w
          rw [an]
          exact rr_left (F2 qs [0] a z1 h2 w (fun q hq => List.mem_append_left _ hq) (by decide)) (mi_len P f z b1 b2 b3 b4).1 (fun i => wf_one) fun i => rfl
        · have ho : ∀ q ∈ qs, l < q.1 ∨ q.2 < l := fun q hq => by
            have := (chn_mem z1 hq).2.2.1
            exact .inr (by omega)
          obtain ⟨o1, o2⟩ := F0 qs [0] (fun q hq => List.mem_append_left _ hq) ho
          rw [o1, o2]
          have an : (qs.any fun p => holdB p (ch ++ [l])) = qs.any fun p => holdB p ch := any_same fun q hq => hold_out (ho q hq)
          rw [an]
          exact rr_right (mi_rel P f z b1 (by omega) (by omega) b3 b4) (fp qs [0] (fun q hq => List.mem_append_left _ hq) (by decide))
      simp only [mi, ne, if_false, A, B, H1, if_true]
      by_cases q : holdB (a, b) ch = true
      · rw [if_pos q, if_pos q]; exact core
      · rw [if_neg q, if_neg q]; exact rr_set core
end Ma
set_option Elab.async false
set_option linter.all false
set_option maxRecDepth 100000
namespace Ma
open VF Pr PySem Sy Sg
section
variable {C : Cfg} {cs : Calls}
/-- the last one that a loop came by -/
def lastq (q : Option PyData) (p : List Int) : Option PyData := match p.getLast? with
  | none => q
  | some d => some (.int d)
@[simp] theorem lastq_nil (q : Option PyData) : lastq q [] = q := rfl
@[simp] theorem lastq_snoc (q : Option PyData) (p : List Int) (d : Int) : lastq q (p ++ [d]) = some (.int d) := by simp [lastq]
def lastf (q : Option PyData) (f : Int → PyData) (p : List Int) : Option PyData := match p.getLast? with
  | none => q
  | some d => some (f d)
@[simp] theorem lastf_nil (q : Option PyData) (f : Int → PyData) : lastf q f [] = q := rfl
@[simp] theorem lastf_snoc (q : Option PyData) (f : Int → PyData) (p : List Int) (d : Int) : lastf q f (p ++ [d]) = some (f d) := by simp [lastf]
/-- a loop over whole numbers, by its state behind those done -/
theorem forX_st {i : Nat} {b : Ss} {ds : List Int} (St : List Int → VF.Env) (hi : ∀ p, i < (St p).length) (h : ∀ p d s, ds = p ++ d :: s → exs C cs b (setV (St p) i (.int d)) = .ok .nx (St (p ++ [d]))) : forX C cs (.n i) b (il ds) (St []) = .ok .nx (St ds) := by
  have key : ∀ (s p : List Int), ds = p ++ s → forX C cs (.n i) b (il s) (St p) = .ok .nx (St ds) := by
    intro s
    induction s with
    | nil =>
      intro p e
      rw [List.append_nil] at e
      rw [e]
      rfl
    | cons d s ih =>
      intro p e
      have h1 := h p d s e
      have h2 := ih (p ++ [d]) (by simp [e])
      rw [← h2]
      have ht : tgSet (.n i) (.int d) (St p) = some (setV (St p) i (.int d)) := by
        simp [tgSet]
      show (match tgSet (.n i) (.int d) (St p) with | none => Out.bad | some e1 => _) = _
      rw [ht]
      show (exs C cs b (setV (St p) i (.int d))).bind _ = _
      rw [h1]
      rfl
  exact key ds [] rfl
theorem pickX {i : Nat} {it : It} {c : E} {p : Int → Bool} {l : List Int} {env : VF.Env} (hit : evIt C cs it env = .ok (il l) env) (hi : i < env.length) (hl : l.length ≤ 1000000)
    (h : ∀ y ∈ l, evC C cs (.y c) (setV env i (.int y)) = .ok (p y) (setV env i (.int y))) : ev C cs (.comp (.n i) [i] it (.y c) (.v i)) env = .ok (.list (il (l.filter p))) env := by
  rw [comp_ii (ks := l) (p := p) (f := id) hit hi hl (fun y hy => ⟨h y hy, fun _ => by simp [getV, setV, hi, lift]⟩)]
  simp
theorem at_last {l : List Int} (h : l ≠ []) : L2.atI (il l) (-1) = some (.int (l.getLastD 0)) := by
  have hl : 0 < l.length := List.length_pos_iff.mpr h
  have e1 : (il l).length = l.length := by simp [il]
  unfold L2.atI
  have : L2.ixN (il l).length (-1) = some (l.length - 1) := by
    unfold L2.ixN
    rw [if_neg (by omega), if_pos (by omega), e1]
    congr 1
    omega
  rw [this]
  show (il l)[l.length - 1]? = _
  unfold il
  rw [List.getElem?_map, ← List.getLast?_eq_getElem?]
  cases e : l.getLast? with
  | none => exact absurd (List.getLast?_eq_none_iff.mp e) h
  | some m => simp [List.getLastD_eq_getLast?, e]
theorem at_head {l : List Int} (h : l ≠ []) : L2.atI (il l) 0 = some (.int (l.headD 0)) := by
  cases l with
  | nil => exact absurd rfl h
  | cons a r => simp [il, L2.atI, L2.ixN]
theorem cut_last (l : List Int) : cutD (il l) (some (-1)) none = il l.getLast?.toList := by
  have e1 : (il l).length = l.length := by simp [il]
  unfold cutD
  rw [HT.sIx_none, e1]
  have e2 : HT.sIx l.length 0 (some (-1)) = l.length - 1 := by
    unfold HT.sIx
    show (if (-1 : Int) < 0 then _ else _) = _
    rw [if_pos (by omega)]
    omega
  rw [e2]
  rcases List.eq_nil_or_concat l with rfl | ⟨r, m, rfl⟩
  · rfl
  · simp [il]
theorem eqv_shp {d : PyData} (h : VF.shp d = true) : PyData.eqv d d = true := by
  unfold VF.shp SeqAt.shaped at h
  rw [Bool.and_eq_true] at h
  exact SeqAt.eqv_refl _ h.1
theorem ne_same {d : PyData} (h : VF.shp d = true) : cmpD .ne d d = some false := by rw [ne_sh h h, eqv_shp h]; rfl
theorem eq_same {d : PyData} (h : VF.shp d = true) : cmpD .eq d d = some true := by rw [eq_sh h h, eqv_shp h]
end
end Ma
set_option Elab.async false
set_option linter.all false
set_option maxRecDepth 100000
namespace Ma
open VF Pr PySem Sy Sg
def InB1 : Ss := (Ss.cons (S.ifs (E.bop true (E.cmp (COp.lt) (E.idx (E.v 0) (E.v 4)) (E.v 2)) (E.bop true (E.v 3) (E.cmp (COp.lt) (E.idx (E.v 0) (E.idx (E.idx (E.v 3) (E.neg (E.int 1))) (E.int 1))) (E.v 2)))) (Ss.cons (S.seti 3 (E.neg (E.int 1)) (E.tup (Es.cons (E.idx (E.idx (E.v 3) (E.neg (E.int 1))) (E.int 0)) (Es.cons (E.v 4) (Es.nil))))) (Ss.nil)) (Ss.cons (S.app 3 (E.tup (Es.cons (E.v 4) (Es.cons (E.v 4) (Es.nil))))) (Ss.nil))) (Ss.nil))

/-! ### the inner stretches -/
def keysI (a b : Int) : List Int := (List.range (b + 1 - a).toNat).map fun i => a + (i : Nat)
theorem mem_keysI {a b k : Int} : k ∈ keysI a b ↔ a ≤ k ∧ k ≤ b := by
  unfold keysI
  rw [List.mem_map]
  constructor
  · rintro ⟨i, hi, rfl⟩
    rw [List.mem_range] at hi
    omega
  · rintro ⟨h1, h2⟩
    exact ⟨(k - a).toNat, List.mem_range.mpr (by omega), by omega⟩
theorem rng_keysI (a b : Int) : rngD a (b + 1) = il (keysI a b) := by
  unfold rngD keysI il
  rw [List.map_map]
  rfl
/-- all ahead of a place -/
theorem keysI_pre {a b k : Int} {p s : List Int} (e : keysI a b = p ++ k :: s) : k = a + p.length ∧ p = keysI a (k - 1) := by
  have h1 : (keysI a b)[p.length]? = some k := by rw [e]; simp
  have h2 : p = (keysI a b).take p.length := by rw [e]; simp
  unfold keysI at h1
  rw [List.getElem?_map] at h1
  have hl : p.length < (b + 1 - a).toNat := by
    have : (keysI a b).length = (b + 1 - a).toNat := by simp [keysI]
    rw [← this, e]
    simp
  rw [List.getElem?_range hl] at h1
  have h3 : k = a + p.length := (Option.some.inj h1).symm
  refine ⟨h3, ?_⟩
  have h4 : (keysI a b).take p.length = keysI a (k - 1) := by
    unfold keysI
    rw [← List.map_take, List.take_range]
    congr 2
    omega
  rw [← h4]
  exact h2
def lvO (ls : List Int) (k : Int) : Int := ls.getD k.toNat 0
def stp (lv : Int → Int) (g : Int) (fd : List (Int × Int)) (key : Int) : List (Int × Int) :=
  if lv key < g ∧ fd ≠ [] ∧ lv (fd.getLastD (0, 0)).2 < g then fd.dropLast ++ [((fd.getLastD (0, 0)).1, key)] else fd ++ [(key, key)]
def mxI (lv : Int → Int) (a b : Int) : Int := (maxI ((keysI a b).map lv)).getD 0
def parL (lv : Int → Int) (s : Int × Int) : List (Int × Int) := if s.1 = s.2 then [] else (keysI s.1 s.2).foldl (stp lv (mxI lv s.1 s.2)) []
theorem foldmax_mem : ∀ (r : List Int) (i : Int), r.foldl (fun m j => if j > m then j else m) i ∈ i :: r
  | [], i => List.mem_cons_self ..
  | x :: r, i => by
    rw [List.foldl_cons]
    rcases List.mem_cons.mp (foldmax_mem r (if x > i then x else i)) with e | m
    · rw [e]
      by_cases q : x > i
      · rw [if_pos q]; simp
      · rw [if_neg q]; simp
    · exact List.mem_cons_of_mem _ (List.mem_cons_of_mem _ m)
theorem maxI_mem {l : List Int} {m : Int} (h : maxI l = some m) : m ∈ l := by
  cases l with
  | nil => cases h
  | cons i r =>
    cases h
    exact foldmax_mem r i
theorem maxI_some {l : List Int} (h : l ≠ []) : ∃ m, maxI l = some m := by
  cases l with
  | nil => exact absurd rfl h
  | cons i r => exact ⟨_, rfl⟩
theorem mxI_at {lv : Int → Int} {a b : Int} (h : a ≤ b) : maxI ((keysI a b).map lv) = some (mxI lv a b) ∧ ∃ k, a ≤ k ∧ k ≤ b ∧ lv k = mxI lv a b := by
  have ne : (keysI a b).map lv ≠ [] := by
    intro e
    have : a ∈ keysI a b := mem_keysI.mpr ⟨Int.le_refl _, h⟩
    rw [List.map_eq_nil_iff] at e
    rw [e] at this
    cases this
  obtain ⟨m, hm⟩ := maxI_some ne
  have e : mxI lv a b = m := by unfold mxI; rw [hm]; rfl
  rw [e]
  refine ⟨hm, ?_⟩
  obtain ⟨k, hk, e2⟩ := List.mem_map.mp (maxI_mem hm)
  exact ⟨k, (mem_keysI.mp hk).1, (mem_keysI.mp hk).2, e2⟩
theorem chn_add : ∀ {ps : List (Int × Int)} {lo hi : Int} {z : Int × Int}, Chn lo (z.1 - 1) ps → z.1 ≤ z.2 → z.2 = hi → Chn lo hi (ps ++ [z])
  | [], lo, hi, z, h, h1, h2 => by
    have : lo = z.1 - 1 + 1 := h
    exact ⟨by omega, h1, show z.2 + 1 = hi + 1 by omega⟩
  | p :: r, lo, hi, z, h, h1, h2 => ⟨h.1, h.2.1, chn_add h.2.2 h1 h2⟩
/-- what the steps keep -/
structure Stp (lv : Int → Int) (g a k : Int) (fd : List (Int × Int)) : Prop where
  ch : Chn a k fd
  lt : ∀ p ∈ fd, p.1 < p.2 → ∀ x, p.1 ≤ x → x ≤ p.2 → lv x < g
theorem stp_next {lv : Int → Int} {g a k : Int} {fd : List (Int × Int)} (h : Stp lv g a k fd) : Stp lv g a (k + 1) (stp lv g fd (k + 1)) := by
  unfold stp
  split
  · rename_i c
    obtain ⟨c1, c2, c3⟩ := c
    obtain ⟨r, z, rfl⟩ : ∃ r z, fd = r ++ [z] := ⟨fd.dropLast, fd.getLast c2, (List.dropLast_concat_getLast c2).symm⟩
    rw [List.getLastD_concat] at c3 ⊢
    rw [List.dropLast_concat]
    obtain ⟨z1, z2, z3⟩ := chn_snoc h.ch
    refine ⟨chn_add z1 (by show z.1 ≤ k + 1; omega) rfl, fun p hp => ?_⟩
    rcases List.mem_append.mp hp with m | m
    · exact h.lt p (List.mem_append_left _ m)
    · rw [List.mem_singleton] at m
      subst m
      intro _ x x1 x2
      simp only at x1 x2
      by_cases q : x = k + 1
      · rw [q]; exact c1
      · by_cases w : z.1 = z.2
        · have : x = z.2 := by omega
          rw [this]; exact c3
        · exact h.lt z (by simp) (by omega) x x1 (by omega)
  · refine ⟨chn_add (z := (k + 1, k + 1)) (by show Chn a (k + 1 - 1) fd; rw [Int.add_sub_cancel]; exact h.ch) (Int.le_refl _) rfl, fun p hp => ?_⟩
    rcases List.mem_append.mp hp with m | m
    · exact h.lt p m
    · rw [List.mem_singleton] at m
      subst m
      intro x
      simp only at x
      omega
theorem stp_all {lv : Int → Int} {g a : Int} : ∀ (n : Nat) , Stp lv g a (a + n - 1) ((keysI a (a + n - 1)).foldl (stp lv g) [])
  | 0 => by
    have : keysI a (a + (0 : Nat) - 1) = [] := by unfold keysI; rw [show (a + ((0 : Nat) : Int) - 1 + 1 - a).toNat = 0 by omega]; rfl
    rw [this]
    exact ⟨show a = a + ((0 : Nat) : Int) - 1 + 1 by omega, fun p hp => by cases hp⟩
  | n + 1 => by
    have e : keysI a (a + (n + 1 : Nat) - 1) = keysI a (a + n - 1) ++ [a + n - 1 + 1] := by
      unfold keysI
      rw [show (a + ((n + 1 : Nat) : Int) - 1 + 1 - a).toNat = n + 1 by omega, show (a + (n : Int) - 1 + 1 - a).toNat = n by omega, List.range_succ, List.map_append]
      congr 1
      show [a + (n : Int)] = [a + (n : Int) - 1 + 1]
      rw [Int.sub_add_cancel]
    rw [e, List.foldl_append]
    have := stp_next (stp_all (lv := lv) (g := g) (a := a) n)
    rw [show a + ((n + 1 : Nat) : Int) - 1 = a + n - 1 + 1 by omega]
    exact this
theorem par_L (lv : Int → Int) (lo hi : Int) : Par (parL lv) lo hi where
  one := fun a _ _ => by simp [parL]
  more := fun a b h1 h2 h3 => by
    have e : parL lv (a, b) = (keysI a b).foldl (stp lv (mxI lv a b)) [] := by
      unfold parL
      rw [if_neg (by show ¬ a = b; omega)]
    have S := stp_all (lv := lv) (g := mxI lv a b) (a := a) (b + 1 - a).toNat
    rw [show a + ((b + 1 - a).toNat : Int) - 1 = b by omega] at S
    rw [e]
    generalize (keysI a b).foldl (stp lv (mxI lv a b)) [] = fd at S
    obtain ⟨k, k1, k2, k3⟩ := (mxI_at (lv := lv) (show a ≤ b by omega)).2
    have ne : fd ≠ [] := by
      rintro rfl
      have : a = b + 1 := S.ch
      omega
    refine ⟨fd.dropLast, fd.getLast ne, (List.dropLast_concat_getLast ne).symm, fun e0 => ?_, by rw [List.dropLast_concat_getLast ne]; exact S.ch⟩
    have e1 : fd = [fd.getLast ne] := by
      have := (List.dropLast_concat_getLast ne).symm
      rw [e0] at this
      exact this
    generalize fd.getLast ne = z at e1
    subst e1
    obtain ⟨c1, c2, c3⟩ := S.ch
    have c3 : z.2 + 1 = b + 1 := c3
    have := S.lt z (List.mem_singleton_self _) (by omega) k (by omega) (by omega)
    omega
/-! ### its run -/
def pl (ps : List (Int × Int)) : List PyData := ps.map prD
theorem pl_len {ps : List (Int × Int)} : (pl ps).length = ps.length := by simp [pl]
theorem ix_last {n : Nat} (h : 0 < n) : L2.ixN n (-1) = some (n - 1) := by
  unfold L2.ixN
  rw [if_neg (by omega), if_pos (by omega)]
  congr 1
  omega
theorem pl_last {fd : List (Int × Int)} (h : fd ≠ []) : L2.atI (pl fd) (-1) = some (prD (fd.getLastD (0, 0))) := by
  have hl : 0 < fd.length := List.length_pos_iff.mpr h
  unfold L2.atI
  rw [pl_len, ix_last hl]
  show (pl fd)[fd.length - 1]? = _
  unfold pl
  rw [List.getElem?_map, ← List.getLast?_eq_getElem?]
  cases e : fd.getLast? with
  | none => exact absurd (List.getLast?_eq_none_iff.mp e) h
  | some m => simp [List.getLastD_eq_getLast?, e]
theorem set_last {α : Type} {l : List α} {x : α} (h : l ≠ []) : l.set (l.length - 1) x = l.dropLast ++ [x] := by
  obtain ⟨r, z, rfl⟩ : ∃ r z, l = r ++ [z] := ⟨l.dropLast, l.getLast h, (List.dropLast_concat_getLast h).symm⟩
  rw [List.dropLast_concat, List.length_append, List.length_singleton, Nat.add_sub_cancel, List.set_append_right _ _ (Nat.le_refl _), Nat.sub_self]
  rfl
theorem at_lv {ls : List Int} {k : Int} (h0 : 0 ≤ k) (h1 : k < ls.length) : L2.atI (il ls) k = some (.int (lvO ls k)) := by
  obtain ⟨i, rfl⟩ : ∃ i : Nat, k = i := ⟨k.toNat, by omega⟩
  rw [Sy.at_il (by omega : i < ls.length)]
  unfold lvO
  rw [List.getD_eq_getElem?_getD, Int.toNat_natCast, List.getElem?_eq_getElem (by omega)]
  rfl
theorem stp_in {lv : Int → Int} {g : Int} {l : List Int} : ∀ (p : List Int) (fd : List (Int × Int)), (∀ q ∈ fd, q.2 ∈ l) → (∀ k ∈ p, k ∈ l) → ∀ q ∈ p.foldl (stp lv g) fd, q.2 ∈ l
  | [], fd, h, _, q, hq => h q hq
  | k :: p, fd, h, hp, q, hq => by
    rw [List.foldl_cons] at hq
    refine stp_in p (stp lv g fd k) (fun x hx => ?_) (fun x hx => hp x (List.mem_cons_of_mem _ hx)) q hq
    have hk := hp k (List.mem_cons_self ..)
    unfold stp at hx
    split at hx
    · rcases List.mem_append.mp hx with m | m
      · exact h x (List.dropLast_subset _ m)
      · rw [List.mem_singleton] at m
        subst m
        exact hk
    · rcases List.mem_append.mp hx with m | m
      · exact h x m
      · rw [List.mem_singleton] at m
        subst m
        exact hk
theorem stp_len {lv : Int → Int} {g : Int} : ∀ (p : List Int) (fd : List (Int × Int)), (p.foldl (stp lv g) fd).length ≤ fd.length + p.length
  | [], fd => by simp
  | k :: p, fd => by
    rw [List.foldl_cons]
    have h1 := stp_len (lv := lv) (g := g) p (stp lv g fd k)
    have h2 : (stp lv g fd k).length ≤ fd.length + 1 := by
      unfold stp
      split
      · rw [List.length_append, List.length_dropLast, List.length_singleton]; omega
      · rw [List.length_append, List.length_singleton]; omega
    simp only [List.length_cons]
    omega
theorem in_loop {C : Cfg} {cs : Calls} {ls : List Int} {a b g : Int} {S : Option PyData} (h0 : 0 ≤ a) (h1 : b < ls.length) (hl : ls.length ≤ 24) :
    forX C cs (.n 4) InB1 (il (keysI a b)) [some (.tuple (il ls)), S, some (.int g), some (.list []), none, some (.int a), some (.int b)]
      = .ok .nx [some (.tuple (il ls)), S, some (.int g), some (.list (pl ((keysI a b).foldl (stp (lvO ls) g) []))), lastq none (keysI a b), some (.int a), some (.int b)] := by
  refine forX_st (fun p => [some (.tuple (il ls)), S, some (.int g), some (.list (pl (p.foldl (stp (lvO ls) g) []))), lastq none p, some (.int a), some (.int b)]) (fun p => by simp) fun p d s e => ?_
  obtain ⟨e1, e2⟩ := keysI_pre e
  have hd : a ≤ d ∧ d ≤ b := mem_keysI.mp (by rw [e]; simp)
  have hi := stp_in (lv := lvO ls) (g := g) (l := keysI a b) p [] (fun q hq => by cases hq) (fun k hk => by rw [e]; exact List.mem_append_left _ hk)
  have hn := stp_len (lv := lvO ls) (g := g) p []
  have hp : p.length ≤ 24 := by omega
  rw [List.foldl_append, List.foldl_cons, List.foldl_nil, lastq_snoc]
  generalize p.foldl (stp (lvO ls) g) [] = fd at hi hn
  have hlen : fd.length ≤ 24 := by simp at hn; omega
  have a1 := at_lv (ls := ls) (k := d) (by omega) (by omega)
  by_cases c1 : lvO ls d < g
  · by_cases c2 : fd = []
    · subst c2
      simp [InB1, a1, c1, pl, stp, lim, prD]
    · have c2' : ¬ (pl fd).isEmpty = true := by
        cases fd with
        | nil => exact absurd rfl c2
        | cons x y => simp [pl]
      have a2 := pl_last c2
      have hz : fd.getLastD (0, 0) ∈ fd := by
        rw [List.getLastD_eq_getLast?, List.getLast?_eq_some_getLast c2]
        exact List.getLast_mem c2
      have hm := mem_keysI.mp (hi _ hz)
      have a3 := at_lv (ls := ls) (k := (fd.getLastD (0, 0)).2) (by omega) (by omega)
      have a4 := ix_last (n := fd.length) (List.length_pos_iff.mpr c2)
      have a5 : (pl fd).set (fd.length - 1) (prD ((fd.getLastD (0, 0)).1, d)) = pl (fd.dropLast ++ [((fd.getLastD (0, 0)).1, d)]) := by
        have := set_last (l := pl fd) (x := prD ((fd.getLastD (0, 0)).1, d)) (by rw [← List.length_pos_iff, pl_len]; exact List.length_pos_iff.mpr c2)
        rw [pl_len] at this
        rw [this]
        simp [pl, List.map_dropLast]
      by_cases c3 : lvO ls (fd.getLastD (0, 0)).2 < g
      · rw [show stp (lvO ls) g fd d = fd.dropLast ++ [((fd.getLastD (0, 0)).1, d)] by unfold stp; rw [if_pos ⟨c1, c2, c3⟩]]
        generalize fd.getLastD (0, 0) = z at a2 a3 c3 a5 hm
        obtain ⟨z1, z2⟩ := z
        simp only [prD] at a2 a5
        simp [InB1, a1, c1, c2', a2, a3, c3, a4, pl_len, lim, a5]
      · rw [show stp (lvO ls) g fd d = fd ++ [(d, d)] by unfold stp; rw [if_neg fun z => c3 z.2.2]]
        generalize fd.getLastD (0, 0) = z at a2 a3 c3 a5 hm
        obtain ⟨z1, z2⟩ := z
        simp only [prD] at a2
        simp [InB1, a1, c1, c2', a2, a3, c3, pl_len, lim, show fd.length < 1000000 by omega]
        simp [pl, prD]
  · rw [show stp (lvO ls) g fd d = fd ++ [(d, d)] by unfold stp; rw [if_neg fun z => c1 z.1]]
    simp [InB1, a1, c1, pl_len, lim, show fd.length < 1000000 by omega]
    simp [pl, prD]
theorem cut_keys {ls : List Int} {a b : Int} (h0 : 0 ≤ a) (h1 : a ≤ b) (h2 : b < ls.length) : cutD (il ls) (some a) (some (b + 1)) = il ((keysI a b).map (lvO ls)) := by
  obtain ⟨i, rfl⟩ : ∃ i : Nat, a = i := ⟨a.toNat, by omega⟩
  obtain ⟨j, rfl⟩ : ∃ j : Nat, b = j := ⟨b.toNat, by omega⟩
  have e1 : (il ls).length = ls.length := by simp [il]
  unfold cutD
  rw [show ((j : Int) + 1) = ((j + 1 : Nat) : Int) by omega, HT.sIx_nat, HT.sIx_nat, e1, Nat.min_eq_left (by omega), Nat.min_eq_left (by omega)]
  unfold il
  rw [← List.map_drop, ← List.map_take]
  congr 1
  refine List.ext_getElem? fun k => ?_
  unfold keysI
  rw [List.map_map, List.getElem?_map]
  by_cases q : k < j + 1 - i
  · rw [List.getElem?_take_of_lt q, List.getElem?_drop, List.getElem?_range (by omega), List.getElem?_eq_getElem (by omega)]
    simp only [Option.map_some, Function.comp]
    unfold lvO
    rw [List.getD_eq_getElem?_getD, show ((i : Int) + (k : Int)).toNat = i + k by omega, List.getElem?_eq_getElem (by omega)]
    rfl
  · rw [List.getElem?_eq_none (by rw [List.length_take]; omega), List.getElem?_eq_none (by rw [List.length_range]; omega)]
    rfl
theorem ints_il (l : List Int) : intsOf (il l) = some l := by
  induction l with
  | nil => rfl
  | cons x r ih =>
    show (intsOf (il r)).map (x :: ·) = _
    rw [ih]
    rfl
section
variable {ns : List Int}
theorem inner_ok {ls : List Int} {a b : Int} {k : Nat} (h0 : 0 ≤ a) (h1 : a ≤ b) (h2 : b < ls.length) (hl : ls.length ≤ 24) : calls (cfg ns) tab (k + 1) "inner_of" [.tuple (il ls), prD (a, b)] = .ok (.list (pl (parL (lvO ls) (a, b)))) [] := by
  refine call_ret tb_inner_of rfl rfl ?_
  by_cases e : a = b
  · subst e
    simp [b_inner_of, muE, muEs, prD, tgSet, lim, parL, pl]
    exact Ru.ok rfl
  · have m1 := (mxI_at (lv := lvO ls) h1).1
    have m2 : biD .maxl (.tuple (il ((keysI a b).map (lvO ls)))) = some (.int (mxI (lvO ls) a b)) := by
      show (match intsOf (il ((keysI a b).map (lvO ls))) with | some ns => (maxI ns).map PyData.int | none => _) = _
      rw [ints_il]
      show (maxI _).map PyData.int = _
      rw [m1]
      rfl
    have r1 : rngOk a (b + 1) = true := by unfold rngOk; exact decide_eq_true (by omega)
    have loop := in_loop (C := cfg ns) (cs := calls (cfg ns) tab k) (ls := ls) (a := a) (b := b) (g := mxI (lvO ls) a b) (S := some (prD (a, b))) h0 h2 hl
    rw [show parL (lvO ls) (a, b) = (keysI a b).foldl (stp (lvO ls) (mxI (lvO ls) a b)) [] by unfold parL; rw [if_neg (by exact e)]]
    simp only [prD] at loop ⊢
    simp [b_inner_of, muE, muEs, tgSet, lim, e, optI, slD, cut_keys h0 h1 h2, m2, r1, rng_keysI]
    simp [InB1] at loop
    rw [loop]
    simp
    exact Ru.ok rfl
end
end Ma
set_option Elab.async false
set_option linter.all false
set_option maxRecDepth 100000
namespace Ma
open VF Pr PySem Sy Sg
theorem all_true {α : Type} {l : List α} : l.filter (fun _ => true) = l := List.filter_eq_self.mpr fun _ _ => rfl
theorem take_snoc {α : Type} {l : List α} {i : Nat} {v : α} (h : l[i]? = some v) : l.take (i + 1) = l.take i ++ [v] := by
  rw [List.take_add_one, h]
  rfl
theorem flat_snoc {α β : Type} {l : List α} {x : α} {f : α → List β} : (l ++ [x]).flatMap f = l.flatMap f ++ f x := by simp
end Ma
set_option Elab.async false
set_option linter.all false
set_option maxRecDepth 100000
namespace Ma
open VF Pr PySem Sy Sg
/-! ### any values judged -/
def lvD : PyData → Bool
  | .int i => decide (0 ≤ i) && decide (i ≤ 4)
  | _ => false
def isLv : PyData → Bool
  | .tuple ds => decide (ds.length ≤ 24) && ds.all lvD
  | _ => false
def keyB (n : Int) : PyData → Bool
  | .int i => decide (0 ≤ i) && decide (i < n)
  | _ => false
def lotF (n : Int) : Int → List PyData → Bool
  | _, [] => true
  | l, .int i :: r => (decide (0 ≤ i) && decide (i < n)) && (decide (l ≤ i) && lotF n (i + 1) r)
  | _, _ :: _ => false
def isLot (n : Int) : PyData → Bool
  | .tuple ds => lotF n 0 ds
  | _ => false
def worB : PyData → Bool
  | .int i => decide (-999999999 ≤ i) && decide (i ≤ 999999999)
  | _ => false
def entB : PyData → Bool
  | .tuple [_, w] => worB w
  | _ => false
def fstD : PyData → PyData
  | .tuple (x :: _) => x
  | _ => .none
def isSt (n : Int) : PyData → Bool
  | .tuple ds => ds.all entB && lotF n 0 (ds.map fstD)
  | _ => false
def cntB : PyData → Bool
  | .int i => decide (1 ≤ i)
  | _ => false
theorem bools_f {f : PyData → Bool} : ∀ ds : List PyData, boolsOf (ds.map fun d => .bool (f d)) = some (ds.map f)
  | [] => rfl
  | d :: ds => by simp [boolsOf, bools_f ds]
theorem all_map {f : PyData → Bool} (ds : List PyData) : (ds.map f).all id = ds.all f := by simp [List.all_map, Function.comp_def]
section
variable {ns : List Int} {k : Nat}
theorem hl_all {d : PyData} : calls (cfg ns) tab (k + 1) "holds_levels" [d] = .ok (.bool (isLv d)) [] := by
  refine call_ret tb_holds_levels rfl rfl ?_
  cases d with
  | tuple ds =>
    by_cases hl : (24 : Int) < ds.length
    · have e : isLv (.tuple ds) = false := by
        unfold isLv
        simp [show ¬ ds.length ≤ 24 by omega]
      simp [b_holds_levels, tyD, (show (cfg ns).glob "MOST_KEYS" = some (.int 24) from rfl), hl, e]
      exact Ru.ok rfl
    · have c1 := comp_ds (C := cfg ns) (cs := calls (cfg ns) tab k) (i := 1) (it := It.seq (E.v 0)) (c := Eo.no) (g := E.bop true (E.bi (Bi.tyIs "int") (E.v 1)) (E.chain (COp.le) (COp.le) (E.int 0) (E.v 1) (E.glob "GREATEST_LEVEL"))) (ds := ds) (p := fun _ => true) (f := fun d => .bool (lvD d))
        (env := [some (.tuple ds), none]) (by simp [items]) (by simp) (by omega) (fun d hd => ⟨rfl, fun _ => by
          cases d with
          | int i =>
            by_cases q : 0 ≤ i
            · simp [tyD, q, lvD, (show (cfg ns).glob "GREATEST_LEVEL" = some (.int 4) from rfl)]
            · simp [tyD, q, lvD]
          | _ => simp [tyD, lvD]⟩)
      rw [all_true] at c1
      simp [b_holds_levels, tyD, (show (cfg ns).glob "MOST_KEYS" = some (.int 24) from rfl), hl, c1, bools_f]
      exact Ru.ok (by simp [isLv, show ds.length ≤ 24 by omega, List.all_map, Function.comp_def])
  | _ =>
    simp [b_holds_levels, tyD]
    exact Ru.ok rfl
theorem cl_all {d : PyData} : calls (cfg ns) tab (k + 2) "check_levels" [d] = if isLv d then .ok .none [] else .exc ⟨"InvalidLevels", none⟩ [] := by
  have h := hl_all (ns := ns) (k := k) (d := d)
  rw [Sy.call_ok tb_check_levels]
  cases q : isLv d <;> rw [q] at h <;> simp [run1, b_check_levels, h]
end
end Ma
set_option Elab.async false
set_option linter.all false
set_option maxRecDepth 100000
namespace Ma
open VF Pr PySem Sy Sg
/-! ### drawn numbers -/
def srcD (a b c : Int) : PyData := .list [.int a, .int b, .int c]
structure Sr (n : Nat) (a b c : Int) : Prop where
  a0 : 0 ≤ a
  a1 : a.natAbs.log2 < 2000000
  b0 : 0 ≤ b
  b1 : b < 2 ^ 62
  c0 : 0 ≤ c
  c1 : c ≤ n
theorem Sr.mono {n n' : Nat} {a b c : Int} (h : Sr n a b c) (hn : n ≤ n') : Sr n' a b c := ⟨h.a0, h.a1, h.b0, h.b1, h.c0, by have := h.c1; omega⟩
theorem log_le {x y : Nat} (h : x ≤ y) : x.log2 ≤ y.log2 := by
  by_cases z : x = 0
  · rw [z]
    simp
  · exact (Nat.le_log2 (by omega)).mpr (Nat.le_trans (Nat.log2_self_le z) h)
theorem lg4 {x : Int} (h : x.natAbs < 2 ^ 400) : x.natAbs.log2 < 400 := by
  by_cases z : x.natAbs = 0
  · rw [z]
    decide
  · exact (Nat.log2_lt z).mpr h
section
variable {ns : List Int} {k : Nat}
theorem source_ok (x : Int) (hx : x.natAbs.log2 < 1900000) (k : Nat) : ∃ a b, calls (cfg ns) tab (k + 1) "_law_source" [.int x] = .ok (srcD a b 0) [] ∧ Sr 0 a b 0 := by
  have hp : (10 : Int) ^ (18 : Nat) = 1000000000000000000 := by decide
  have m1 := Int.emod_nonneg x (show (2305843009213693951 : Int) ≠ 0 by decide)
  have m2 := Int.emod_lt_of_pos x (show (0 : Int) < 2305843009213693951 by decide)
  by_cases q : 1000000000000000000 ≤ x
  · refine ⟨x - 1000000000000000000, x % 2305843009213693951, call_ret tb__law_source rfl rfl ?_, ⟨by omega, ?_, by omega, by omega, by omega, by omega⟩⟩
    · simp [b__law_source, binD, lim, hp, q, biD]
      exact Ru.ok rfl
    · have := log_le (x := (x - 1000000000000000000).natAbs) (y := x.natAbs) (by omega)
      omega
  · refine ⟨0, x % 2305843009213693951, call_ret tb__law_source rfl rfl ?_, ⟨by omega, by decide, by omega, by omega, by omega, by omega⟩⟩
    simp [b__law_source, binD, lim, hp, q, biD]
    exact Ru.ok rfl
theorem ix30 : L2.ixN 3 0 = some 0 := by decide
theorem ix31 : L2.ixN 3 1 = some 1 := by decide
theorem ix32 : L2.ixN 3 2 = some 2 := by decide
theorem mul_s {i j : Int} (h : i.natAbs < 2 ^ 400) (h2 : j.natAbs < 2 ^ 400) : binD .mul (.int i) (.int j) = some (.int (i * j)) := by
  have a := lg4 h
  have b := lg4 h2
  rw [mul_i, if_pos (by omega)]
theorem draw_ok {a b c m : Int} {n : Nat} (hs : Sr n a b c) (hn : n < 100000) (hm : 0 < m) (hb : m.natAbs.log2 < 9000) : ∃ a' c' v, calls (cfg ns) tab (k + 1) "_law_draw" [srcD a b c, .int m] = .ok (.int v) [srcD a' b c'] ∧ Sr (n + 1) a' b c' ∧ 0 ≤ v ∧ v < m := by
  obtain ⟨a0, a1, b0, b1, c0, c1⟩ := hs
  rw [Sy.call_ok tb__law_draw]
  by_cases h : 0 < a ∧ 1 < m
  · obtain ⟨h1, h2⟩ := h
    have q0 : 0 ≤ a / m := Int.ediv_nonneg a0 (by omega)
    have q1 : a / m ≤ a := Int.ediv_le_self _ a0
    have ll := log_le (x := (a / m).natAbs) (y := a.natAbs) (by omega)
    have mm : binD .mul (.int (a / m)) (.int m) = some (.int (a / m * m)) := by
      rw [mul_i]
      split
      · rfl
      · rw [if_pos (by omega)]
    have ev : a - a / m * m = a % m := by
      have := Int.emod_add_ediv_mul a m
      omega
    refine ⟨a / m, c, a % m, ?_, ⟨q0, by omega, b0, b1, c0, by omega⟩, Int.emod_nonneg a (by omega), Int.emod_lt_of_pos a hm⟩
    simp [run1, b__law_draw, srcD, h1, h2, hm, hb, mm, ev, ix30, wipeE]
  · have ht : (c + 1).natAbs < 2 ^ 62 := by omega
    have hP : (0 : Int) < 2305843009213693951 := by decide
    have hQ : (0 : Int) < 1152921504606846883 := by decide
    have k0 : binD .mul (.int 2) (.int (c + 1)) = some (.int (2 * (c + 1))) := mul_s (by decide) (by omega)
    have k1 : binD .mul (.int b) (.int (2 * (c + 1) + 31)) = some (.int (b * (2 * (c + 1) + 31))) := mul_s (by omega) (by omega)
    have k2 : binD .mul (.int 7919) (.int (c + 1)) = some (.int (7919 * (c + 1))) := mul_s (by decide) (by omega)
    have k3 : binD .mul (.int (7919 * (c + 1))) (.int (c + 1)) = some (.int (7919 * (c + 1) * (c + 1))) := mul_s (by omega) (by omega)
    generalize e1 : (b * (2 * (c + 1) + 31) + 7919 * (c + 1) * (c + 1) + 17) % 2305843009213693951 = u
    have u0 : 0 ≤ u := by rw [← e1]; exact Int.emod_nonneg _ (by decide)
    have u1 : u < 2305843009213693951 := by rw [← e1]; exact Int.emod_lt_of_pos _ hP
    have k4 : binD .mul (.int u) (.int u) = some (.int (u * u)) := mul_s (by omega) (by omega)
    have k5 : binD .mul (.int 104729) (.int u) = some (.int (104729 * u)) := mul_s (by decide) (by omega)
    generalize e2 : (u * u + 104729 * u + (c + 1)) % 2305843009213693951 / 1021 = w
    have w0 : 0 ≤ w := by rw [← e2]; exact Int.ediv_nonneg (Int.emod_nonneg _ (by decide)) (by decide)
    have w1 : w < 2305843009213693951 := by
      rw [← e2]
      have z0 := Int.emod_nonneg (u * u + 104729 * u + (c + 1)) (show (2305843009213693951 : Int) ≠ 0 by decide)
      have z1 := Int.emod_lt_of_pos (u * u + 104729 * u + (c + 1)) hP
      generalize (u * u + 104729 * u + (c + 1)) % 2305843009213693951 = z at z0 z1
      omega
    have k6 : binD .mul (.int w) (.int w) = some (.int (w * w)) := mul_s (by omega) (by omega)
    have k7 : binD .mul (.int 611953) (.int (c + 1)) = some (.int (611953 * (c + 1))) := mul_s (by decide) (by omega)
    have l1 : (1021 : Nat).log2 < 9000 := by decide +kernel
    have l2 : (4099 : Nat).log2 < 9000 := by decide +kernel
    refine ⟨a, c + 1, (w * w + 611953 * (c + 1)) % 1152921504606846883 / 4099 % m, ?_, ⟨a0, a1, b0, b1, by omega, by omega⟩, Int.emod_nonneg _ (by omega), Int.emod_lt_of_pos _ hm⟩
    by_cases h1 : 0 < a
    · have h2 : ¬ 1 < m := fun z => h ⟨h1, z⟩
      simp [run1, b__law_draw, srcD, h1, h2, hm, ix32, wipeE, biD, k0, k1, k2, k3, e1, k4, k5, l1, e2, k6, k7, l2]
    · simp [run1, b__law_draw, srcD, h1, hm, ix32, wipeE, biD, k0, k1, k2, k3, e1, k4, k5, l1, e2, k6, k7, l2]
end
end Ma
set_option Elab.async false
set_option linter.all false
set_option maxRecDepth 100000
namespace Ma
open VF Pr PySem Sy Sg
def LvB1 : Ss := (Ss.cons (S.asg 7 false (E.bi (Bi.len) (E.comp (Tg.n 9) [9] (It.seq (E.tup (Es.cons (E.int 2) (Es.cons (E.int 4) (Es.cons (E.int 8) (Es.cons (E.int 16) (Es.nil))))))) (Eo.y (E.cmp (COp.eq) (E.bin (BOp.mul) (E.bin (BOp.fdiv) (E.bin (BOp.add) (E.v 3) (E.int 1)) (E.v 9)) (E.v 9)) (E.bin (BOp.add) (E.v 3) (E.int 1)))) (E.v 9)))) (Ss.cons (S.asg 8 false (E.lst (Es.cons (E.call "_law_draw" [0] (Es.cons (E.bin (BOp.add) (E.v 6) (E.int 1)) (Es.nil))) (Es.cons (E.int 0) (Es.cons (E.bin (BOp.mul) (E.v 6) (E.bi (Bi.int) (E.cmp (COp.eq) (E.call "_law_draw" [0] (Es.cons (E.int 5) (Es.nil))) (E.int 0)))) (Es.cons (E.v 6) (Es.cons (E.v 7) (Es.cons (E.bi2 (Bi.min2) (E.int 4) (E.bin (BOp.fdiv) (E.bin (BOp.mul) (E.v 3) (E.v 6)) (E.int 8))) (Es.nil))))))))) (Ss.cons (S.app 2 (E.idx (E.v 8) (E.v 5))) (Ss.nil))))
theorem at_some {ds : List PyData} {v : Int} (h1 : 0 ≤ v) (h2 : v < ds.length) : ∃ d, d ∈ ds ∧ L2.atI ds v = some d := by
  obtain ⟨i, rfl⟩ : ∃ i : Nat, v = i := ⟨v.toNat, by omega⟩
  have hl : i < ds.length := by omega
  exact ⟨ds[i], List.getElem_mem hl, Sy.at_nat hl⟩
/-- levels as the law makes them -/
def LvI (b most many kind top : Int) (n i : Nat) (e : VF.Env) : Prop := ∃ a c fd x3 x7 x8, e = [some (srcD a b c), some (.int most), some (.list (il fd)), x3, some (.int many), some (.int kind), some (.int top), x7, x8, none] ∧ Sr (n + 2 * i) a b c ∧ fd.length = i ∧ ∀ x ∈ fd, 0 ≤ x ∧ x ≤ 4
section
variable {ns : List Int} {k : Nat}
theorem lv_step {b most many kind top : Int} {n i : Nat} {e : VF.Env} (hn : n ≤ 5000) (hi : i < 24) (hk : 0 ≤ kind ∧ kind < 6) (ht : 1 ≤ top ∧ top ≤ 4) (h : LvI b most many kind top n i e) :
    Ru (exs (cfg ns) (calls (cfg ns) tab (k + 1)) LvB1 (setV e 3 (.int (i : Nat)))) fun f e => f = .nx ∧ LvI b most many kind top n (i + 1) e := by
  obtain ⟨a, c, fd, x3, x7, x8, rfl, S, hl, hf⟩ := h
  obtain ⟨a1, c1, v1, d1, S1, v10, v11⟩ := draw_ok (ns := ns) (k := k) S (by omega) (show 0 < top + 1 by omega) (by have := lg4 (x := top + 1) (by omega); omega)
  obtain ⟨a2, c2, v2, d2, S2, v20, v21⟩ := draw_ok (ns := ns) (k := k) S1 (by omega) (show (0 : Int) < 5 by omega) (by have := lg4 (x := 5) (by decide); omega)
  have lg : ∀ z : Int, z = 2 ∨ z = 4 ∨ z = 8 ∨ z = 16 → 0 < z ∧ z.natAbs.log2 < 9000 ∧ z.natAbs < 2 ^ 400 := fun z hz => by
    rcases hz with rfl | rfl | rfl | rfl
    · exact ⟨by decide, by have := lg4 (x := 2) (by decide); omega, by decide⟩
    · exact ⟨by decide, by have := lg4 (x := 4) (by decide); omega, by decide⟩
    · exact ⟨by decide, by have := lg4 (x := 8) (by decide); omega, by decide⟩
    · exact ⟨by decide, by have := lg4 (x := 16) (by decide); omega, by decide⟩
  have q1 := comp_ii (C := cfg ns) (cs := calls (cfg ns) tab (k + 1)) (i := 9) (it := It.seq (E.tup (Es.cons (E.int 2) (Es.cons (E.int 4) (Es.cons (E.int 8) (Es.cons (E.int 16) (Es.nil))))))) (c := Eo.y (E.cmp (COp.eq) (E.bin (BOp.mul) (E.bin (BOp.fdiv) (E.bin (BOp.add) (E.v 3) (E.int 1)) (E.v 9)) (E.v 9)) (E.bin (BOp.add) (E.v 3) (E.int 1)))) (g := E.v 9) (ks := [2, 4, 8, 16]) (p := fun y => decide (((i : Int) + 1) / y * y = (i : Int) + 1)) (f := fun y => y)
    (env := [some (srcD a b c), some (.int most), some (.list (il fd)), some (.int (i : Nat)), some (.int many), some (.int kind), some (.int top), x7, x8, none]) (by simp [items, lim, il]) (by simp) (by decide) (fun y hy => by
      have hy' : y = 2 ∨ y = 4 ∨ y = 8 ∨ y = 16 := by simpa using hy
      obtain ⟨y1, y2, y3⟩ := lg y hy'
      have q0 : 0 ≤ ((i : Int) + 1) / y := Int.ediv_nonneg (by omega) (by omega)
      have q2 : ((i : Int) + 1) / y ≤ (i : Int) + 1 := Int.ediv_le_self _ (by omega)
      have m := mul_s (i := ((i : Int) + 1) / y) (j := y) (by omega) y3
      exact ⟨by simp [y1, y2, m], fun _ => by simp⟩)
  have l4 : (([2, 4, 8, 16].filter fun y : Int => decide (((i : Int) + 1) / y * y = (i : Int) + 1)).map (fun y => y)).length ≤ 4 := by
    rw [List.length_map]
    exact List.length_filter_le _ _
  generalize ([2, 4, 8, 16].filter fun y : Int => decide (((i : Int) + 1) / y * y = (i : Int) + 1)).map (fun y => y) = tw at q1 l4
  obtain ⟨z, hz⟩ : ∃ z : Int, z = if v2 = 0 then 1 else 0 := ⟨_, rfl⟩
  have z01 : 0 ≤ z ∧ z ≤ 1 := by split at hz <;> omega
  have m3 : binD .mul (.int top) (.int z) = some (.int (top * z)) := mul_s (by omega) (by omega)
  have m3b : 0 ≤ top * z ∧ top * z ≤ 4 := by
    rcases (show z = 0 ∨ z = 1 by omega) with rfl | rfl <;> omega
  have m4 : binD .mul (.int (i : Nat)) (.int top) = some (.int ((i : Int) * top)) := mul_s (by omega) (by omega)
  have m5 : 0 ≤ (i : Int) * top := Int.mul_nonneg (by omega) (by omega)
  have l8 : (8 : Nat).log2 < 9000 := (lg 8 (by simp)).2.1
  have m6 : 0 ≤ (i : Int) * top / 8 := Int.ediv_nonneg m5 (by decide)
  generalize hW : (i : Int) * top / 8 = W at m6
  obtain ⟨d, hd, hat⟩ := at_some (ds := [.int v1, .int 0, .int (top * z), .int top, .int (tw.length : Int), .int (if W < 4 then W else 4)]) hk.1 (by simpa using hk.2)
  obtain ⟨x, rfl, hx⟩ : ∃ x, d = .int x ∧ 0 ≤ x ∧ x ≤ 4 := by
    simp only [List.mem_cons, List.not_mem_nil, or_false] at hd
    rcases hd with rfl | rfl | rfl | rfl | rfl | rfl
    · exact ⟨_, rfl, by omega⟩
    · exact ⟨_, rfl, by omega⟩
    · exact ⟨_, rfl, m3b⟩
    · exact ⟨_, rfl, by omega⟩
    · exact ⟨_, rfl, by omega⟩
    · exact ⟨_, rfl, by split <;> omega⟩
  have e1 : biD .int (.bool (decide (v2 = 0))) = some (.int z) := by
    rw [hz]
    show some (PyData.int (if decide (v2 = 0) then 1 else 0)) = _
    simp
  have hlen : (il fd).length < 1000000 := by rw [il_len]; omega
  have e2 : il fd ++ [PyData.int x] = il (fd ++ [x]) := by simp [il]
  rw [show setV [some (srcD a b c), some (.int most), some (.list (il fd)), x3, some (.int many), some (.int kind), some (.int top), x7, x8, none] 3 (.int (i : Nat)) = [some (srcD a b c), some (.int most), some (.list (il fd)), some (.int (i : Nat)), some (.int many), some (.int kind), some (.int top), x7, x8, none] from rfl]
  have hfl : fd.length < 1000000 := by omega
  simp [LvB1, q1, d1, d2, e1, m3, m4, l8, hW, lim, hat, hfl, e2]
  refine Ru.ok ⟨rfl, a2, c2, fd ++ [x], _, _, _, rfl, S2.mono (by omega), by simp; omega, fun y hy => ?_⟩
  rcases List.mem_append.mp hy with m | m
  · exact hf y m
  · rw [List.mem_singleton] at m
    subst m
    exact hx
theorem levels_ok {a b c most : Int} {n : Nat} (S : Sr n a b c) (hn : n ≤ 4000) (hm : 0 ≤ most ∧ most ≤ 24) : ∃ a' c' fd, calls (cfg ns) tab (k + 2) "_law_levels" [srcD a b c, .int most] = .ok (.tuple (il fd)) [srcD a' b c'] ∧ Sr (n + 60) a' b c' ∧ fd.length ≤ most.toNat ∧ isLv (.tuple (il fd)) = true := by
  obtain ⟨a1, c1, many, d1, S1, v10, v11⟩ := draw_ok (ns := ns) (k := k) S (by omega) (show 0 < most + 1 by omega) (by have := lg4 (x := most + 1) (by omega); omega)
  obtain ⟨a2, c2, kind, d2, S2, v20, v21⟩ := draw_ok (ns := ns) (k := k) S1 (by omega) (show (0 : Int) < 6 by omega) (by have := lg4 (x := 6) (by decide); omega)
  obtain ⟨a3, c3, t, d3, S3, v30, v31⟩ := draw_ok (ns := ns) (k := k) S2 (by omega) (show (0 : Int) < 4 by omega) (by have := lg4 (x := 4) (by decide); omega)
  have rg : rngOk 0 many = true := by unfold rngOk; exact decide_eq_true (by omega)
  obtain ⟨mn, rfl⟩ : ∃ mn : Nat, many = mn := ⟨many.toNat, by omega⟩
  have loop := for_inv (C := cfg ns) (cs := calls (cfg ns) tab (k + 1)) (tg := .n 3) (b := LvB1) (ds := rngD 0 (mn : Int))
    (env := [some (srcD a3 b c3), some (.int most), some (.list []), none, some (.int (mn : Nat)), some (.int kind), some (.int (1 + t)), none, none, none])
    (LvI b most mn kind (1 + t) (n + 3)) ⟨a3, c3, [], none, none, none, rfl, S3.mono (by omega), rfl, fun x hx => by cases hx⟩ fun i d e hd hI => by
      unfold rngD at hd
      rw [List.getElem?_map] at hd
      by_cases q : i < ((mn : Int) - 0).toNat
      · rw [List.getElem?_range q] at hd
        cases hd
        refine ⟨_, rfl, ?_⟩
        have := lv_step (ns := ns) (k := k) (by omega) (by omega) ⟨v20, v21⟩ (show 1 ≤ 1 + t ∧ 1 + t ≤ 4 by omega) hI
        show Ru (exs (cfg ns) (calls (cfg ns) tab (k + 1)) LvB1 (setV e 3 (.int (0 + (i : Nat))))) _
        rw [Int.zero_add]
        exact this
      · rw [List.getElem?_eq_none (by rw [List.length_range]; omega)] at hd
        cases hd
  obtain ⟨f, e, l1, rfl, a4, c4, fd, x3, x7, x8, rfl, S4, h2, h3⟩ := loop
  have hn2 : (rngD 0 (mn : Int)).length = mn := by simp [rngD]
  rw [hn2] at S4 h2
  refine ⟨a4, c4, fd, ?_, S4.mono (by omega), by omega, ?_⟩
  · rw [Sy.call_ok (k := k + 1) tb__law_levels]
    simp only [LvB1] at l1
    rw [rng_up] at l1
    simp [run1, b__law_levels, d1, d2, d3, muE, muEs, lim, rg, wipeE]
    rw [l1]
    simp [items]
  · unfold isLv
    rw [Bool.and_eq_true, decide_eq_true_eq, il_len, List.all_eq_true]
    refine ⟨by omega, fun d hd => ?_⟩
    obtain ⟨x, hx, rfl⟩ := List.mem_map.mp hd
    have := h3 x hx
    simp [lvD, this.1, this.2]
end
end Ma
set_option Elab.async false
set_option linter.all false
set_option maxRecDepth 100000
namespace Ma
open VF Pr PySem Sy Sg
/-! ### wrong ones as the law makes them -/
theorem cutP (ds : List PyData) (n : Nat) : cutD ds none (some (n : Int)) = ds.take n := by
  unfold cutD
  rw [HT.sIx_none, HT.sIx_nat, List.drop_zero, Nat.sub_zero]
  rcases Nat.le_total n ds.length with q | q
  · rw [Nat.min_eq_left q]
  · rw [Nat.min_eq_right q, List.take_of_length_le (Nat.le_refl _), List.take_of_length_le q]
theorem cutS (ds : List PyData) (n : Nat) : cutD ds (some (n : Int)) none = ds.drop n := by
  unfold cutD
  rw [HT.sIx_none, HT.sIx_nat]
  rcases Nat.le_total n ds.length with q | q
  · rw [Nat.min_eq_left q, List.take_of_length_le (by rw [List.length_drop]; exact Nat.le_refl _)]
  · rw [Nat.min_eq_right q, Nat.sub_self, List.take_zero, List.drop_eq_nil_of_le q]
theorem lv_odd {a b : List PyData} {o : PyData} (h : lvD o = false) : isLv (.tuple (a ++ o :: b)) = false := by
  unfold isLv
  simp [h]
theorem lv_long {ds : List PyData} (h : 24 < ds.length) : isLv (.tuple ds) = false := by
  show (decide (ds.length ≤ 24) && ds.all lvD) = false
  rw [decide_eq_false (by omega)]
  rfl
theorem rep_len (n : Nat) (x : PyData) : (List.replicate n [x]).flatten.length = n := by simp
theorem pw30 : binD .pow (.int 10) (.int 30) = some (.int 1000000000000000000000000000000) := by
  have hp : (10 : Int) ^ (30 : Nat) = 1000000000000000000000000000000 := by decide
  simp [binD, hp]
theorem lgN {m : Int} (h : 0 ≤ m) (h2 : m < 2 ^ 200) : m.natAbs.log2 < 9000 := by
  have := lg4 (x := m) (Nat.lt_of_lt_of_le (show m.natAbs < 2 ^ 200 by omega) (by decide))
  omega
section
variable {ns : List Int} {k : Nat}
theorem badlev_ok {a b c : Int} {n : Nat} {ls : List Int} (S : Sr n a b c) (hn : n ≤ 30000) (hl : ls.length ≤ 24) : ∃ a' c' d, calls (cfg ns) tab (k + 2) "_law_bad_levels" [srcD a b c, .tuple (il ls)] = .ok d [srcD a' b c'] ∧ Sr (n + 10) a' b c' ∧ isLv d = false := by
  obtain ⟨a1, c1, at0, d1, S1, x10, x11⟩ := draw_ok (ns := ns) (k := k) S (by omega) (show 0 < (ls.length : Int) + 1 by omega) (lgN (by omega) (by omega))
  obtain ⟨i, rfl⟩ : ∃ i : Nat, at0 = i := ⟨at0.toNat, by omega⟩
  obtain ⟨a2, c2, u1, d2, S2, x20, x21⟩ := draw_ok (ns := ns) (k := k) S1 (by omega) (show (0 : Int) < 99999 by omega) (lgN (by omega) (by omega))
  obtain ⟨a3, c3, u2, d3, S3, x30, x31⟩ := draw_ok (ns := ns) (k := k) S2 (by omega) (show (0 : Int) < 99999 by omega) (lgN (by omega) (by omega))
  obtain ⟨a4, c4, u3, d4, S4, x40, x41⟩ := draw_ok (ns := ns) (k := k) S3 (by omega) (show (0 : Int) < 9 by omega) (lgN (by omega) (by omega))
  obtain ⟨a5, c5, w1, d5, S5, x50, x51⟩ := draw_ok (ns := ns) (k := k) S4 (by omega) (show (0 : Int) < 5 by omega) (lgN (by omega) (by omega))
  obtain ⟨a6, c6, w2, d6, S6, x60, x61⟩ := draw_ok (ns := ns) (k := k) S5 (by omega) (show (0 : Int) < 40 by omega) (lgN (by omega) (by omega))
  obtain ⟨a7, c7, r, d7, S7, x70, x71⟩ := draw_ok (ns := ns) (k := k) S6 (by omega) (show (0 : Int) < 13 by omega) (lgN (by omega) (by omega))
  obtain ⟨o, ho, hat⟩ := at_some (ds := [.int (5 + u1), .int (-1 - u2), .bool true, .none, .str "0", .tuple [.int 0], .list [.int 0], .int 1000000000000000000000000000000, .bool false]) x40 (by simpa using x41)
  have odd : lvD o = false := by
    simp only [List.mem_cons, List.not_mem_nil, or_false] at ho
    rcases ho with rfl | rfl | rfl | rfl | rfl | rfl | rfl | rfl | rfl
    · show (decide (0 ≤ 5 + u1) && decide (5 + u1 ≤ 4)) = false
      rw [decide_eq_false (show ¬ 5 + u1 ≤ 4 by omega), Bool.and_false]
    · show (decide (0 ≤ -1 - u2) && decide (-1 - u2 ≤ 4)) = false
      rw [decide_eq_false (show ¬ 0 ≤ -1 - u2 by omega), Bool.false_and]
    all_goals rfl
  obtain ⟨m, hm⟩ : ∃ m : Nat, 25 + w2 = m := ⟨(25 + w2).toNat, by omega⟩
  have mt : binD .mul (.tuple [.int w1]) (.int (25 + w2)) = some (.tuple (List.replicate m [PyData.int w1]).flatten) := by
    show (if -100000 ≤ 25 + w2 ∧ 25 + w2 ≤ 100000 ∧ [PyData.int w1].length * (25 + w2).toNat ≤ 100000 then some (PyData.tuple (List.replicate (25 + w2).toNat [PyData.int w1]).flatten) else none) = _
    rw [hm, if_pos ⟨by omega, by omega, by simp; omega⟩, Int.toNat_natCast]
  have hR := rep_len m (.int w1)
  generalize (List.replicate m [PyData.int w1]).flatten = R at mt hR
  obtain ⟨bad, hbad⟩ : ∃ bad, bad = PyData.tuple ((il ls).take i ++ o :: (il ls).drop i) := ⟨_, rfl⟩
  obtain ⟨d, hd, hat2⟩ := at_some (ds := [.list (il ls), .none, .int 0, .str "0", .tuple R, .tuple [.tuple (il ls), .tuple (il ls)], .list [], .bool true, bad, bad, bad, bad, bad]) x70 (by simpa using x71)
  refine ⟨a7, c7, d, ?_, S7.mono (by omega), ?_⟩
  · rw [Sy.call_ok (k := k + 1) tb__law_bad_levels]
    have t1 : min i ls.length ≤ 999999 := by omega
    have t2 : min i ls.length + (ls.length - i + 1) ≤ 1000000 := by omega
    have t3 : min i ls.length + (1 + (ls.length - i)) ≤ 1000000 := by omega
    have t4 : min i ls.length + 1 + (ls.length - i) ≤ 1000000 := by omega
    simp only [srcD] at *
    simp [run1, b__law_bad_levels, il_len, d1, d2, d3, d4, pw30, d5, d6, d7, lim, hat, items, mt, optI, cutP, cutS, wipeE, t1, t2, t3, t4, ← hbad, hat2]
  · simp only [List.mem_cons, List.not_mem_nil, or_false] at hd
    rcases hd with rfl | rfl | rfl | rfl | rfl | rfl | rfl | rfl | rfl | rfl | rfl | rfl | rfl
    · rfl
    · rfl
    · rfl
    · rfl
    · exact lv_long (by omega)
    · rfl
    · rfl
    · rfl
    all_goals (rw [hbad]; exact lv_odd odd)
theorem lotF_odd {n : Int} {o : PyData} {b : List PyData} (h : keyB n o = false) : ∀ {a : List PyData} {l0 : Int}, lotF n l0 (a ++ o :: b) = false
  | [], l0 => by
    cases o with
    | int i =>
      have h : (decide (0 ≤ i) && decide (i < n)) = false := h
      show ((decide (0 ≤ i) && decide (i < n)) && (decide (l0 ≤ i) && lotF n (i + 1) b)) = false
      rw [h, Bool.false_and]
    | _ => rfl
  | x :: a, l0 => by
    cases x with
    | int i =>
      show ((decide (0 ≤ i) && decide (i < n)) && (decide (l0 ≤ i) && lotF n (i + 1) (a ++ o :: b))) = false
      rw [lotF_odd h, Bool.and_false, Bool.and_false]
    | _ => rfl
theorem lotF_two {n x y : Int} {b : List PyData} (h : y ≤ x) : ∀ {a : List PyData} {l0 : Int}, lotF n l0 (a ++ .int x :: .int y :: b) = false
  | [], l0 => by
    show ((decide (0 ≤ x) && decide (x < n)) && (decide (l0 ≤ x) && ((decide (0 ≤ y) && decide (y < n)) && (decide (x + 1 ≤ y) && lotF n (y + 1) b)))) = false
    rw [decide_eq_false (show ¬ x + 1 ≤ y by omega), Bool.false_and, Bool.and_false, Bool.and_false, Bool.and_false]
  | z :: a, l0 => by
    cases z with
    | int i =>
      show ((decide (0 ≤ i) && decide (i < n)) && (decide (l0 ≤ i) && lotF n (i + 1) (a ++ .int x :: .int y :: b))) = false
      rw [lotF_two h, Bool.and_false, Bool.and_false]
    | _ => rfl
theorem key_odd {n u1 u2 : Int} {o : PyData} (hn : 0 ≤ n ∧ n ≤ 24) (h1 : 0 ≤ u1) (h2 : 0 ≤ u2) (ho : o ∈ [PyData.int (n + u1), .int (-1 - u2), .bool true, .none, .str "0", .tuple [.int 0], .list [.int 0], .int 1000000000000000000000000000000, .bool false]) : keyB n o = false := by
  simp only [List.mem_cons, List.not_mem_nil, or_false] at ho
  rcases ho with rfl | rfl | rfl | rfl | rfl | rfl | rfl | rfl | rfl
  · show (decide (0 ≤ n + u1) && decide (n + u1 < n)) = false
    rw [decide_eq_false (show ¬ n + u1 < n by omega), Bool.and_false]
  · show (decide (0 ≤ -1 - u2) && decide (-1 - u2 < n)) = false
    rw [decide_eq_false (show ¬ 0 ≤ -1 - u2 by omega), Bool.false_and]
  · rfl
  · rfl
  · rfl
  · rfl
  · rfl
  · show (decide ((0 : Int) ≤ 1000000000000000000000000000000) && decide ((1000000000000000000000000000000 : Int) < n)) = false
    rw [decide_eq_false (show ¬ (1000000000000000000000000000000 : Int) < n by omega), Bool.and_false]
  · rfl
end
end Ma
set_option Elab.async false
set_option linter.all false
set_option maxRecDepth 100000
namespace Ma
open VF Pr PySem Sy Sg
/-! ### page stretches -/
def UpTo (lv : Int → Int) (h : Int) (s : Int × Int) : Prop := ∀ x, s.1 ≤ x → x ≤ s.2 → lv x ≤ h
def Beside (lv : Int → Int) (n h : Int) (s : Int × Int) : Prop := (0 < s.1 → h < lv (s.1 - 1)) ∧ (s.2 + 1 < n → h < lv (s.2 + 1))
structure IsS (lv : Int → Int) (n : Int) (s : Int × Int) : Prop where
  lo : 0 ≤ s.1
  le : s.1 ≤ s.2
  hi : s.2 < n
  k : s.1 = s.2 ∨ ∃ h, UpTo lv h s ∧ Beside lv n h s
theorem foldmax_ge : ∀ (r : List Int) (i : Int), ∀ x ∈ i :: r, x ≤ r.foldl (fun m j => if j > m then j else m) i
  | [], i, x, hx => by
    rw [List.mem_singleton.mp hx]
    exact Int.le_refl _
  | y :: r, i, x, hx => by
    rw [List.foldl_cons]
    have h1 := foldmax_ge r (if y > i then y else i) _ List.mem_cons_self
    rcases List.mem_cons.mp hx with rfl | hx
    · have : x ≤ if y > x then y else x := by split <;> omega
      omega
    · rcases List.mem_cons.mp hx with rfl | hx
      · have : x ≤ if x > i then x else i := by split <;> omega
        omega
      · exact foldmax_ge r _ x (List.mem_cons_of_mem _ hx)
theorem maxI_ge {l : List Int} {m : Int} (h : maxI l = some m) : ∀ x ∈ l, x ≤ m := by
  cases l with
  | nil => cases h
  | cons i r =>
    cases h
    exact foldmax_ge r i
theorem mxI_ge {lv : Int → Int} {a b x : Int} (h1 : a ≤ x) (h2 : x ≤ b) : lv x ≤ mxI lv a b :=
  maxI_ge (mxI_at (lv := lv) (show a ≤ b by omega)).1 _ (List.mem_map.mpr ⟨x, mem_keysI.mpr ⟨h1, h2⟩, rfl⟩)
/-- what the steps keep, told once more: a key of the greatest level by itself, or a row of lesser ones as long as can be -/
structure St2 (lv : Int → Int) (g a k : Int) (fd : List (Int × Int)) : Prop where
  ch : Chn a k fd
  kd : ∀ p ∈ fd, (p.1 = p.2 ∧ ¬ lv p.1 < g) ∨ ((∀ x, p.1 ≤ x → x ≤ p.2 → lv x < g) ∧ (a < p.1 → ¬ lv (p.1 - 1) < g) ∧ (p.2 < k → ¬ lv (p.2 + 1) < g))
theorem st2_next {lv : Int → Int} {g a k : Int} {fd : List (Int × Int)} (h : St2 lv g a k fd) (hk : a ≤ k + 1) : St2 lv g a (k + 1) (stp lv g fd (k + 1)) := by
  unfold stp
  split
  · rename_i c
    obtain ⟨c1, c2, c3⟩ := c
    obtain ⟨r, z, rfl⟩ : ∃ r z, fd = r ++ [z] := ⟨fd.dropLast, fd.getLast c2, (List.dropLast_concat_getLast c2).symm⟩
    rw [List.getLastD_concat] at c3 ⊢
    rw [List.dropLast_concat]
    obtain ⟨z1, z2, z3⟩ := chn_snoc h.ch
    refine ⟨chn_add z1 (by show z.1 ≤ k + 1; omega) rfl, fun p hp => ?_⟩
    rcases List.mem_append.mp hp with m | m
    · have := chn_mem z1 m
      rcases h.kd p (List.mem_append_left _ m) with q | ⟨q1, q2, q3⟩
      · exact .inl q
      · exact .inr ⟨q1, q2, fun _ => q3 (by omega)⟩
    · rw [List.mem_singleton] at m
      subst m
      rcases h.kd z (by simp) with q | ⟨q1, q2, q3⟩
      · rw [← q.1] at c3
        exact absurd c3 q.2
      · refine .inr ⟨fun x x1 x2 => ?_, q2, fun z => absurd z (by simp)⟩
        simp only at x1 x2
        by_cases e : x = k + 1
        · rw [e]; exact c1
        · exact q1 x x1 (by omega)
  · rename_i c
    refine ⟨chn_add (z := (k + 1, k + 1)) (by show Chn a (k + 1 - 1) fd; rw [Int.add_sub_cancel]; exact h.ch) (Int.le_refl _) rfl, fun p hp => ?_⟩
    have lastk : ∀ p ∈ fd, p.2 = k → fd ≠ [] ∧ (fd.getLastD (0, 0)).2 = k := fun p hp e => by
      have c2 : fd ≠ [] := List.ne_nil_of_mem hp
      obtain ⟨r, z, rfl⟩ : ∃ r z, fd = r ++ [z] := ⟨fd.dropLast, fd.getLast c2, (List.dropLast_concat_getLast c2).symm⟩
      rw [List.getLastD_concat]
      exact ⟨c2, (chn_snoc h.ch).2.2⟩
    rcases List.mem_append.mp hp with m | m
    · rcases h.kd p m with q | ⟨q1, q2, q3⟩
      · exact .inl q
      · refine .inr ⟨q1, q2, fun _ => ?_⟩
        have hm := chn_mem h.ch m
        by_cases e : p.2 = k
        · intro lt
          rw [e] at lt
          obtain ⟨l1, l2⟩ := lastk p m e
          refine c ⟨lt, l1, ?_⟩
          rw [l2, ← e]
          exact q1 p.2 hm.2.1 (Int.le_refl _)
        · exact q3 (by omega)
    · rw [List.mem_singleton] at m
      subst m
      by_cases q : lv (k + 1) < g
      · refine .inr ⟨fun x x1 x2 => ?_, fun ha => ?_, fun z => absurd z (by simp)⟩
        · simp only at x1 x2
          rw [show x = k + 1 by omega]
          exact q
        · simp only at ha ⊢
          rw [Int.add_sub_cancel]
          intro lt
          have ne : fd ≠ [] := by
            rintro rfl
            have : a = k + 1 := h.ch
            omega
          refine c ⟨q, ne, ?_⟩
          obtain ⟨r, z, rfl⟩ : ∃ r z, fd = r ++ [z] := ⟨fd.dropLast, fd.getLast ne, (List.dropLast_concat_getLast ne).symm⟩
          rw [List.getLastD_concat, (chn_snoc h.ch).2.2]
          exact lt
      · exact .inl ⟨rfl, q⟩
theorem st2_all {lv : Int → Int} {g a : Int} : ∀ (n : Nat), St2 lv g a (a + n - 1) ((keysI a (a + n - 1)).foldl (stp lv g) [])
  | 0 => by
    have : keysI a (a + (0 : Nat) - 1) = [] := by unfold keysI; rw [show (a + ((0 : Nat) : Int) - 1 + 1 - a).toNat = 0 by omega]; rfl
    rw [this]
    exact ⟨show a = a + ((0 : Nat) : Int) - 1 + 1 by omega, fun p hp => by cases hp⟩
  | n + 1 => by
    have e : keysI a (a + (n + 1 : Nat) - 1) = keysI a (a + n - 1) ++ [a + n - 1 + 1] := by
      unfold keysI
      rw [show (a + ((n + 1 : Nat) : Int) - 1 + 1 - a).toNat = n + 1 by omega, show (a + (n : Int) - 1 + 1 - a).toNat = n by omega, List.range_succ, List.map_append]
      congr 1
      show [a + (n : Int)] = [a + (n : Int) - 1 + 1]
      rw [Int.sub_add_cancel]
    rw [e, List.foldl_append]
    have := st2_next (st2_all (lv := lv) (g := g) (a := a) n) (by omega)
    rw [show a + ((n + 1 : Nat) : Int) - 1 = a + n - 1 + 1 by omega]
    exact this
theorem par_2 {lv : Int → Int} {a b : Int} (h : a < b) : St2 lv (mxI lv a b) a b (parL lv (a, b)) := by
  have e : parL lv (a, b) = (keysI a b).foldl (stp lv (mxI lv a b)) [] := by
    unfold parL
    rw [if_neg (by show ¬ a = b; omega)]
  have S := st2_all (lv := lv) (g := mxI lv a b) (a := a) (b + 1 - a).toNat
  rw [show a + ((b + 1 - a).toNat : Int) - 1 = b by omega] at S
  rw [e]
  exact S
theorem par_one {lv : Int → Int} {a : Int} : parL lv (a, a) = [] := by simp [parL]
theorem par_two {lv : Int → Int} {a b : Int} (h : a < b) : 2 ≤ (parL lv (a, b)).length := by
  obtain ⟨qs, z, e, ne, _⟩ := (par_L lv a b).more a b (Int.le_refl _) h (Int.le_refl _)
  rw [e, List.length_append, List.length_singleton]
  have : 0 < qs.length := List.length_pos_iff.mpr ne
  omega
/-- each key is in a part -/
theorem chn_cov : ∀ {ps : List (Int × Int)} {lo hi x : Int}, Chn lo hi ps → lo ≤ x → x ≤ hi → ∃ p ∈ ps, p.1 ≤ x ∧ x ≤ p.2
  | [], lo, hi, x, h, h1, h2 => by
    have : lo = hi + 1 := h
    omega
  | p :: r, lo, hi, x, h, h1, h2 => by
    by_cases q : x ≤ p.2
    · exact ⟨p, List.mem_cons_self, by have := h.1; omega, q⟩
    · obtain ⟨p', m, g⟩ := chn_cov (x := x) h.2.2 (by omega) h2
      exact ⟨p', List.mem_cons_of_mem _ m, g⟩
theorem chn_rise : ∀ {ps : List (Int × Int)} {lo hi : Int}, Chn lo hi ps → ps.Pairwise (fun p q => p.2 < q.1)
  | [], _, _, _ => .nil
  | p :: r, lo, hi, h => by
    refine List.pairwise_cons.mpr ⟨fun q hq => ?_, chn_rise h.2.2⟩
    have := chn_mem h.2.2 hq
    omega
theorem pw_apart {ps : List (Int × Int)} (h : ps.Pairwise (fun p q => p.2 < q.1)) {p q : Int × Int} (hp : p ∈ ps) (hq : q ∈ ps) {x : Int} (x1 : p.1 ≤ x) (x2 : x ≤ p.2) (x3 : q.1 ≤ x) (x4 : x ≤ q.2) : p = q := by
  induction h with
  | nil => cases hp
  | @cons y ys h1 _ ih =>
    rcases List.mem_cons.mp hp with rfl | hp' <;> rcases List.mem_cons.mp hq with rfl | hq'
    · rfl
    · have := h1 q hq'; omega
    · have := h1 p hp'; omega
    · exact ih hp' hq'
section
variable {lv : Int → Int} {n : Int} {s t p : Int × Int}
theorem par_ch (h : s.1 < s.2) : Chn s.1 s.2 (parL lv s) := (par_2 (lv := lv) (a := s.1) (b := s.2) h).ch
theorem par_in (h : s.1 ≤ s.2) (hp : p ∈ parL lv s) : s.1 ≤ p.1 ∧ p.1 ≤ p.2 ∧ p.2 ≤ s.2 ∧ p.2 - p.1 < s.2 - s.1 := by
  by_cases q : s.1 < s.2
  · have h1 := chn_mem (par_ch (lv := lv) q) hp
    have h2 := par_two (lv := lv) (a := s.1) (b := s.2) q
    have h2 : 2 ≤ (parL lv s).length := h2
    omega
  · obtain ⟨a, b⟩ := s
    have e : a = b := by simp only at h q; omega
    subst e
    rw [par_one] at hp
    cases hp
/-- a stretch's parts are stretches -/
theorem par_isS (h : IsS lv n s) (hp : p ∈ parL lv s) : IsS lv n p := by
  have i := par_in h.le hp
  have lo := h.lo
  have hi := h.hi
  refine ⟨by omega, i.2.1, by omega, ?_⟩
  by_cases q : s.1 < s.2
  · have S := par_2 (lv := lv) (a := s.1) (b := s.2) q
    obtain ⟨y, y1, y2, y3⟩ := (mxI_at (lv := lv) (show s.1 ≤ s.2 by omega)).2
    rcases h.k with e | ⟨m, u, b1, b2⟩
    · omega
    · rcases S.kd p hp with e | ⟨q1, q2, q3⟩
      · exact .inl e.1
      · refine .inr ⟨mxI lv s.1 s.2 - 1, fun x x1 x2 => by have := q1 x x1 x2; omega, fun h0 => ?_, fun h0 => ?_⟩
        · by_cases e : s.1 < p.1
          · have := q2 e; omega
          · have e2 : p.1 = s.1 := by omega
            have := b1 (by omega)
            have := u y y1 y2
            rw [e2]
            omega
        · by_cases e : p.2 < s.2
          · have := q3 e; omega
          · have e2 : p.2 = s.2 := by omega
            have := b2 (by omega)
            have := u y y1 y2
            rw [e2]
            omega
  · omega
/-- what is within a stretch, and not itself, is within one of its parts -/
theorem in_part (h : IsS lv n s) (ht : IsS lv n t) (h1 : s.1 ≤ t.1) (h2 : t.2 ≤ s.2) (ne : t ≠ s) : ∃ p ∈ parL lv s, p.1 ≤ t.1 ∧ t.2 ≤ p.2 := by
  have tl := ht.le
  have lo := h.lo
  have hi := h.hi
  by_cases q : s.1 < s.2
  · have S := par_2 (lv := lv) (a := s.1) (b := s.2) q
    obtain ⟨p, hp, p1, p2⟩ := chn_cov (x := t.1) S.ch h1 (by omega)
    refine ⟨p, hp, p1, ?_⟩
    have pin := par_in h.le hp
    rcases ht.k with e | ⟨m, u, b1, b2⟩
    · omega
    · have all : ∀ x, t.1 ≤ x → x ≤ t.2 → lv x < mxI lv s.1 s.2 := fun x x1 x2 => by
        apply Classical.byContradiction
        intro c
        have um := u x x1 x2
        apply ne
        have e1 : t.1 = s.1 := by
          apply Classical.byContradiction
          intro c1
          have := b1 (by omega)
          have := mxI_ge (lv := lv) (a := s.1) (b := s.2) (x := t.1 - 1) (by omega) (by omega)
          omega
        have e2 : t.2 = s.2 := by
          apply Classical.byContradiction
          intro c1
          have := b2 (by omega)
          have := mxI_ge (lv := lv) (a := s.1) (b := s.2) (x := t.2 + 1) (by omega) (by omega)
          omega
        exact Prod.ext e1 e2
      rcases S.kd p hp with e | ⟨q1, q2, q3⟩
      · have := all t.1 (Int.le_refl _) tl
        have e0 := e.1
        have : p.1 = t.1 := by omega
        have := e.2
        rw [‹p.1 = t.1›] at this
        omega
      · apply Classical.byContradiction
        intro c
        have := q3 (by omega)
        have := all (p.2 + 1) (by omega) (by omega)
        omega
  · exact absurd (Prod.ext (by omega) (by omega)) ne
/-- two stretches are apart, or one is within the other -/
theorem laminar (h : IsS lv n s) (ht : IsS lv n t) : s.2 < t.1 ∨ t.2 < s.1 ∨ (s.1 ≤ t.1 ∧ t.2 ≤ s.2) ∨ (t.1 ≤ s.1 ∧ s.2 ≤ t.2) := by
  have h0 := h.lo
  have h1 := h.le
  have h2 := h.hi
  have t0 := ht.lo
  have t1 := ht.le
  have t2 := ht.hi
  rcases h.k with e | ⟨m, u, b1, b2⟩
  · omega
  · rcases ht.k with e | ⟨m', u', b1', b2'⟩
    · omega
    · apply Classical.byContradiction
      intro c
      have key : (s.1 < t.1 ∧ t.1 ≤ s.2 ∧ s.2 < t.2) ∨ (t.1 < s.1 ∧ s.1 ≤ t.2 ∧ t.2 < s.2) := by omega
      rcases key with ⟨k1, k2, k3⟩ | ⟨k1, k2, k3⟩
      · have := b2 (by omega)
        have := u' (s.2 + 1) (by omega) (by omega)
        have := b1' (by omega)
        have := u (t.1 - 1) (by omega) (by omega)
        omega
      · have := b2' (by omega)
        have := u (t.2 + 1) (by omega) (by omega)
        have := b1 (by omega)
        have := u' (s.1 - 1) (by omega) (by omega)
        omega
end
/-- a stretch and all within it -/
def swL (lv : Int → Int) : Nat → Int × Int → List (Int × Int)
  | 0, _ => []
  | f + 1, s => s :: (parL lv s).flatMap (swL lv f)
theorem mem_swL {lv : Int → Int} {n : Int} {t : Int × Int} : ∀ (f : Nat) {s : Int × Int}, IsS lv n s → s.2 - s.1 < f → (t ∈ swL lv f s ↔ IsS lv n t ∧ s.1 ≤ t.1 ∧ t.2 ≤ s.2)
  | 0, s, h, hf => by
    have := h.le
    omega
  | f + 1, s, h, hf => by
    have hle := h.le
    unfold swL
    rw [List.mem_cons, List.mem_flatMap]
    constructor
    · rintro (rfl | ⟨p, hp, ht⟩)
      · exact ⟨h, Int.le_refl _, Int.le_refl _⟩
      · have i := par_in hle hp
        obtain ⟨g1, g2, g3⟩ := (mem_swL f (par_isS h hp) (by omega)).mp ht
        exact ⟨g1, by omega, by omega⟩
    · rintro ⟨g1, g2, g3⟩
      by_cases e : t = s
      · exact .inl e
      · obtain ⟨p, hp, p1, p2⟩ := in_part h g1 g2 g3 e
        have i := par_in hle hp
        exact .inr ⟨p, hp, (mem_swL f (par_isS h hp) (by omega)).mpr ⟨g1, p1, p2⟩⟩
theorem chn_flat {F : Int × Int → List (Int × Int)} : ∀ {ps : List (Int × Int)} {lo hi : Int}, Chn lo hi ps → (∀ p ∈ ps, (F p).Nodup ∧ (∀ t ∈ F p, p.1 ≤ t.1 ∧ t.1 ≤ p.2) ∧ (F p).length + 1 ≤ 2 * (p.2 - p.1 + 1)) →
    (ps.flatMap F).Nodup ∧ (∀ t ∈ ps.flatMap F, lo ≤ t.1) ∧ (ps.flatMap F).length + ps.length ≤ 2 * (hi + 1 - lo)
  | [], lo, hi, h, _ => by
    have : lo = hi + 1 := h
    refine ⟨List.nodup_nil, (fun t ht => by simp at ht), ?_⟩
    simp
    omega
  | p :: r, lo, hi, h, hF => by
    obtain ⟨i1, i2, i3⟩ := chn_flat (F := F) h.2.2 fun q hq => hF q (List.mem_cons_of_mem _ hq)
    obtain ⟨f1, f2, f3⟩ := hF p List.mem_cons_self
    have e := h.1
    have hl := h.2.1
    rw [List.flatMap_cons]
    refine ⟨List.nodup_append.mpr ⟨f1, i1, fun x hx y hy e => ?_⟩, fun t ht => ?_, ?_⟩
    · subst e
      have := f2 x hx
      have := i2 x hy
      omega
    · rcases List.mem_append.mp ht with m | m
      · have := f2 t m
        omega
      · have := i2 t m
        omega
    · rw [List.length_append, List.length_cons]
      omega
theorem swL_nd {lv : Int → Int} {n : Int} : ∀ (f : Nat) {s : Int × Int}, IsS lv n s → s.2 - s.1 < f → (swL lv f s).Nodup ∧ (∀ t ∈ swL lv f s, s.1 ≤ t.1 ∧ t.1 ≤ s.2) ∧ (swL lv f s).length + 1 ≤ 2 * (s.2 - s.1 + 1)
  | 0, s, h, hf => by
    have := h.le
    omega
  | f + 1, s, h, hf => by
    have hle := h.le
    have mem := fun t => mem_swL (lv := lv) (n := n) (t := t) (f + 1) h hf
    have sub : ∀ p ∈ parL lv s, (swL lv f p).Nodup ∧ (∀ t ∈ swL lv f p, p.1 ≤ t.1 ∧ t.1 ≤ p.2) ∧ (swL lv f p).length + 1 ≤ 2 * (p.2 - p.1 + 1) := fun p hp => by
      have i := par_in hle hp
      exact swL_nd f (par_isS h hp) (by omega)
    refine ⟨?_, fun t ht => ?_, ?_⟩
    · unfold swL
      refine List.nodup_cons.mpr ⟨fun z => ?_, ?_⟩
      · obtain ⟨p, hp, ht⟩ := List.mem_flatMap.mp z
        have i := par_in hle hp
        have := (mem_swL f (par_isS h hp) (by omega)).mp ht
        omega
      · by_cases q : s.1 < s.2
        · exact (chn_flat (par_ch q) sub).1
        · have e : parL lv s = [] := by
            obtain ⟨a, b⟩ := s
            have e : a = b := by simp only at hle q; omega
            subst e
            exact par_one
          rw [e]
          exact .nil
    · have m := (mem t).mp ht
      have := m.1.le
      omega
    · unfold swL
      by_cases q : s.1 < s.2
      · have h3 := (chn_flat (par_ch q) sub).2.2
        have h2 : 2 ≤ (parL lv s).length := par_two (lv := lv) (a := s.1) (b := s.2) q
        rw [List.length_cons]
        omega
      · have e : parL lv s = [] := by
          obtain ⟨a, b⟩ := s
          have e : a = b := by simp only at hle q; omega
          subst e
          exact par_one
        rw [e]
        simp
        omega
theorem whole_isS {lv : Int → Int} {n : Int} (hn : 0 < n) : IsS lv n (0, n - 1) := by
  obtain ⟨y, y1, y2, y3⟩ := (mxI_at (lv := lv) (show (0 : Int) ≤ n - 1 by omega)).2
  refine ⟨Int.le_refl _, by show (0 : Int) ≤ n - 1; omega, by show n - 1 < n; omega, .inr ⟨mxI lv 0 (n - 1), fun x x1 x2 => mxI_ge x1 x2, fun z => absurd z (by simp), fun z => ?_⟩⟩
  have : n - 1 + 1 < n := z
  omega
/-- all page stretches, ascending -/
def spL (lv : Int → Int) (n : Nat) : List (Int × Int) := (swL lv n (0, (n : Int) - 1)).mergeSort leP
theorem mem_spL {lv : Int → Int} {n : Nat} {t : Int × Int} (hn : 0 < n) : t ∈ spL lv n ↔ IsS lv n t := by
  unfold spL
  rw [List.mem_mergeSort, mem_swL (n := (n : Int)) n (whole_isS (by omega)) (by show (n : Int) - 1 - 0 < n; omega)]
  refine ⟨fun h => h.1, fun h => ⟨h, ?_, ?_⟩⟩
  · exact h.lo
  · have := h.hi
    show t.2 ≤ (n : Int) - 1
    omega
theorem spL_rise {lv : Int → Int} {n : Nat} (hn : 0 < n) : (spL lv n).Pairwise (fun a b => ltP a b = true) := sortP_rise (swL_nd (n := (n : Int)) n (whole_isS (by omega)) (by show (n : Int) - 1 - 0 < n; omega)).1
theorem spL_len {lv : Int → Int} {n : Nat} (hn : 0 < n) : (spL lv n).length + 1 ≤ 2 * n := by
  have := (swL_nd (lv := lv) (n := (n : Int)) n (whole_isS (by omega)) (by show (n : Int) - 1 - 0 < n; omega)).2.2
  unfold spL
  rw [List.length_mergeSort]
  have this : ((swL lv n (0, (n : Int) - 1)).length : Int) + 1 ≤ 2 * ((n : Int) - 1 - 0 + 1) := this
  omega
/-! ### the law's own -/
def inB (s o : Int × Int) : Bool := !decide (o = s) && (decide (s.1 ≤ o.1) && decide (o.2 ≤ s.2))
def inL (S : List (Int × Int)) (s : Int × Int) : List (Int × Int) := S.filter (inB s)
def upB (one o : Int × Int) : Bool := !decide (o = one) && (decide (o.1 ≤ one.1) && decide (one.2 ≤ o.2))
def innL (S : List (Int × Int)) (s : Int × Int) : List (Int × Int) := (inL S s).filter fun one => ((inL S s).filter (upB one)).isEmpty
theorem inn_par {lv : Int → Int} {n : Nat} {s : Int × Int} (hn : 0 < n) (h : IsS lv n s) : innL (spL lv n) s = parL lv s := by
  have hle := h.le
  have mem : ∀ t, t ∈ inL (spL lv n) s ↔ (IsS lv n t ∧ t ≠ s ∧ s.1 ≤ t.1 ∧ t.2 ≤ s.2) := fun t => by
    unfold inL inB
    rw [List.mem_filter, mem_spL hn]
    simp only [Bool.and_eq_true, Bool.not_eq_true', decide_eq_false_iff_not, decide_eq_true_eq]
  have pmem : ∀ p ∈ parL lv s, p ∈ inL (spL lv n) s := fun p hp => by
    have i := par_in hle hp
    exact (mem p).mpr ⟨par_isS h hp, fun e => by rw [e] at i; omega, i.1, i.2.2.1⟩
  have prise : (parL lv s).Pairwise (fun p q => p.2 < q.1) := by
    by_cases q : s.1 < s.2
    · exact chn_rise (par_ch q)
    · have e : parL lv s = [] := by
        obtain ⟨a, b⟩ := s
        have e : a = b := by simp only at hle q; omega
        subst e
        exact par_one
      rw [e]
      exact .nil
  refine rise_eq (((spL_rise hn).filter _).filter _) ?_ fun t => ?_
  · refine prise.imp_of_mem fun {p q} hp hq hlt => ?_
    have := par_in hle hp
    rw [ltP_dec]
    omega
  · unfold innL
    rw [List.mem_filter, List.isEmpty_iff, List.filter_eq_nil_iff]
    constructor
    · rintro ⟨ht, no⟩
      obtain ⟨t1, t2, t3, t4⟩ := (mem t).mp ht
      obtain ⟨p, hp, p1, p2⟩ := in_part h t1 t3 t4 t2
      by_cases e : t = p
      · rw [e]; exact hp
      · refine absurd ?_ (no p (pmem p hp))
        unfold upB
        simp only [Bool.and_eq_true, Bool.not_eq_true', decide_eq_false_iff_not, decide_eq_true_eq]
        exact ⟨fun z => e z.symm, p1, p2⟩
    · intro hp
      refine ⟨pmem t hp, fun o ho up => ?_⟩
      unfold upB at up
      simp only [Bool.and_eq_true, Bool.not_eq_true', decide_eq_false_iff_not, decide_eq_true_eq] at up
      obtain ⟨u1, u2, u3⟩ := up
      obtain ⟨o1, o2, o3, o4⟩ := (mem o).mp ho
      obtain ⟨q, hq, q1, q2⟩ := in_part h o1 o3 o4 o2
      have tin := par_in hle hp
      have e : t = q := pw_apart prise hp hq (x := t.1) (Int.le_refl _) tin.2.1 (by omega) (by have := o1.le; omega)
      subst e
      exact u1 (Prod.ext (by omega) (by omega))
end Ma
set_option Elab.async false
set_option linter.all false
set_option maxRecDepth 100000
namespace Ma
open VF Pr PySem Sy Sg
/-! ### pairs, lists of pairs -/
theorem prD_sh (q : Int × Int) : VF.shp (prD q) = true := rfl
theorem lay_pl : ∀ ps : List (Int × Int), PyData.canLayAll0 (pl ps) = true
  | [] => rfl
  | p :: ps => by
    show ((prD p).canLay0 && PyData.canLayAll0 (pl ps)) = true
    rw [lay_pl ps]
    rfl
theorem dep_pl : ∀ ps : List (Int × Int), PyData.depthAll (pl ps) ≤ 2
  | [] => by decide
  | p :: ps => by
    have h := dep_pl ps
    have h1 : (prD p).depth ≤ 2 := by
      obtain ⟨a, b⟩ := p
      show (PyData.tuple [.int a, .int b]).depth ≤ 2
      simp [PyData.depth, PyData.depthAll]
    show max (prD p).depth (PyData.depthAll (pl ps)) ≤ 2
    omega
theorem shp_plL (ps : List (Int × Int)) : VF.shp (.list (pl ps)) = true := by
  have h := dep_pl ps
  have h2 := lay_pl ps
  unfold VF.shp SeqAt.shaped
  simp [PyData.canLay0, PyData.depth, h2]
  omega
theorem eqv_pr {p q : Int × Int} : PyData.eqv (prD p) (prD q) = decide (p = q) := by
  obtain ⟨a, b⟩ := p
  obtain ⟨c, d⟩ := q
  have e1 : PyData.eqv (.int a) (.int c) = decide (a = c) := Sy.eqv_i
  have e2 : PyData.eqv (.int b) (.int d) = decide (b = d) := Sy.eqv_i
  show PyData.eqv (.tuple [.int a, .int b]) (.tuple [.int c, .int d]) = _
  simp [PyData.eqv, PyData.eqvAll, e1, e2]
  rfl
theorem any_pl {q : Int × Int} {ps : List (Int × Int)} : ((pl ps).any fun z => PyData.eqv z (prD q)) = decide (q ∈ ps) := by
  unfold pl
  induction ps with
  | nil => simp
  | cons p ps ih =>
    rw [List.map_cons, List.any_cons, ih, eqv_pr]
    simp [eq_comm]
theorem ne_pr {p q : Int × Int} : cmpD .ne (prD p) (prD q) = some (!decide (p = q)) := by
  rw [Sy.ne_sh (prD_sh p) (prD_sh q), eqv_pr]
theorem notin_plL {q : Int × Int} {ps : List (Int × Int)} : cmpD .notin (prD q) (.list (pl ps)) = some (!decide (q ∈ ps)) := by
  rw [Sy.notin_sh (prD_sh q) (shp_plL ps), any_pl]
theorem pairs_pl (ps : List (Int × Int)) : pairsOf (pl ps) = some ps := by
  unfold pl
  induction ps with
  | nil => rfl
  | cons p ps ih =>
    show (pairsOf (ps.map prD)).map ((p.1, p.2) :: ·) = _
    rw [ih]
    rfl
theorem sort_pl {ps : List (Int × Int)} (h : ps ≠ []) : sortD (pl ps) = some (pl (ps.mergeSort leP)) := by
  have e : intsOf (pl ps) = none := by
    cases ps with
    | nil => exact absurd rfl h
    | cons p r => rfl
  unfold sortD
  rw [e, pairs_pl]
  rfl
theorem pl_app (a b : List (Int × Int)) : pl a ++ pl b = pl (a ++ b) := by simp [pl]
theorem pl_snoc (a : List (Int × Int)) (q : Int × Int) : pl a ++ [prD q] = pl (a ++ [q]) := by simp [pl]
theorem at_pl {ps : List (Int × Int)} {i : Nat} (h : i < ps.length) : L2.atI (pl ps) (i : Int) = some (prD ps[i]) := by
  rw [Sy.at_nat (by rw [pl_len]; exact h)]
  simp [pl]
theorem forX_c {C : Cfg} {cs : Calls} {tg : Tg} {b : Ss} {d : PyData} {ds : List PyData} {env e1 e2 : VF.Env} (h : tgSet tg d env = some e1) (h2 : exs C cs b e1 = .ok .nx e2) : forX C cs tg b (d :: ds) env = forX C cs tg b ds e2 := by
  unfold forX
  rw [forL]
  simp only [h, h2]
  rfl
/-- the last pair that a loop came by -/
def lastp (x : Option PyData) (p : List (Int × Int)) : Option PyData := match p.getLast? with
  | none => x
  | some q => some (prD q)
@[simp] theorem lastp_nil (x : Option PyData) : lastp x [] = x := rfl
@[simp] theorem lastp_snoc (x : Option PyData) (p : List (Int × Int)) (q : Int × Int) : lastp x (p ++ [q]) = some (prD q) := by simp [lastp]
/-- a loop over pairs, by its state behind those done -/
theorem forX_pl {C : Cfg} {cs : Calls} {i : Nat} {b : Ss} {ps : List (Int × Int)} (St : List (Int × Int) → VF.Env) (h : ∀ p q s, ps = p ++ q :: s → exs C cs b (setV (St p) i (prD q)) = .ok .nx (St (p ++ [q]))) : forX C cs (.n i) b (pl ps) (St []) = .ok .nx (St ps) := by
  have key : ∀ (s p : List (Int × Int)), ps = p ++ s → forX C cs (.n i) b (pl s) (St p) = .ok .nx (St ps) := by
    intro s
    induction s with
    | nil =>
      intro p e
      rw [List.append_nil] at e
      rw [e]
      rfl
    | cons q s ih =>
      intro p e
      have h1 := h p q s e
      have h2 := ih (p ++ [q]) (by simp [e])
      rw [← h2]
      show (exs C cs b (setV (St p) i (prD q))).bind _ = _
      rw [h1]
      rfl
  exact key ps [] rfl
/-! ### the program's own -/
def SwB1 : Ss := (Ss.cons (S.ext 2 (E.call "stretches_within" [] (Es.cons (E.v 0) (Es.cons (E.v 3) (Es.nil))))) (Ss.nil))
def SP (ls : List Int) : List (Int × Int) := if ls = [] then [] else spL (lvO ls) ls.length
theorem mem_SP {ls : List Int} {t : Int × Int} : t ∈ SP ls ↔ IsS (lvO ls) ls.length t := by
  unfold SP
  split
  · rename_i e
    subst e
    refine ⟨(fun z => by cases z), fun h => ?_⟩
    have h1 := h.lo
    have h2 := h.le
    have h3 := h.hi
    simp at h3
    omega
  · rename_i e
    exact mem_spL (List.length_pos_iff.mpr e)
theorem SP_rise {ls : List Int} : (SP ls).Pairwise (fun a b => ltP a b = true) := by
  unfold SP
  split
  · exact .nil
  · rename_i e
    exact spL_rise (List.length_pos_iff.mpr e)
theorem SP_len {ls : List Int} (hl : ls.length ≤ 24) : (SP ls).length ≤ 47 := by
  unfold SP
  split
  · exact Nat.zero_le _
  · rename_i e
    have := spL_len (lv := lvO ls) (List.length_pos_iff.mpr e)
    omega
theorem SP_nil {ls : List Int} : SP ls = [] ↔ ls = [] := by
  constructor
  · intro h
    apply Classical.byContradiction
    intro e
    have : (0, (ls.length : Int) - 1) ∈ SP ls := mem_SP.mpr (whole_isS (by have := List.length_pos_iff.mpr e; omega))
    rw [h] at this
    cases this
  · rintro rfl
    rfl
section
variable {ns : List Int} {k : Nat}
theorem sw_ok {ls : List Int} (hl : ls.length ≤ 24) : ∀ (f : Nat) (s : Int × Int), IsS (lvO ls) ls.length s → s.2 - s.1 < f → calls (cfg ns) tab (k + f + 1) "stretches_within" [.tuple (il ls), prD s] = .ok (.list (pl (swL (lvO ls) f s))) []
  | 0, s, h, hf => by
    have := h.le
    omega
  | f + 1, s, h, hf => by
    have h0 := h.lo
    have h1 := h.le
    have h2 := h.hi
    have inn := inner_ok (ns := ns) (k := k + f) (ls := ls) (a := s.1) (b := s.2) h0 h1 h2 hl
    have nd := swL_nd (f + 1) h hf
    refine call_ret (k := k + (f + 1)) tb_stretches_within rfl rfl ?_
    have loop := forX_pl (C := cfg ns) (cs := calls (cfg ns) tab (k + (f + 1))) (i := 3) (b := SwB1) (ps := parL (lvO ls) s)
      (fun p => [some (.tuple (il ls)), some (prD s), some (.list (pl (s :: p.flatMap (swL (lvO ls) f)))), lastp none p]) fun p q r e => by
        have hq : q ∈ parL (lvO ls) s := by rw [e]; simp
        have i := par_in h1 hq
        have rec_ := sw_ok hl f q (par_isS h hq) (by omega)
        rw [show k + f + 1 = k + (f + 1) by omega] at rec_
        have len : (s :: p.flatMap (swL (lvO ls) f)).length + (swL (lvO ls) f q).length ≤ 1000000 := by
          have l1 := nd.2.2
          have e2 : swL (lvO ls) (f + 1) s = s :: (p ++ q :: r).flatMap (swL (lvO ls) f) := by rw [← e]; rfl
          rw [e2, List.flatMap_append, List.flatMap_cons] at l1
          simp only [List.length_cons, List.length_append] at l1 ⊢
          omega
        have len2 : (pl (s :: p.flatMap (swL (lvO ls) f))).length + (pl (swL (lvO ls) f q)).length ≤ 1000000 := by rw [pl_len, pl_len]; exact len
        have e3 : pl (s :: p.flatMap (swL (lvO ls) f)) ++ pl (swL (lvO ls) f q) = pl (s :: (p ++ [q]).flatMap (swL (lvO ls) f)) := by
          rw [pl_app]
          simp
        rw [lastp_snoc, ← e3]
        generalize pl (s :: p.flatMap (swL (lvO ls) f)) = A at len2
        simp [SwB1, rec_, lim, len2]
    have e0 : k + f + 1 = k + (f + 1) := by omega
    rw [e0] at inn
    have inn : calls (cfg ns) tab (k + (f + 1)) "inner_of" [.tuple (il ls), prD s] = .ok (.list (pl (parL (lvO ls) s))) [] := inn
    have e1 : pl (s :: ([] : List (Int × Int)).flatMap (swL (lvO ls) f)) = [prD s] := rfl
    rw [e1] at loop
    simp only [SwB1, lastp_nil] at loop
    simp [b_stretches_within, muE, muEs, lim, inn]
    rw [loop]
    simp
    exact Ru.ok rfl
theorem all_ok {ls : List Int} (hl : ls.length ≤ 24) : calls (cfg ns) tab (k + 27) "_all_stretches" [.tuple (il ls)] = .ok (.list (pl (SP ls))) [] := by
  refine call_ret (k := k + 26) tb__all_stretches rfl rfl ?_
  by_cases e : ls = []
  · subst e
    simp [b__all_stretches, lim, SP, pl]
    exact Ru.ok rfl
  · have hp := List.length_pos_iff.mpr e
    have e1 : (il ls).isEmpty = false := by
      cases ls with
      | nil => exact absurd rfl e
      | cons x r => rfl
    have wh : calls (cfg ns) tab (k + 26) "whole_of" [.tuple (il ls)] = .ok (prD (0, (ls.length : Int) - 1)) [] := by
      refine call_ret (k := k + 25) tb_whole_of rfl rfl ?_
      simp [b_whole_of, il_len, lim]
      exact Ru.ok rfl
    have sw := sw_ok (ns := ns) (k := k + (25 - ls.length)) hl ls.length (0, (ls.length : Int) - 1) (whole_isS (by omega)) (by show (ls.length : Int) - 1 - 0 < ls.length; omega)
    rw [show k + (25 - ls.length) + ls.length + 1 = k + 26 by omega] at sw
    have ne : swL (lvO ls) ls.length (0, (ls.length : Int) - 1) ≠ [] := by
      cases hn : ls.length with
      | zero => omega
      | succ m => simp [swL]
    have so := sort_pl ne
    have e2 : SP ls = (swL (lvO ls) ls.length (0, (ls.length : Int) - 1)).mergeSort leP := by
      unfold SP spL
      rw [if_neg e]
    rw [e2]
    simp [b__all_stretches, lim, e1, wh, sw, so, e]
    exact Ru.ok rfl
theorem ps_ok {ls : List Int} (hL : isLv (.tuple (il ls)) = true) (hl : ls.length ≤ 24) : calls (cfg ns) tab (k + 28) "page_stretches" [.tuple (il ls)] = .ok (.list (pl (SP ls))) [] := by
  have c1 := cl_all (ns := ns) (k := k + 25) (d := .tuple (il ls))
  rw [hL] at c1
  have c2 := all_ok (ns := ns) (k := k) hl
  refine call_ret (k := k + 27) tb_page_stretches rfl rfl ?_
  simp [b_page_stretches, c1, c2]
  exact Ru.ok rfl
theorem ps_bad {d : PyData} (h : isLv d = false) : calls (cfg ns) tab (k + 28) "page_stretches" [d] = .exc ⟨"InvalidLevels", none⟩ [] := by
  have c1 := cl_all (ns := ns) (k := k + 25) (d := d)
  rw [h] at c1
  rw [Sy.call_ok (k := k + 27) tb_page_stretches]
  simp [run1, b_page_stretches, c1]
def intB : PyData → Bool
  | .int _ => true
  | _ => false
/-- whether a value is a page stretch -/
def isPS (ls : List Int) : PyData → Bool
  | .tuple ds => ds.all intB && (pl (SP ls)).any fun z => PyData.eqv z (.tuple ds)
  | _ => false
theorem intB_il : ∀ {ds : List PyData}, ds.all intB = true → ∃ l : List Int, ds = il l
  | [], _ => ⟨[], rfl⟩
  | d :: ds, h => by
    rw [List.all_cons, Bool.and_eq_true] at h
    obtain ⟨l, rfl⟩ := intB_il h.2
    cases d with
    | int i => exact ⟨i :: l, rfl⟩
    | _ => exact absurd h.1 (by simp [intB])
theorem hs_ok {ls : List Int} {d : PyData} (hl : ls.length ≤ 24) (hd : ∀ ds, d = .tuple ds → ds.length ≤ 1000000) : calls (cfg ns) tab (k + 28) "_holds_stretch" [.tuple (il ls), d] = .ok (.bool (isPS ls d)) [] := by
  have c2 := all_ok (ns := ns) (k := k) hl
  refine call_ret (k := k + 27) tb__holds_stretch rfl rfl ?_
  cases d with
  | tuple ds =>
    have c1 := comp_ds (C := cfg ns) (cs := calls (cfg ns) tab (k + 27)) (i := 2) (it := It.seq (E.v 1)) (c := Eo.no) (g := E.bi (Bi.tyIs "int") (E.v 2)) (ds := ds) (p := fun _ => true) (f := fun d => .bool (intB d))
      (env := [some (.tuple (il ls)), some (.tuple ds), none]) (by simp [items]) (by simp) (hd ds rfl) (fun d hd => ⟨rfl, fun _ => by
        cases d <;> simp [tyD, intB]⟩)
    rw [all_true] at c1
    have b := bools_f (f := intB) ds
    by_cases q : ds.all intB = true
    · obtain ⟨l, rfl⟩ := intB_il q
      have c3 := Sy.in_sh (x := .tuple (il l)) (ds := pl (SP ls)) Sy.shp_ilt (shp_plL _)
      have e : isPS ls (.tuple (il l)) = ((pl (SP ls)).any fun z => PyData.eqv z (.tuple (il l))) := by
        show ((il l).all intB && _) = _
        rw [q, Bool.true_and]
      have q2 : ∀ x ∈ il l, intB x = true := List.all_eq_true.mp q
      simp [b__holds_stretch, tyD, c1, b, all_map, q, c2, c3, e]
      exact Ru.ok rfl
    · have q1 : ds.all intB = false := by simpa using q
      have e : isPS ls (.tuple ds) = false := by
        show (ds.all intB && _) = _
        rw [q1, Bool.false_and]
      simp [b__holds_stretch, tyD, c1, b, all_map, q1, e, -List.all_eq_true, -List.all_eq_false]
      exact Ru.ok rfl
  | _ =>
    simp [b__holds_stretch, tyD, isPS]
    exact Ru.ok rfl
theorem is_bad {d v : PyData} (h : isLv d = false) : calls (cfg ns) tab (k + 29) "inner_stretches" [d, v] = .exc ⟨"InvalidLevels", none⟩ [] := by
  have c1 := cl_all (ns := ns) (k := k + 26) (d := d)
  rw [h] at c1
  rw [Sy.call_ok (k := k + 28) tb_inner_stretches]
  simp [run1, b_inner_stretches, c1]
theorem is_wrong {ls : List Int} {v : PyData} (hL : isLv (.tuple (il ls)) = true) (hl : ls.length ≤ 24) (hd : ∀ ds, v = .tuple ds → ds.length ≤ 1000000) (h : isPS ls v = false) : calls (cfg ns) tab (k + 29) "inner_stretches" [.tuple (il ls), v] = .exc ⟨"InvalidStretch", none⟩ [] := by
  have c1 := cl_all (ns := ns) (k := k + 26) (d := .tuple (il ls))
  rw [hL] at c1
  have c2 := hs_ok (ns := ns) (k := k) hl hd
  rw [h] at c2
  rw [Sy.call_ok (k := k + 28) tb_inner_stretches]
  simp [run1, b_inner_stretches, c1, c2]
theorem isPS_pr {ls : List Int} {q : Int × Int} : isPS ls (prD q) = decide (q ∈ SP ls) := by
  rw [← any_pl]
  rfl
theorem is_ok {ls : List Int} {s : Int × Int} (hL : isLv (.tuple (il ls)) = true) (hl : ls.length ≤ 24) (h : s ∈ SP ls) : calls (cfg ns) tab (k + 29) "inner_stretches" [.tuple (il ls), prD s] = .ok (.list (pl (parL (lvO ls) s))) [] := by
  have c1 := cl_all (ns := ns) (k := k + 26) (d := .tuple (il ls))
  rw [hL] at c1
  have c2 := hs_ok (ns := ns) (k := k) (d := prD s) hl (fun ds e => by cases e; show 2 ≤ 1000000; omega)
  rw [isPS_pr, decide_eq_true h] at c2
  have hs := mem_SP.mp h
  have inn : calls (cfg ns) tab (k + 28) "inner_of" [.tuple (il ls), prD s] = .ok (.list (pl (parL (lvO ls) s))) [] := inner_ok (ns := ns) (k := k + 27) (ls := ls) (a := s.1) (b := s.2) hs.lo hs.le hs.hi hl
  refine call_ret (k := k + 28) tb_inner_stretches rfl rfl ?_
  simp [b_inner_stretches, c1, c2, inn]
  exact Ru.ok rfl
end
end Ma
set_option Elab.async false
set_option linter.all false
set_option maxRecDepth 100000
namespace Ma
open VF Pr PySem Sy Sg
/-! ### the law's stretches -/
def LsB3 : Ss := (Ss.cons (S.asg 6 false (E.bop false (E.bop true (E.cmp (COp.gt) (E.v 3) (E.int 0)) (E.cmp (COp.le) (E.idx (E.v 0) (E.bin (BOp.sub) (E.v 3) (E.int 1))) (E.v 2))) (E.bop true (E.cmp (COp.lt) (E.bin (BOp.add) (E.v 5) (E.int 1)) (E.bi (Bi.len) (E.v 0))) (E.cmp (COp.le) (E.idx (E.v 0) (E.bin (BOp.add) (E.v 5) (E.int 1))) (E.v 2))))) (Ss.cons (S.ifs (E.bop true (E.cmp (COp.le) (E.bi (Bi.maxl) (E.sl (E.v 0) (Eo.y (E.v 3)) (Eo.y (E.bin (BOp.add) (E.v 5) (E.int 1))))) (E.v 2)) (E.not (E.v 6))) (Ss.cons (S.app 1 (E.tup (Es.cons (E.v 3) (Es.cons (E.v 5) (Es.nil))))) (Ss.nil)) (Ss.nil)) (Ss.nil)))
def LsB2 : Ss := (Ss.cons (S.for (Tg.n 5) (It.rng2 (E.v 3) (E.bi (Bi.len) (E.v 0))) LsB3) (Ss.nil))
def LsB1 : Ss := (Ss.cons (S.for (Tg.n 3) (It.rng1 (E.bi (Bi.len) (E.v 0))) LsB2) (Ss.nil))
def lowB (lv : Int → Int) (n h f l : Int) : Bool := (decide (0 < f) && decide (lv (f - 1) ≤ h)) || (decide (l + 1 < n) && decide (lv (l + 1) ≤ h))
def rowF (lv : Int → Int) (n h f : Int) : List (Int × Int) := ((keysI f (n - 1)).filter fun l => decide (mxI lv f l ≤ h) && !lowB lv n h f l).map fun l => (f, l)
def foundL (lv : Int → Int) (n : Nat) : List (Int × Int) := (Sy.upto n).map (fun k => (k, k)) ++ (Sy.upto 5).flatMap fun h => (Sy.upto n).flatMap fun f => rowF lv n h f
theorem mem_upto {n : Nat} {k : Int} : k ∈ Sy.upto n ↔ 0 ≤ k ∧ k < n := by
  unfold Sy.upto
  rw [List.mem_map]
  constructor
  · rintro ⟨i, hi, rfl⟩
    rw [List.mem_range] at hi
    omega
  · rintro ⟨h1, h2⟩
    exact ⟨k.toNat, List.mem_range.mpr (by omega), by omega⟩
theorem row_mem {lv : Int → Int} {n h f : Int} {t : Int × Int} : t ∈ rowF lv n h f ↔ t.1 = f ∧ f ≤ t.2 ∧ t.2 < n ∧ mxI lv f t.2 ≤ h ∧ (0 < f → h < lv (f - 1)) ∧ (t.2 + 1 < n → h < lv (t.2 + 1)) := by
  unfold rowF lowB
  rw [List.mem_map]
  constructor
  · rintro ⟨l, hl, rfl⟩
    rw [List.mem_filter, mem_keysI] at hl
    obtain ⟨⟨a1, a2⟩, a3⟩ := hl
    simp only [Bool.and_eq_true, decide_eq_true_eq, Bool.not_eq_true', Bool.or_eq_false_iff, Bool.and_eq_false_iff, decide_eq_false_iff_not] at a3
    obtain ⟨b1, b2, b3⟩ := a3
    exact ⟨rfl, a1, (by show l < n; omega), b1, by omega, (by show l + 1 < n → h < lv (l + 1); omega)⟩
  · rintro ⟨rfl, a1, a2, a3, a4, a5⟩
    refine ⟨t.2, ?_, rfl⟩
    rw [List.mem_filter, mem_keysI]
    refine ⟨⟨a1, by omega⟩, ?_⟩
    simp only [Bool.and_eq_true, decide_eq_true_eq, Bool.not_eq_true', Bool.or_eq_false_iff, Bool.and_eq_false_iff, decide_eq_false_iff_not]
    omega
theorem found_mem {lv : Int → Int} {n : Nat} {t : Int × Int} (hlv : ∀ k : Int, 0 ≤ k → k < n → 0 ≤ lv k ∧ lv k ≤ 4) : t ∈ foundL lv n ↔ IsS lv n t := by
  unfold foundL
  rw [List.mem_append, List.mem_map, List.mem_flatMap]
  constructor
  · rintro (⟨k, hk, rfl⟩ | ⟨h, hh, ht⟩)
    · rw [mem_upto] at hk
      exact ⟨hk.1, Int.le_refl _, hk.2, .inl rfl⟩
    · obtain ⟨f, hf, ht⟩ := List.mem_flatMap.mp ht
      rw [mem_upto] at hf
      obtain ⟨a1, a2, a3, a4, a5, a6⟩ := row_mem.mp ht
      refine ⟨by omega, by omega, a3, .inr ⟨h, fun x x1 x2 => ?_, fun z => ?_, a6⟩⟩
      · have := mxI_ge (lv := lv) (a := f) (b := t.2) (x := x) (by omega) x2
        omega
      · rw [a1] at z ⊢
        exact a5 z
  · intro h
    rcases h.k with e | ⟨m, u, b1, b2⟩
    · exact .inl ⟨t.1, mem_upto.mpr ⟨h.lo, by have := h.hi; have := h.le; omega⟩, Prod.ext rfl e⟩
    · have hle := h.le
      have hlo := h.lo
      have hhi := h.hi
      obtain ⟨y, y1, y2, y3⟩ := (mxI_at (lv := lv) hle).2
      have hy := hlv y (by omega) (by omega)
      have hm := u y y1 y2
      refine .inr ⟨mxI lv t.1 t.2, mem_upto.mpr (by omega), List.mem_flatMap.mpr ⟨t.1, mem_upto.mpr (by omega), row_mem.mpr ⟨rfl, hle, hhi, Int.le_refl _, fun z => ?_, fun z => ?_⟩⟩⟩
      · have := b1 z; omega
      · have := b2 z; omega
theorem row_len {lv : Int → Int} {n : Nat} {h f : Int} (hf : 0 ≤ f) : (rowF lv n h f).length ≤ n := by
  unfold rowF
  rw [List.length_map]
  refine Nat.le_trans (List.length_filter_le _ _) ?_
  unfold keysI
  rw [List.length_map, List.length_range]
  omega
theorem flat_len {α β : Type} {F : α → List β} {m : Nat} : ∀ {l : List α}, (∀ x ∈ l, (F x).length ≤ m) → (l.flatMap F).length ≤ l.length * m
  | [], _ => by simp
  | x :: l, h => by
    have h1 := h x List.mem_cons_self
    have h2 := flat_len (l := l) fun y hy => h y (List.mem_cons_of_mem _ hy)
    rw [List.flatMap_cons, List.length_append, List.length_cons, Nat.succ_mul]
    omega
section
variable {ns : List Int} {k : Nat}
theorem ls_in {C : Cfg} {cs : Calls} {ls : List Int} {h f : Int} {acc : List (Int × Int)} {x4 x5 x6 : Option PyData} (hl : ls.length ≤ 24) (hf : 0 ≤ f) (hfn : f < ls.length) (ha : acc.length ≤ 900000) :
    ∃ y5 y6, forX C cs (.n 5) LsB3 (il (keysI f ((ls.length : Int) - 1))) [some (.tuple (il ls)), some (.list (pl acc)), some (.int h), some (.int f), x4, x5, x6] = .ok .nx [some (.tuple (il ls)), some (.list (pl (acc ++ rowF (lvO ls) ls.length h f))), some (.int h), some (.int f), x4, y5, y6] := by
  have key := forX_st (C := C) (cs := cs) (i := 5) (b := LsB3) (ds := keysI f ((ls.length : Int) - 1)) (fun p => [some (.tuple (il ls)), some (.list (pl (acc ++ (p.filter fun l => decide (mxI (lvO ls) f l ≤ h) && !lowB (lvO ls) ls.length h f l).map fun l => (f, l)))), some (.int h), some (.int f), x4, lastq x5 p, lastf x6 (fun l => .bool (lowB (lvO ls) ls.length h f l)) p]) (fun p => by simp) ?step
  · simp only [List.filter_nil, List.map_nil, List.append_nil, lastq_nil, lastf_nil] at key
    exact ⟨_, _, key⟩
  intro p d s e
  have hd : f ≤ d ∧ d ≤ (ls.length : Int) - 1 := mem_keysI.mp (by rw [e]; simp)
  have hlen : p.length ≤ 24 := by
    have h1 : (keysI f ((ls.length : Int) - 1)).length = (((ls.length : Int) - 1) + 1 - f).toNat := by simp [keysI]
    rw [e, List.length_append] at h1
    omega
  rw [lastq_snoc, lastf_snoc, List.filter_append, List.map_append, ← List.append_assoc]
  have hB : (acc ++ (p.filter fun l => decide (mxI (lvO ls) f l ≤ h) && !lowB (lvO ls) ls.length h f l).map fun l => (f, l)).length < 1000000 := by
    rw [List.length_append, List.length_map]
    have := List.length_filter_le (fun l => decide (mxI (lvO ls) f l ≤ h) && !lowB (lvO ls) ls.length h f l) p
    omega
  generalize acc ++ (p.filter fun l => decide (mxI (lvO ls) f l ≤ h) && !lowB (lvO ls) ls.length h f l).map (fun l => (f, l)) = A at hB
  have m1 := (mxI_at (lv := lvO ls) hd.1).1
  have m2 : biD .maxl (.tuple (il ((keysI f d).map (lvO ls)))) = some (.int (mxI (lvO ls) f d)) := by
    show (match intsOf (il ((keysI f d).map (lvO ls))) with | some ns => (maxI ns).map PyData.int | none => _) = _
    rw [ints_il]
    show (maxI _).map PyData.int = _
    rw [m1]
    rfl
  have cu := cut_keys (ls := ls) (a := f) (b := d) hf hd.1 (by omega)
  have low : ∀ env : VF.Env, getV env 0 = some (.tuple (il ls)) → getV env 2 = some (.int h) → getV env 3 = some (.int f) → getV env 5 = some (.int d) →
      ev C cs (E.bop false (E.bop true (E.cmp (COp.gt) (E.v 3) (E.int 0)) (E.cmp (COp.le) (E.idx (E.v 0) (E.bin (BOp.sub) (E.v 3) (E.int 1))) (E.v 2))) (E.bop true (E.cmp (COp.lt) (E.bin (BOp.add) (E.v 5) (E.int 1)) (E.bi (Bi.len) (E.v 0))) (E.cmp (COp.le) (E.idx (E.v 0) (E.bin (BOp.add) (E.v 5) (E.int 1))) (E.v 2)))) env = .ok (.bool (lowB (lvO ls) ls.length h f d)) env := fun env e0 e2 e3 e5 => by
    unfold lowB
    by_cases c1 : 0 < f
    · have a1 := at_lv (ls := ls) (k := f - 1) (by omega) (by omega)
      by_cases c2 : lvO ls (f - 1) ≤ h
      · simp [e0, e2, e3, e5, c1, a1, c2]
      · by_cases c3 : d + 1 < (ls.length : Int)
        · have a2 := at_lv (ls := ls) (k := d + 1) (by omega) c3
          simp [e0, e2, e3, e5, c1, a1, c2, c3, a2, il_len]
        · simp [e0, e2, e3, e5, c1, a1, c2, c3, il_len]
    · by_cases c3 : d + 1 < (ls.length : Int)
      · have a2 := at_lv (ls := ls) (k := d + 1) (by omega) c3
        simp [e0, e2, e3, e5, c1, c3, a2, il_len]
      · simp [e0, e2, e3, e5, c1, c3, il_len]
  have low' := low [some (.tuple (il ls)), some (.list (pl A)), some (.int h), some (.int f), x4, some (.int d), lastf x6 (fun l => .bool (lowB (lvO ls) ls.length h f l)) p] (by simp) (by simp) (by simp) (by simp)
  rw [show setV [some (.tuple (il ls)), some (.list (pl A)), some (.int h), some (.int f), x4, lastq x5 p, lastf x6 (fun l => .bool (lowB (lvO ls) ls.length h f l)) p] 5 (.int d) = [some (.tuple (il ls)), some (.list (pl A)), some (.int h), some (.int f), x4, some (.int d), lastf x6 (fun l => .bool (lowB (lvO ls) ls.length h f l)) p] from rfl]
  unfold LsB3
  rw [Sy.exs_cons, Sy.ex_asg, low', Sy.bind_ok, Sy.bind_ok]
  have hB2 : (pl A).length < 1000000 := by rw [pl_len]; exact hB
  by_cases c5 : mxI (lvO ls) f d ≤ h
  · by_cases c6 : lowB (lvO ls) ls.length h f d = true
    · simp [optI, slD, cu, m2, c5, c6]
    · have c6' : lowB (lvO ls) ls.length h f d = false := by simpa using c6
      simp [optI, slD, cu, m2, c5, c6', lim, pl_len, hB]
      simp [pl, prD]
  · simp [optI, slD, cu, m2, c5]
def MidI (L H : PyData) (acc : List (Int × Int)) (x4 : Option PyData) (F : Int → List (Int × Int)) (l : List Int) (i : Nat) (e : VF.Env) : Prop := ∃ x3 x5 x6, e = [some L, some (.list (pl (acc ++ (l.take i).flatMap F))), some H, x3, x4, x5, x6]
theorem ls_mid {C : Cfg} {cs : Calls} {ls : List Int} {h : Int} {acc : List (Int × Int)} {x3 x4 x5 x6 : Option PyData} (hl : ls.length ≤ 24) (ha : acc.length ≤ 800000) :
    ∃ y3 y5 y6, exs C cs LsB1 [some (.tuple (il ls)), some (.list (pl acc)), some (.int h), x3, x4, x5, x6] = .ok .nx [some (.tuple (il ls)), some (.list (pl (acc ++ (Sy.upto ls.length).flatMap fun f => rowF (lvO ls) ls.length h f))), some (.int h), y3, x4, y5, y6] := by
  have loop := for_inv (C := C) (cs := cs) (tg := .n 3) (b := LsB2) (ds := il (Sy.upto ls.length)) (env := [some (.tuple (il ls)), some (.list (pl acc)), some (.int h), x3, x4, x5, x6])
    (MidI (.tuple (il ls)) (.int h) acc x4 (fun f => rowF (lvO ls) ls.length h f) (Sy.upto ls.length)) ⟨x3, x5, x6, by simp⟩ fun i d e hd hI => by
      obtain ⟨x3, x5, x6, rfl⟩ := hI
      unfold il at hd
      rw [List.getElem?_map] at hd
      obtain ⟨y, hy, rfl⟩ := Option.map_eq_some_iff.mp hd
      have hm := mem_upto.mp (List.mem_of_getElem? hy)
      refine ⟨_, rfl, ?_⟩
      have hlen : (acc ++ ((Sy.upto ls.length).take i).flatMap fun f => rowF (lvO ls) ls.length h f).length ≤ 900000 := by
        have := flat_len (F := fun f => rowF (lvO ls) ls.length h f) (m := ls.length) (l := (Sy.upto ls.length).take i) fun x hx => row_len (mem_upto.mp (List.mem_of_mem_take hx)).1
        have l2 : ((Sy.upto ls.length).take i).length ≤ 24 := by
          rw [List.length_take, Sy.upto_len]
          omega
        have l3 : ((Sy.upto ls.length).take i).length * ls.length ≤ 24 * 24 := Nat.mul_le_mul l2 hl
        rw [List.length_append]
        omega
      obtain ⟨y5, y6, h1⟩ := ls_in (C := C) (cs := cs) (h := h) (f := y) (acc := acc ++ ((Sy.upto ls.length).take i).flatMap fun f => rowF (lvO ls) ls.length h f) (x4 := x4) (x5 := x5) (x6 := x6) hl hm.1 hm.2 hlen
      have r1 : rngOk y (ls.length : Int) = true := by unfold rngOk; exact decide_eq_true (by omega)
      have r2 : rngD y (ls.length : Int) = il (keysI y ((ls.length : Int) - 1)) := by
        have := rng_keysI y ((ls.length : Int) - 1)
        rwa [Int.sub_add_cancel] at this
      have h2 : exs C cs LsB2 (setV [some (.tuple (il ls)), some (.list (pl (acc ++ ((Sy.upto ls.length).take i).flatMap fun f => rowF (lvO ls) ls.length h f))), some (.int h), x3, x4, x5, x6] 3 (.int y)) = .ok .nx [some (.tuple (il ls)), some (.list (pl (acc ++ ((Sy.upto ls.length).take (i + 1)).flatMap fun f => rowF (lvO ls) ls.length h f))), some (.int h), some (.int y), x4, y5, y6] := by
        rw [take_snoc hy, flat_snoc, ← List.append_assoc]
        unfold LsB2
        simp [il_len, r1, r2]
        rw [List.append_assoc] at h1
        rw [h1]
        rfl
      rw [h2]
      exact Ru.ok ⟨rfl, _, _, _, rfl⟩
  obtain ⟨fl, e, l1, rfl, x3, x5, x6, rfl⟩ := loop
  rw [Sy.il_len, Sy.upto_len, List.take_of_length_le (by rw [Sy.upto_len]; exact Nat.le_refl _)] at l1
  refine ⟨x3, x5, x6, ?_⟩
  have r1 : rngOk 0 (ls.length : Int) = true := by unfold rngOk; exact decide_eq_true (by omega)
  unfold LsB1
  simp [il_len, r1]
  rw [l1]
  rfl
def OutI (L : PyData) (acc : List (Int × Int)) (x4 : Option PyData) (F : Int → List (Int × Int)) (l : List Int) (i : Nat) (e : VF.Env) : Prop := ∃ x2 x3 x5 x6, e = [some L, some (.list (pl (acc ++ (l.take i).flatMap F))), x2, x3, x4, x5, x6]
theorem ded_len {ls : List Int} (hl : ls.length ≤ 24) (hlv : ∀ k : Int, 0 ≤ k → k < (ls.length : Int) → 0 ≤ lvO ls k ∧ lvO ls k ≤ 4) : (dedP (foundL (lvO ls) ls.length)).length ≤ 47 := by
  have h1 : ∀ x ∈ dedP (foundL (lvO ls) ls.length), x ∈ SP ls := fun x hx => mem_SP.mpr ((found_mem hlv).mp (mem_dedP.mp hx))
  have := nd_len (dedP_nd (foundL (lvO ls) ls.length)) h1
  have := SP_len hl
  omega
theorem found_sp {ls : List Int} (hlv : ∀ k : Int, 0 ≤ k → k < (ls.length : Int) → 0 ≤ lvO ls k ∧ lvO ls k ≤ 4) : (dedP (foundL (lvO ls) ls.length)).mergeSort leP = SP ls :=
  rise_eq (sortP_rise (dedP_nd _)) SP_rise fun t => by rw [mem_sortP, found_mem hlv, mem_SP]
theorem lst_ok {ls : List Int} (hl : ls.length ≤ 24) (hlv : ∀ k : Int, 0 ≤ k → k < (ls.length : Int) → 0 ≤ lvO ls k ∧ lvO ls k ≤ 4) : calls (cfg ns) tab (k + 1) "_law_stretches" [.tuple (il ls)] = .ok (.list (pl (SP ls))) [] := by
  have r1 : rngOk 0 (ls.length : Int) = true := by unfold rngOk; exact decide_eq_true (by omega)
  have c1 := comp_il (C := cfg ns) (cs := calls (cfg ns) tab k) (i := 4) (it := It.rng1 (E.bi (Bi.len) (E.v 0))) (c := Eo.no) (g := E.tup (Es.cons (E.v 4) (Es.cons (E.v 4) (Es.nil)))) (ks := Sy.upto ls.length) (p := fun _ => true) (f := fun y => prD (y, y))
    (env := [some (.tuple (il ls)), none, none, none, none, none, none]) (by simp [il_len, r1]) (by simp) (by rw [Sy.upto_len]; omega) (fun y hy => ⟨rfl, fun _ => by simp [lim, prD]⟩)
  rw [all_true] at c1
  have e1 : (Sy.upto ls.length).map (fun y => prD (y, y)) = pl ((Sy.upto ls.length).map fun y => (y, y)) := by simp [pl]
  rw [e1] at c1
  have loop := for_inv (C := cfg ns) (cs := calls (cfg ns) tab k) (tg := .n 2) (b := LsB1) (ds := il (Sy.upto 5)) (env := [some (.tuple (il ls)), some (.list (pl ((Sy.upto ls.length).map fun y => (y, y)))), none, none, none, none, none])
    (OutI (.tuple (il ls)) ((Sy.upto ls.length).map fun y => (y, y)) none (fun h => (Sy.upto ls.length).flatMap fun f => rowF (lvO ls) ls.length h f) (Sy.upto 5)) ⟨none, none, none, none, by simp⟩ fun i d e hd hI => by
      obtain ⟨x2, x3, x5, x6, rfl⟩ := hI
      unfold il at hd
      rw [List.getElem?_map] at hd
      obtain ⟨y, hy, rfl⟩ := Option.map_eq_some_iff.mp hd
      refine ⟨_, rfl, ?_⟩
      have hlen : ((Sy.upto ls.length).map (fun y => (y, y)) ++ ((Sy.upto 5).take i).flatMap fun h => (Sy.upto ls.length).flatMap fun f => rowF (lvO ls) ls.length h f).length ≤ 800000 := by
        have := flat_len (F := fun h => (Sy.upto ls.length).flatMap fun f => rowF (lvO ls) ls.length h f) (m := 24 * 24) (l := (Sy.upto 5).take i) fun h hh => by
          have := flat_len (F := fun f => rowF (lvO ls) ls.length h f) (m := ls.length) (l := Sy.upto ls.length) fun x hx => row_len (mem_upto.mp hx).1
          rw [Sy.upto_len] at this
          exact Nat.le_trans this (Nat.mul_le_mul hl hl)
        have l2 : ((Sy.upto 5).take i).length ≤ 5 := by
          rw [List.length_take, Sy.upto_len]
          omega
        have l3 : ((Sy.upto 5).take i).length * (24 * 24) ≤ 5 * (24 * 24) := Nat.mul_le_mul_right _ l2
        rw [List.length_append, List.length_map, Sy.upto_len]
        omega
      obtain ⟨y3, y5, y6, h1⟩ := ls_mid (C := cfg ns) (cs := calls (cfg ns) tab k) (h := y) (x3 := x3) (x4 := none) (x5 := x5) (x6 := x6) hl hlen
      show Ru (exs (cfg ns) (calls (cfg ns) tab k) LsB1 [some (.tuple (il ls)), some (.list (pl _)), some (.int y), x3, none, x5, x6]) _
      rw [h1]
      refine Ru.ok ⟨rfl, some (.int y), y3, y5, y6, ?_⟩
      rw [take_snoc hy, flat_snoc, ← List.append_assoc]
  obtain ⟨fl, e, l1, rfl, x2, x3, x5, x6, rfl⟩ := loop
  rw [Sy.il_len, Sy.upto_len, List.take_of_length_le (by rw [Sy.upto_len]; exact Nat.le_refl _)] at l1
  have fe : (Sy.upto ls.length).map (fun y => (y, y)) ++ (Sy.upto 5).flatMap (fun h => (Sy.upto ls.length).flatMap fun f => rowF (lvO ls) ls.length h f) = foundL (lvO ls) ls.length := rfl
  rw [fe] at l1
  have sm : smallP (foundL (lvO ls) ls.length) = true := by
    unfold smallP
    rw [List.all_eq_true]
    intro x hx
    have h := (found_mem hlv).mp hx
    have h1 := h.lo
    have h2 := h.le
    have h3 := h.hi
    exact decide_eq_true (by omega)
  have dl := ded_len hl hlv
  have ss : sortsetD (.list (pl (foundL (lvO ls) ls.length))) = some (.list (pl (SP ls))) := by
    unfold sortsetD
    simp only [pairs_pl, Option.bind_some]
    rw [sm, decide_eq_true (by omega), Bool.and_self, if_pos rfl, found_sp hlv]
    rfl
  have r5 : rngOk 0 5 = true := by decide
  have r6 : rngD 0 5 = il (Sy.upto 5) := rfl
  refine call_ret (k := k) tb__law_stretches rfl rfl ?_
  simp only [LsB1, LsB2, LsB3] at l1
  simp [b__law_stretches, c1, muE, muEs, muI, muO, tgI, r5, r6]
  rw [l1]
  simp [ss]
  exact Ru.ok rfl
end
end Ma
set_option Elab.async false
set_option linter.all false
set_option maxRecDepth 100000
namespace Ma
open VF Pr PySem Sy Sg
/-! ### the same, part by part -/
theorem eq_nn : cmpD .eq (.list []) (.list []) = some true := rfl
theorem bi_isT {d : PyData} {ts : List String} {b : Bool} : biD (.isT ts b) d = some (.bool (ts.any (isT1 d))) := rfl
section
variable {ns : List Int} {k : Nat}
theorem same_int {a : Int} : calls (cfg ns) tab (k + 1) "_law_same" [.int a, .int a] = .ok (.bool true) [] := by
  refine call_ret (k := k) tb__law_same rfl rfl ?_
  simp [b__law_same, isT1, tyD, bi_isT, isC]
  exact Ru.ok rfl
theorem same_seq {ds : List PyData} (hl : ds.length ≤ 1000000) (h : ∀ d ∈ ds, calls (cfg ns) tab k "_law_same" [d, d] = .ok (.bool true) []) :
    calls (cfg ns) tab (k + 1) "_law_same" [.list ds, .list ds] = .ok (.bool true) [] ∧ calls (cfg ns) tab (k + 1) "_law_same" [.tuple ds, .tuple ds] = .ok (.bool true) [] := by
  have r1 : rngOk 0 (ds.length : Int) = true := by unfold rngOk; exact decide_eq_true (by omega)
  have cc : ∀ X : PyData, X = .list ds ∨ X = .tuple ds → ev (cfg ns) (calls (cfg ns) tab k) (E.comp (Tg.n 2) [2] (It.rng1 (E.bi (Bi.len) (E.v 1))) (Eo.y (E.not (E.call "_law_same" [] (Es.cons (E.idx (E.v 0) (E.v 2)) (Es.cons (E.idx (E.v 1) (E.v 2)) (Es.nil)))))) (E.v 2)) [some X, some X, none] = .ok (.list (il ((Sy.upto ds.length).filter fun _ => false))) [some X, some X, none] := fun X hX => by
    have := comp_ii (C := cfg ns) (cs := calls (cfg ns) tab k) (i := 2) (it := It.rng1 (E.bi (Bi.len) (E.v 1))) (c := Eo.y (E.not (E.call "_law_same" [] (Es.cons (E.idx (E.v 0) (E.v 2)) (Es.cons (E.idx (E.v 1) (E.v 2)) (Es.nil)))))) (g := E.v 2) (ks := Sy.upto ds.length) (p := fun _ => false) (f := fun y => y)
      (env := [some X, some X, none]) (by rcases hX with rfl | rfl <;> simp [r1]) (by simp) (by rw [Sy.upto_len]; exact hl) (fun y hy => by
        obtain ⟨y1, y2⟩ := mem_upto.mp hy
        obtain ⟨i, rfl⟩ : ∃ i : Nat, y = i := ⟨y.toNat, by omega⟩
        have hi : i < ds.length := by omega
        have hat := Sy.at_nat (ds := ds) hi
        have hc := h ds[i] (List.getElem_mem hi)
        refine ⟨?_, fun z => by cases z⟩
        rcases hX with rfl | rfl <;> simp [hat, hc])
    rw [this, List.map_id']
  have e0 : il ((Sy.upto ds.length).filter fun _ => false) = [] := by
    rw [List.filter_eq_nil_iff.mpr (by simp)]
    rfl
  rw [e0] at cc
  constructor
  · have := cc _ (.inl rfl)
    refine call_ret (k := k) tb__law_same rfl rfl ?_
    simp [b__law_same, isT1, tyD, bi_isT, this, lim, eq_nn]
    exact Ru.ok rfl
  · have := cc _ (.inr rfl)
    refine call_ret (k := k) tb__law_same rfl rfl ?_
    simp [b__law_same, isT1, tyD, bi_isT, this, lim, eq_nn]
    exact Ru.ok rfl
theorem same_pr {q : Int × Int} : calls (cfg ns) tab (k + 2) "_law_same" [prD q, prD q] = .ok (.bool true) [] :=
  (same_seq (k := k + 1) (ds := [.int q.1, .int q.2]) (by simp) fun d hd => by
    simp only [List.mem_cons, List.not_mem_nil, or_false] at hd
    rcases hd with rfl | rfl
    · exact same_int
    · exact same_int).2
theorem same_pl {ps : List (Int × Int)} (hl : ps.length ≤ 1000000) : calls (cfg ns) tab (k + 3) "_law_same" [.list (pl ps), .list (pl ps)] = .ok (.bool true) [] :=
  (same_seq (k := k + 2) (ds := pl ps) (by rw [pl_len]; exact hl) fun d hd => by
    obtain ⟨q, _, rfl⟩ := List.mem_map.mp hd
    exact same_pr).1
theorem same_2 {ps : List (Int × Int)} (hl : ps.length ≤ 1000000) : calls (cfg ns) tab (k + 4) "_law_same" [.list [.list (pl ps), .list (pl ps)], .list [.list (pl ps), .list (pl ps)]] = .ok (.bool true) [] :=
  (same_seq (k := k + 3) (ds := [.list (pl ps), .list (pl ps)]) (by simp) fun d hd => by
    simp only [List.mem_cons, List.not_mem_nil, or_false, or_self] at hd
    rw [hd]
    exact same_pl hl).1
/-! ### the inner ones -/
def LnB1 : Ss := (Ss.cons (S.ifs (E.cmp (COp.eq) (E.comp (Tg.n 5) [5] (It.seq (E.v 2)) (Eo.y (E.bop true (E.cmp (COp.ne) (E.v 5) (E.v 4)) (E.bop true (E.cmp (COp.le) (E.idx (E.v 5) (E.int 0)) (E.idx (E.v 4) (E.int 0))) (E.cmp (COp.le) (E.idx (E.v 4) (E.int 1)) (E.idx (E.v 5) (E.int 1)))))) (E.v 5)) (E.lst (Es.nil))) (Ss.cons (S.app 3 (E.v 4)) (Ss.nil)) (Ss.nil)) (Ss.nil))
/-- a comprehension over pairs with a condition -/
theorem comp_plc {C : Cfg} {cs : Calls} {i : Nat} {it : VF.It} {c : Eo} {g : E} {ps : List (Int × Int)} {p : Int × Int → Bool} {env : VF.Env} (hit : evIt C cs it env = .ok (pl ps) env) (hi : i < env.length) (hl : ps.length ≤ 1000000)
    (h : ∀ q ∈ ps, evC C cs c (setV env i (prD q)) = .ok (p q) (setV env i (prD q)) ∧ (p q = true → ev C cs g (setV env i (prD q)) = .ok (prD q) (setV env i (prD q)))) : ev C cs (.comp (.n i) [i] it c g) env = .ok (.list (pl (ps.filter p))) env := by
  rw [comp_ds (ds := pl ps) (p := fun d => match d with | .tuple [.int a, .int b] => p (a, b) | _ => false) (f := fun d => d) hit hi (by rw [pl_len]; exact hl) fun d hd => by
    obtain ⟨q, hq, rfl⟩ := List.mem_map.mp hd
    exact h q hq]
  have e : ((pl ps).filter (fun d => match d with | .tuple [.int a, .int b] => p (a, b) | _ => false)).map (fun d => d) = pl (ps.filter p) := by
    rw [List.map_id']
    unfold pl
    rw [List.filter_map]
    rfl
  rw [e]
theorem eq_plnil {ps : List (Int × Int)} : cmpD .eq (.list (pl ps)) (.list []) = some ps.isEmpty := by
  show cmpD .eq (.list (pl ps)) (.list (pl [])) = _
  rw [Sy.eq_sh (shp_plL ps) (shp_plL [])]
  cases ps <;> rfl
theorem ne_plnil {ps : List (Int × Int)} : cmpD .ne (.list (pl ps)) (.list []) = some (!ps.isEmpty) := by
  show cmpD .ne (.list (pl ps)) (.list (pl [])) = _
  rw [Sy.ne_sh (shp_plL ps) (shp_plL [])]
  cases ps <;> rfl
theorem inn_ok {S : List (Int × Int)} {s : Int × Int} (hS : S.length ≤ 1000) : calls (cfg ns) tab (k + 1) "_law_inner" [.list (pl S), prD s] = .ok (.list (pl (innL S s))) [] := by
  have c1 := comp_plc (C := cfg ns) (cs := calls (cfg ns) tab k) (i := 4) (it := It.seq (E.v 0)) (c := Eo.y (E.bop true (E.cmp (COp.ne) (E.v 4) (E.v 1)) (E.bop true (E.cmp (COp.le) (E.idx (E.v 1) (E.int 0)) (E.idx (E.v 4) (E.int 0))) (E.cmp (COp.le) (E.idx (E.v 4) (E.int 1)) (E.idx (E.v 1) (E.int 1)))))) (g := E.v 4) (ps := S) (p := inB s)
    (env := [some (.list (pl S)), some (prD s), none, none, none, none]) (by simp) (by simp) (by omega) (fun q hq => ⟨by
      obtain ⟨a, b⟩ := q
      obtain ⟨c, d⟩ := s
      have n := ne_pr (p := (a, b)) (q := (c, d))
      simp only [prD] at n
      unfold inB
      by_cases z : (a, b) = (c, d)
      · rw [decide_eq_true z] at n
        simp [prD, n, z]
      · rw [decide_eq_false z] at n
        by_cases z2 : c ≤ a <;> simp [prD, n, z2, z], fun _ => by simp⟩)
  have hI : (inL S s).length ≤ 1000 := Nat.le_trans (List.length_filter_le _ _) hS
  have c2 := forX_pl (C := cfg ns) (cs := calls (cfg ns) tab k) (i := 4) (b := LnB1) (ps := inL S s)
    (fun p => [some (.list (pl S)), some (prD s), some (.list (pl (inL S s))), some (.list (pl (p.filter fun one => ((inL S s).filter (upB one)).isEmpty))), lastp none p, none]) fun p q r e => by
      have c3 := comp_plc (C := cfg ns) (cs := calls (cfg ns) tab k) (i := 5) (it := It.seq (E.v 2)) (c := Eo.y (E.bop true (E.cmp (COp.ne) (E.v 5) (E.v 4)) (E.bop true (E.cmp (COp.le) (E.idx (E.v 5) (E.int 0)) (E.idx (E.v 4) (E.int 0))) (E.cmp (COp.le) (E.idx (E.v 4) (E.int 1)) (E.idx (E.v 5) (E.int 1)))))) (g := E.v 5) (ps := inL S s) (p := upB q)
        (env := [some (.list (pl S)), some (prD s), some (.list (pl (inL S s))), some (.list (pl (p.filter fun one => ((inL S s).filter (upB one)).isEmpty))), some (prD q), none]) (by simp) (by simp) (by omega) (fun o ho => ⟨by
          obtain ⟨a, b⟩ := o
          obtain ⟨c, d⟩ := q
          have n := ne_pr (p := (a, b)) (q := (c, d))
          simp only [prD] at n
          unfold upB
          by_cases z : (a, b) = (c, d)
          · rw [decide_eq_true z] at n
            simp [prD, n, z]
          · rw [decide_eq_false z] at n
            by_cases z2 : a ≤ c <;> simp [prD, n, z2, z], fun _ => by simp⟩)
      have hp : p.length ≤ 1000 := by
        have := congrArg List.length e
        rw [List.length_append] at this
        omega
      have hpl : (p.filter fun one => ((inL S s).filter (upB one)).isEmpty).length < 1000000 := by
        have := List.length_filter_le (fun one => ((inL S s).filter (upB one)).isEmpty) p
        omega
      rw [lastp_snoc, List.filter_append, ← pl_app]
      show exs _ _ LnB1 [some (.list (pl S)), some (prD s), some (.list (pl (inL S s))), some (.list (pl (p.filter fun one => ((inL S s).filter (upB one)).isEmpty))), some (prD q), none] = _
      generalize hA : (p.filter fun one => ((inL S s).filter (upB one)).isEmpty) = A at c3 hpl
      by_cases em : ((inL S s).filter (upB q)).isEmpty = true
      · have e9 : pl ([q].filter fun one => ((inL S s).filter (upB one)).isEmpty) = [prD q] := by
          rw [List.filter_cons_of_pos (p := fun one => ((inL S s).filter (upB one)).isEmpty) em]
          rfl
        rw [e9]
        have hpl2 : (pl A).length < 1000000 := by rw [pl_len]; exact hpl
        simp [LnB1, c3, lim, eq_plnil, em, hpl2, -List.isEmpty_iff]
      · have em' : ((inL S s).filter (upB q)).isEmpty = false := by simpa using em
        have e9 : pl ([q].filter fun one => ((inL S s).filter (upB one)).isEmpty) = [] := by
          rw [List.filter_cons_of_neg (p := fun one => ((inL S s).filter (upB one)).isEmpty) em]
          rfl
        rw [e9, List.append_nil]
        simp [LnB1, c3, lim, eq_plnil, em', -List.isEmpty_iff, -List.isEmpty_eq_false_iff]
  refine call_ret (k := k) tb__law_inner rfl rfl ?_
  simp only [LnB1, List.filter_nil, lastp_nil] at c2
  have e8 : pl ([] : List (Int × Int)) = [] := rfl
  rw [e8] at c2
  have e7 : S.filter (inB s) = inL S s := rfl
  rw [e7] at c1
  simp [b__law_inner, c1, muE, muEs]
  rw [c2]
  simp
  exact Ru.ok rfl
/-! ### what is told -/
theorem told_lev {i : Int} {d v : PyData} (hi : i = 0 ∨ i = 1) (h : isLv d = false) : calls (cfg ns) tab (k + 30) "_law_told" [.int i, d, v] = .ok (.str "levels") [] := by
  have p1 := ps_bad (ns := ns) (k := k + 1) h
  have p2 := is_bad (ns := ns) (k := k) (v := v) h
  refine call_ret (k := k + 29) tb__law_told rfl rfl ?_
  rcases hi with rfl | rfl
  · simp [b__law_told, p1]
    exact Ru.ok rfl
  · simp [b__law_told, p2]
    exact Ru.ok rfl
theorem told_0 {ls : List Int} {v : PyData} (hL : isLv (.tuple (il ls)) = true) (hl : ls.length ≤ 24) : calls (cfg ns) tab (k + 30) "_law_told" [.int 0, .tuple (il ls), v] = .ok (.str "none") [] := by
  have p1 := ps_ok (ns := ns) (k := k + 1) hL hl
  refine call_ret (k := k + 29) tb__law_told rfl rfl ?_
  simp [b__law_told, p1]
  exact Ru.ok rfl
theorem told_1 {ls : List Int} {s : Int × Int} (hL : isLv (.tuple (il ls)) = true) (hl : ls.length ≤ 24) (h : s ∈ SP ls) : calls (cfg ns) tab (k + 30) "_law_told" [.int 1, .tuple (il ls), prD s] = .ok (.str "none") [] := by
  have p1 := is_ok (ns := ns) (k := k) hL hl h
  refine call_ret (k := k + 29) tb__law_told rfl rfl ?_
  simp [b__law_told, p1]
  exact Ru.ok rfl
theorem told_w {ls : List Int} {v : PyData} (hL : isLv (.tuple (il ls)) = true) (hl : ls.length ≤ 24) (hd : ∀ ds, v = .tuple ds → ds.length ≤ 1000000) (h : isPS ls v = false) : calls (cfg ns) tab (k + 30) "_law_told" [.int 1, .tuple (il ls), v] = .ok (.str "stretch") [] := by
  have p1 := is_wrong (ns := ns) (k := k) hL hl hd h
  refine call_ret (k := k + 29) tb__law_told rfl rfl ?_
  simp [b__law_told, p1]
  exact Ru.ok rfl
end
end Ma
set_option Elab.async false
set_option linter.all false
set_option maxRecDepth 100000
namespace Ma
open VF Pr PySem Sy Sg
/-! ### inner stretches asked -/
def LrB1 : Ss := (Ss.cons (S.asg 5 false (E.bin (BOp.add) (E.v 5) (E.toL (It.rng2 (E.v 6) (E.bin (BOp.add) (E.v 7) (E.int 1)))))) (Ss.nil))
def heldL (ps : List (Int × Int)) : List Int := ps.flatMap fun p => keysI p.1 p.2
theorem keysI_app {a m b : Int} (h1 : a ≤ m + 1) (h2 : m ≤ b) : keysI a m ++ keysI (m + 1) b = keysI a b := by
  unfold keysI
  rw [show (b + 1 - a).toNat = (m + 1 - a).toNat + (b + 1 - (m + 1)).toNat by omega, List.range_add, List.map_append, List.map_map]
  congr 1
  refine List.map_congr_left fun i hi => ?_
  simp only [Function.comp]
  omega
theorem held_chn : ∀ {ps : List (Int × Int)} {lo hi : Int}, Chn lo hi ps → heldL ps = keysI lo hi
  | [], lo, hi, h => by
    have : lo = hi + 1 := h
    unfold heldL keysI
    rw [show (hi + 1 - lo).toNat = 0 by omega]
    rfl
  | p :: r, lo, hi, h => by
    have e := h.1
    have hl := h.2.1
    have hc := chn_le h.2.2
    have ih := held_chn h.2.2
    unfold heldL at ih ⊢
    rw [List.flatMap_cons, ih, e]
    exact keysI_app (by omega) (by omega)
theorem keysI_len {a b : Int} : (keysI a b).length = (b + 1 - a).toNat := by simp [keysI]
section
variable {ns : List Int} {k : Nat}
theorem held_loop {C : Cfg} {cs : Calls} {a0 a1 a2 a3 a4 : Option PyData} : ∀ (r p : List (Int × Int)) (x6 x7 : Option PyData), (∀ q ∈ r, 0 ≤ q.1 ∧ q.1 ≤ q.2 ∧ q.2 < 24) → (heldL (p ++ r)).length ≤ 1000 →
    ∃ y6 y7, forX C cs (.t [6, 7]) LrB1 (pl r) [a0, a1, a2, a3, a4, some (.list (il (heldL p))), x6, x7] = .ok .nx [a0, a1, a2, a3, a4, some (.list (il (heldL (p ++ r)))), y6, y7]
  | [], p, x6, x7, _, _ => ⟨x6, x7, by rw [List.append_nil]; rfl⟩
  | q :: r, p, x6, x7, hb, hl => by
    have q1 := hb q List.mem_cons_self
    have e1 : heldL (p ++ q :: r) = heldL ((p ++ [q]) ++ r) := by simp
    obtain ⟨y6, y7, ih⟩ := held_loop (C := C) (cs := cs) (a0 := a0) (a1 := a1) (a2 := a2) (a3 := a3) (a4 := a4) r (p ++ [q]) (some (.int q.1)) (some (.int q.2)) (fun x hx => hb x (List.mem_cons_of_mem _ hx)) (by rw [← e1]; exact hl)
    refine ⟨y6, y7, ?_⟩
    rw [e1, ← ih]
    have r1 : rngOk q.1 (q.2 + 1) = true := by unfold rngOk; exact decide_eq_true (by omega)
    have r2 := rng_keysI q.1 q.2
    have e2 : heldL (p ++ [q]) = heldL p ++ keysI q.1 q.2 := by simp [heldL]
    have ln : (heldL p).length + (keysI q.1 q.2).length ≤ 1000000 := by
      have e3 : heldL (p ++ q :: r) = heldL p ++ (keysI q.1 q.2 ++ heldL r) := by simp [heldL]
      rw [e3, List.length_append, List.length_append] at hl
      omega
    refine forX_c (e1 := [a0, a1, a2, a3, a4, some (.list (il (heldL p))), some (.int q.1), some (.int q.2)]) rfl ?_
    rw [e2]
    simp [LrB1, r1, r2, lim, il_len, ln]
theorem ir_ok {ls : List Int} {s : Int × Int} (hL : isLv (.tuple (il ls)) = true) (hl : ls.length ≤ 24) (h : s ∈ SP ls) : calls (cfg ns) tab (k + 30) "_law_inner_right" [.tuple (il ls), .list (pl (SP ls)), prD s] = .ok (.bool true) [] := by
  have hs := mem_SP.mp h
  have h0 := hs.lo
  have h1 := hs.le
  have h2 := hs.hi
  have hn : 0 < ls.length := by omega
  have eS : SP ls = spL (lvO ls) ls.length := by
    unfold SP
    rw [if_neg (by rintro rfl; simp at hn)]
  have c1 := inn_ok (ns := ns) (k := k + 28) (S := SP ls) (s := s) (by have := SP_len hl; omega)
  rw [show innL (SP ls) s = parL (lvO ls) s by rw [eS]; exact inn_par hn hs] at c1
  have c2 := is_ok (ns := ns) (k := k) hL hl h
  have pin : ∀ q ∈ parL (lvO ls) s, 0 ≤ q.1 ∧ q.1 ≤ q.2 ∧ q.2 < 24 := fun q hq => by
    have := par_in h1 hq
    omega
  have plen : (parL (lvO ls) s).length ≤ 24 := by
    by_cases q : s.1 < s.2
    · have := chn_le (par_ch (lv := lvO ls) q)
      omega
    · obtain ⟨a, b⟩ := s
      have e : a = b := by simp only at h1 q; omega
      subst e
      rw [par_one]
      exact Nat.zero_le _
  have c3 := same_2 (ns := ns) (k := k + 25) (ps := parL (lvO ls) s) (by omega)
  have c4 := same_pl (ns := ns) (k := k + 26) (ps := parL (lvO ls) s) (by omega)
  have hpl : (pl (parL (lvO ls) s)).length < 1000000 := by rw [pl_len]; omega
  refine call_ret (k := k + 29) tb__law_inner_right rfl rfl ?_
  by_cases q : s.1 = s.2
  · obtain ⟨a, b⟩ := s
    obtain rfl : a = b := q
    rw [par_one] at c1 c2 c3 c4
    have e0 : pl ([] : List (Int × Int)) = [] := rfl
    rw [e0] at c1 c2 c3 c4
    simp only [prD] at c1 c2 ⊢
    simp [b__law_inner_right, c1, c2, c3, c4, muE, muEs, lim, eq_nn]
    exact Ru.ok rfl
  · have lt : s.1 < s.2 := by omega
    have ch := par_ch (lv := lvO ls) lt
    have hh := held_chn ch
    have two : 2 ≤ (parL (lvO ls) s).length := par_two (lv := lvO ls) (a := s.1) (b := s.2) lt
    have gt1 : (1 : Int) < ((parL (lvO ls) s).length : Int) := by omega
    obtain ⟨y6, y7, loop⟩ := held_loop (C := cfg ns) (cs := calls (cfg ns) tab (k + 29)) (a0 := some (.tuple (il ls))) (a1 := some (.list (pl (SP ls)))) (a2 := some (prD s)) (a3 := some (.list (pl (parL (lvO ls) s)))) (a4 := some (.list (pl (parL (lvO ls) s) ++ [.none]))) (parL (lvO ls) s) [] none none pin (by rw [List.nil_append, hh, keysI_len]; omega)
    rw [List.nil_append, hh] at loop
    have e0 : il (heldL []) = [] := rfl
    rw [e0] at loop
    have r1 : rngOk s.1 (s.2 + 1) = true := by unfold rngOk; exact decide_eq_true (by omega)
    have r2 := rng_keysI s.1 s.2
    have e9 := eq_same (d := .list (il (keysI s.1 s.2))) Sy.shp_il
    simp only [LrB1, prD] at loop
    simp only [prD] at c1 c2 ⊢
    simp [b__law_inner_right, c1, c2, c3, c4, muE, muEs, lim, q, hpl, pl_len, show (parL (lvO ls) s).length < 1000000 by omega]
    rw [loop]
    simp [gt1, pl_len, r1, r2, e9]
    exact Ru.ok rfl
end
end Ma
set_option Elab.async false
set_option linter.all false
set_option maxRecDepth 100000
namespace Ma
open VF Pr PySem Sy Sg
/-! ### what is refused -/
def RB1 : S := (S.par [6, 7] (Es.cons (E.bi (Bi.len) (E.v 1)) (Es.cons (E.call "_law_bad_levels" [0] (Es.cons (E.v 1) (Es.nil))) (Es.nil))))
def RB2 : S := (S.par [8, 9] (Es.cons (E.call "_law_draw" [0] (Es.cons (E.bi2 (Bi.max2) (E.int 1) (E.v 6)) (Es.nil))) (Es.cons (E.call "_law_draw" [0] (Es.cons (E.bi2 (Bi.max2) (E.int 1) (E.v 6)) (Es.nil))) (Es.nil))))
def RB3 : S := (S.asg 3 false (E.lst (Es.cons (E.tup (Es.cons (E.v 8) (Es.cons (E.v 6) (Es.nil)))) (Es.cons (E.tup (Es.cons (E.neg (E.int 1)) (Es.cons (E.v 9) (Es.nil)))) (Es.cons (E.tup (Es.cons (E.v 8) (Es.nil))) (Es.cons (E.lst (Es.cons (E.v 8) (Es.cons (E.v 9) (Es.nil)))) (Es.cons (E.non) (Es.cons (E.int 0) (Es.cons (E.str "00") (Es.cons (E.tup (Es.cons (E.v 8) (Es.cons (E.v 9) (Es.cons (E.int 0) (Es.nil))))) (Es.cons (E.tup (Es.cons (E.v 8) (Es.cons (E.non) (Es.nil)))) (Es.cons (E.tup (Es.cons (E.cmp (COp.eq) (E.v 8) (E.int 1)) (Es.cons (E.v 9) (Es.nil)))) (Es.nil)))))))))))))
def RB4 : S := (S.asg 3 false (E.bin (BOp.add) (E.v 3) (E.lst (Es.cons (E.tup (Es.cons (E.v 8) (Es.cons (E.cmp (COp.eq) (E.v 9) (E.int 1)) (Es.nil)))) (Es.cons (E.tup (Es.cons (E.int 0) (Es.cons (E.bl false) (Es.nil)))) (Es.cons (E.tup (Es.cons (E.v 8) (Es.cons (E.bin (BOp.add) (E.v 6) (E.call "_law_draw" [0] (Es.cons (E.int 30) (Es.nil)))) (Es.nil)))) (Es.cons (E.tup (Es.cons (E.bin (BOp.sub) (E.neg (E.int 1)) (E.call "_law_draw" [0] (Es.cons (E.int 99) (Es.nil)))) (Es.cons (E.v 9) (Es.nil)))) (Es.nil))))))))
def RB5 : S := (S.asg 3 false (E.bin (BOp.add) (E.v 3) (E.lst (Es.cons (E.tup (Es.cons (E.tup (Es.cons (E.v 8) (Es.nil))) (Es.cons (E.v 9) (Es.nil)))) (Es.cons (E.tup (Es.cons (E.bin (BOp.pow) (E.int 10) (E.int 30)) (Es.cons (E.v 9) (Es.nil)))) (Es.cons (E.tup (Es.cons (E.bin (BOp.add) (E.v 9) (E.int 1)) (Es.cons (E.v 9) (Es.nil)))) (Es.cons (E.tup (Es.cons (E.lst (Es.cons (E.v 8) (Es.nil))) (Es.cons (E.v 9) (Es.nil)))) (Es.cons (E.tup (Es.cons (E.bl true) (Es.cons (E.bl true) (Es.nil)))) (Es.cons (E.tup (Es.cons (E.bl false) (Es.cons (E.bl false) (Es.nil)))) (Es.nil))))))))))
def RB6 : S := (S.asg 3 false (E.bin (BOp.add) (E.v 3) (E.bin (BOp.mul) (E.comp (Tg.n 10) [10] (It.seq (E.lst (Es.cons (E.tup (Es.cons (E.v 8) (Es.cons (E.v 9) (Es.nil)))) (Es.cons (E.tup (Es.cons (E.v 9) (Es.cons (E.v 8) (Es.nil)))) (Es.nil))))) (Eo.y (E.cmp (COp.notin) (E.v 10) (E.v 2))) (E.v 10)) (E.int 6))))
def RB7 : S := (S.asg 4 false (E.idx (E.v 3) (E.call "_law_draw" [0] (Es.cons (E.bi (Bi.len) (E.v 3)) (Es.nil)))))
def RB8 : S := (S.asg 5 false (E.ite (E.cmp (COp.ne) (E.v 2) (E.lst (Es.nil))) (E.idx (E.v 2) (E.call "_law_draw" [0] (Es.cons (E.bi (Bi.len) (E.v 2)) (Es.nil)))) (E.non)))
def RB9 : S := (S.ifs (E.cmp (COp.ne) (E.lst (Es.cons (E.call "_law_told" [] (Es.cons (E.int 0) (Es.cons (E.v 7) (Es.cons (E.non) (Es.nil))))) (Es.cons (E.call "_law_told" [] (Es.cons (E.int 1) (Es.cons (E.v 7) (Es.cons (E.v 5) (Es.nil))))) (Es.cons (E.call "_law_told" [] (Es.cons (E.int 1) (Es.cons (E.v 7) (Es.cons (E.v 4) (Es.nil))))) (Es.nil))))) (E.bin (BOp.mul) (E.lst (Es.cons (E.str "levels") (Es.nil))) (E.int 3))) (Ss.cons (S.ret (E.bl false)) (Ss.nil)) (Ss.nil))
def RB10 : S := (S.ifs (E.bop false (E.cmp (COp.ne) (E.call "_law_told" [] (Es.cons (E.int 1) (Es.cons (E.v 1) (Es.cons (E.v 4) (Es.nil))))) (E.str "stretch")) (E.cmp (COp.ne) (E.call "_law_told" [] (Es.cons (E.int 0) (Es.cons (E.v 1) (Es.cons (E.non) (Es.nil))))) (E.str "none"))) (Ss.cons (S.ret (E.bl false)) (Ss.nil)) (Ss.nil))
def RB11 : S := (S.ret (E.bop false (E.isc true (E.v 5) (Cst.non)) (E.cmp (COp.eq) (E.call "_law_told" [] (Es.cons (E.int 1) (Es.cons (E.v 1) (Es.cons (E.v 5) (Es.nil))))) (E.str "none"))))
def RBs : Ss := .cons RB1 (.cons RB2 (.cons RB3 (.cons RB4 (.cons RB5 (.cons RB6 (.cons RB7 (.cons RB8 (.cons RB9 (.cons RB10 (.cons RB11  .nil))))))))))
theorem RBs_eq : b__law_refused_right = RBs := rfl
theorem notPS_no {ls : List Int} {ds : List PyData} (h : ds.all intB = false) : isPS ls (.tuple ds) = false := by
  show (ds.all intB && _) = false
  rw [h, Bool.false_and]
theorem notPS_of {ls : List Int} {ds : List PyData} (h : ∀ q : Int × Int, PyData.eqv (prD q) (.tuple ds) = false) : isPS ls (.tuple ds) = false := by
  show (ds.all intB && (pl (SP ls)).any fun z => PyData.eqv z (.tuple ds)) = false
  rw [List.any_eq_false.mpr, Bool.and_false]
  intro z hz
  obtain ⟨q, _, rfl⟩ := List.mem_map.mp hz
  rw [h q]
  decide
theorem notPS_1 {ls : List Int} {a : Int} : isPS ls (.tuple [.int a]) = false := notPS_of fun q => by simp [prD, PyData.eqv, PyData.eqvAll]
theorem notPS_3 {ls : List Int} {a b c : Int} : isPS ls (.tuple [.int a, .int b, .int c]) = false := notPS_of fun q => by simp [prD, PyData.eqv, PyData.eqvAll]
theorem notPS_pr {ls : List Int} {q : Int × Int} (h : ¬ (0 ≤ q.1 ∧ q.1 ≤ q.2 ∧ q.2 < ls.length)) : isPS ls (prD q) = false := by
  rw [isPS_pr, decide_eq_false]
  intro z
  have := mem_SP.mp z
  exact h ⟨this.lo, this.le, this.hi⟩
theorem le_word {x : PySem.Str} (h : x ∈ (["levels", "none", "stretch"] : List PySem.Str)) : (PyData.str x).canLay0 = true := by
  have : ∀ x ∈ (["levels", "none", "stretch"] : List PySem.Str), (PyData.str x).canLay0 = true := by decide +kernel
  exact this x h
theorem shp_w {x : PySem.Str} (h : x ∈ (["levels", "none", "stretch"] : List PySem.Str)) : VF.shp (.str x) = true := by
  unfold VF.shp SeqAt.shaped
  rw [le_word h]
  rfl
theorem ne_w {x : PySem.Str} (h : x ∈ (["levels", "none", "stretch"] : List PySem.Str)) : cmpD .ne (.str x) (.str x) = some false := ne_same (shp_w h)
theorem eq_w {x : PySem.Str} (h : x ∈ (["levels", "none", "stretch"] : List PySem.Str)) : cmpD .eq (.str x) (.str x) = some true := eq_same (shp_w h)
theorem ne_three : cmpD .ne (.list [.str "levels", .str "levels", .str "levels"]) (.list [.str "levels", .str "levels", .str "levels"]) = some false := by decide +kernel
def wr1 (n a b : Int) : List PyData := [.tuple [.int a, .int n], .tuple [.int (-1), .int b], .tuple [.int a], .list [.int a, .int b], .none, .int 0, .str "00", .tuple [.int a, .int b, .int 0], .tuple [.int a, .none], .tuple [.bool (decide (a = 1)), .int b]]
def wr2 (n a b u v : Int) : List PyData := [.tuple [.int a, .bool (decide (b = 1))], .tuple [.int 0, .bool false], .tuple [.int a, .int (n + u)], .tuple [.int (-1 - v), .int b]]
def wr3 (a b : Int) : List PyData := [.tuple [.tuple [.int a], .int b], .tuple [.int 1000000000000000000000000000000, .int b], .tuple [.int (b + 1), .int b], .tuple [.list [.int a], .int b], .tuple [.bool true, .bool true], .tuple [.bool false, .bool false]]
def wr4 (S : List (Int × Int)) (a b : Int) : List PyData := pl ([(a, b), (b, a)].filter fun q => !decide (q ∈ S))
def wr12 (n a b u v : Int) : List PyData := wr1 n a b ++ wr2 n a b u v
def wr123 (n a b u v : Int) : List PyData := wr12 n a b u v ++ wr3 a b
def wr6 (S : List (Int × Int)) (a b : Int) : List PyData := (List.replicate 6 (wr4 S a b)).flatten
def wrA (S : List (Int × Int)) (n a b u v : Int) : List PyData := wr123 n a b u v ++ wr6 S a b
theorem wr_no {ls : List Int} {a b u v : Int} (hl : ls.length ≤ 24) (ha : 0 ≤ a) (hu : 0 ≤ u) (hv : 0 ≤ v) (hb : b < 24) : ∀ d ∈ wrA (SP ls) ls.length a b u v, isPS ls d = false ∧ ∀ ds, d = .tuple ds → ds.length ≤ 1000000 := by
  intro d hd
  unfold wrA at hd
  rcases List.mem_append.mp hd with hd | hd
  · unfold wr123 wr12 wr1 wr2 wr3 at hd
    simp only [List.cons_append, List.nil_append, List.mem_cons, List.not_mem_nil, or_false] at hd
    rcases hd with rfl | rfl | rfl | rfl | rfl | rfl | rfl | rfl | rfl | rfl | rfl | rfl | rfl | rfl | rfl | rfl | rfl | rfl | rfl | rfl
    · exact ⟨notPS_pr (q := (a, (ls.length : Int))) (by simp only; omega), fun ds e => by cases e; show 2 ≤ 1000000; omega⟩
    · exact ⟨notPS_pr (q := (-1, b)) (by simp only; omega), fun ds e => by cases e; show 2 ≤ 1000000; omega⟩
    · exact ⟨notPS_1, fun ds e => by cases e; show 1 ≤ 1000000; omega⟩
    · exact ⟨rfl, fun ds e => by cases e⟩
    · exact ⟨rfl, fun ds e => by cases e⟩
    · exact ⟨rfl, fun ds e => by cases e⟩
    · exact ⟨rfl, fun ds e => by cases e⟩
    · exact ⟨notPS_3, fun ds e => by cases e; show 3 ≤ 1000000; omega⟩
    · exact ⟨notPS_no rfl, fun ds e => by cases e; show 2 ≤ 1000000; omega⟩
    · exact ⟨notPS_no rfl, fun ds e => by cases e; show 2 ≤ 1000000; omega⟩
    · exact ⟨notPS_no rfl, fun ds e => by cases e; show 2 ≤ 1000000; omega⟩
    · exact ⟨notPS_no rfl, fun ds e => by cases e; show 2 ≤ 1000000; omega⟩
    · exact ⟨notPS_pr (q := (a, (ls.length : Int) + u)) (by simp only; omega), fun ds e => by cases e; show 2 ≤ 1000000; omega⟩
    · exact ⟨notPS_pr (q := (-1 - v, b)) (by simp only; omega), fun ds e => by cases e; show 2 ≤ 1000000; omega⟩
    · exact ⟨notPS_no rfl, fun ds e => by cases e; show 2 ≤ 1000000; omega⟩
    · exact ⟨notPS_pr (q := (1000000000000000000000000000000, b)) (by simp only; omega), fun ds e => by cases e; show 2 ≤ 1000000; omega⟩
    · exact ⟨notPS_pr (q := (b + 1, b)) (by simp only; omega), fun ds e => by cases e; show 2 ≤ 1000000; omega⟩
    · exact ⟨notPS_no rfl, fun ds e => by cases e; show 2 ≤ 1000000; omega⟩
    · exact ⟨notPS_no rfl, fun ds e => by cases e; show 2 ≤ 1000000; omega⟩
    · exact ⟨notPS_no rfl, fun ds e => by cases e; show 2 ≤ 1000000; omega⟩
  · obtain ⟨l, h1, h2⟩ := List.mem_flatten.mp hd
    rw [List.mem_replicate] at h1
    rw [h1.2] at h2
    unfold wr4 at h2
    obtain ⟨q, hq, rfl⟩ := List.mem_map.mp h2
    rw [List.mem_filter] at hq
    have hq2 : q ∉ SP ls := by simpa using hq.2
    exact ⟨by rw [isPS_pr, decide_eq_false hq2], fun ds e => by cases e; show 2 ≤ 1000000; omega⟩
section
variable {ns : List Int}
theorem rf_ok {ls : List Int} {a b c : Int} {n : Nat} (S : Sr n a b c) (hn : n ≤ 20000) (hL : isLv (.tuple (il ls)) = true) (hl : ls.length ≤ 24) : ∃ a' c', calls (cfg ns) tab 60 "_law_refused_right" [srcD a b c, .tuple (il ls), .list (pl (SP ls))] = .ok (.bool true) [srcD a' b c'] ∧ Sr (n + 60) a' b c' := by
  obtain ⟨a1, c1, B, d1, S1, hB⟩ := badlev_ok (ns := ns) (k := 57) S (by omega) hl
  obtain ⟨mx, hmx⟩ : ∃ mx : Int, (if (ls.length : Int) > 1 then (ls.length : Int) else 1) = mx := ⟨_, rfl⟩
  have hm : 0 < mx ∧ mx ≤ 24 := by split at hmx <;> omega
  obtain ⟨a2, c2, x, d2, S2, x0, x1⟩ := draw_ok (ns := ns) (k := 58) S1 (by omega) hm.1 (lgN (by omega) (by omega))
  obtain ⟨a3, c3, y, d3, S3, y0, y1⟩ := draw_ok (ns := ns) (k := 58) S2 (by omega) hm.1 (lgN (by omega) (by omega))
  obtain ⟨a4, c4, u, d4, S4, u0, u1⟩ := draw_ok (ns := ns) (k := 58) S3 (by omega) (show (0 : Int) < 30 by omega) (lgN (by omega) (by omega))
  obtain ⟨a5, c5, v, d5, S5, v0, v1⟩ := draw_ok (ns := ns) (k := 58) S4 (by omega) (show (0 : Int) < 99 by omega) (lgN (by omega) (by omega))
  have wn := wr_no (ls := ls) (a := x) (b := y) (u := u) (v := v) hl x0 u0 v0 (by omega)
  have wl : 20 ≤ (wrA (SP ls) ls.length x y u v).length ∧ (wrA (SP ls) ls.length x y u v).length ≤ 32 := by
    have h4 : (wr4 (SP ls) x y).length ≤ 2 := by
      unfold wr4
      rw [pl_len]
      exact List.length_filter_le _ _
    have h5 : (wr6 (SP ls) x y).length = 6 * (wr4 (SP ls) x y).length := by
      unfold wr6
      simp
      omega
    unfold wrA
    rw [List.length_append, h5]
    simp only [wr123, wr12, wr1, wr2, wr3, List.length_append, List.length_cons, List.length_nil]
    omega
  have w4 : (wr4 (SP ls) x y).length ≤ 2 := by
    unfold wr4
    rw [pl_len]
    exact List.length_filter_le _ _
  obtain ⟨a6, c6, z, d6, S6, z0, z1⟩ := draw_ok (ns := ns) (k := 58) (m := ((wrA (SP ls) ls.length x y u v).length : Int)) S5 (by omega) (by omega) (lgN (by omega) (by omega))
  obtain ⟨w, hw, hat⟩ := at_some (ds := wrA (SP ls) ls.length x y u v) z0 z1
  obtain ⟨wn1, wn2⟩ := wn w hw
  -- a good one
  obtain ⟨a7, c7, g, S7, good, gd1⟩ : ∃ a7 c7 g, Sr (n + 10 + 1 + 1 + 1 + 1 + 1 + 1) a7 b c7 ∧
      (ev (cfg ns) (calls (cfg ns) tab 59) (E.ite (E.cmp (COp.ne) (E.v 2) (E.lst (Es.nil))) (E.idx (E.v 2) (E.call "_law_draw" [0] (Es.cons (E.bi (Bi.len) (E.v 2)) (Es.nil)))) (E.non)) [some (srcD a6 b c6), some (.tuple (il ls)), some (.list (pl (SP ls))), some (.list (wrA (SP ls) ls.length x y u v)), some w, none, some (.int ls.length), some B, some (.int x), some (.int y), none]
        = .ok g [some (srcD a7 b c7), some (.tuple (il ls)), some (.list (pl (SP ls))), some (.list (wrA (SP ls) ls.length x y u v)), some w, none, some (.int ls.length), some B, some (.int x), some (.int y), none]) ∧ (g = .none ∨ ∃ q ∈ SP ls, g = prD q) := by
    by_cases e : SP ls = []
    · refine ⟨a6, c6, .none, S6.mono (by omega), ?_, .inl rfl⟩
      have hne := ne_plnil (ps := SP ls)
      rw [e] at hne ⊢
      simp [hne, lim, srcD]
    · have hne := ne_plnil (ps := SP ls)
      have e2 : (SP ls).isEmpty = false := by
        cases h : SP ls with
        | nil => exact absurd h e
        | cons p r => rfl
      rw [e2] at hne
      have hp := List.length_pos_iff.mpr e
      have hsl := SP_len hl
      obtain ⟨a7, c7, t, d7, S7, t0, t1⟩ := draw_ok (ns := ns) (k := 58) (m := ((SP ls).length : Int)) S6 (by omega) (by omega) (lgN (by omega) (by omega))
      obtain ⟨i, rfl⟩ : ∃ i : Nat, t = i := ⟨t.toNat, by omega⟩
      have hi : i < (SP ls).length := by omega
      have hat := at_pl hi
      refine ⟨a7, c7, prD (SP ls)[i], S7.mono (by omega), ?_, .inr ⟨_, List.getElem_mem hi, rfl⟩⟩
      simp only [srcD] at d7 ⊢
      simp [hne, lim, pl_len, d7, hat]
  have t1 := told_lev (ns := ns) (k := 29) (i := 0) (v := .none) (.inl rfl) hB
  have t2 := told_lev (ns := ns) (k := 29) (i := 1) (v := g) (.inr rfl) hB
  have t3 := told_lev (ns := ns) (k := 29) (i := 1) (v := w) (.inr rfl) hB
  have t4 := told_w (ns := ns) (k := 29) hL hl wn2 wn1
  have t5 := told_0 (ns := ns) (k := 29) (v := .none) hL hl
  have n1 := ne_w (x := "stretch") (by simp)
  have n2 := ne_w (x := "none") (by simp)
  have n3 := eq_w (x := "none") (by simp)
  have rep3 : binD .mul (.list [.str "levels"]) (.int 3) = some (.list [.str "levels", .str "levels", .str "levels"]) := rfl

  have g1 : ex (cfg ns) (calls (cfg ns) tab 59) RB1 [some (srcD a b c), some (.tuple (il ls)), some (.list (pl (SP ls))), none, none, none, none, none, none, none, none] = .ok .nx [some (srcD a1 b c1), some (.tuple (il ls)), some (.list (pl (SP ls))), none, none, none, some (.int ls.length), some B, none, none, none] := by
    simp only [srcD] at d1 ⊢
    simp [RB1, d1, il_len]
  have g2 : ex (cfg ns) (calls (cfg ns) tab 59) RB2 [some (srcD a1 b c1), some (.tuple (il ls)), some (.list (pl (SP ls))), none, none, none, some (.int ls.length), some B, none, none, none] = .ok .nx [some (srcD a3 b c3), some (.tuple (il ls)), some (.list (pl (SP ls))), none, none, none, some (.int ls.length), some B, some (.int x), some (.int y), none] := by
    simp only [srcD] at d2 d3 ⊢
    simp only [gt_iff_lt] at hmx
    simp [RB2, hmx, d2, d3]
  have g3 : ex (cfg ns) (calls (cfg ns) tab 59) RB3 [some (srcD a3 b c3), some (.tuple (il ls)), some (.list (pl (SP ls))), none, none, none, some (.int ls.length), some B, some (.int x), some (.int y), none] = .ok .nx [some (srcD a3 b c3), some (.tuple (il ls)), some (.list (pl (SP ls))), some (.list (wr1 ls.length x y)), none, none, some (.int ls.length), some B, some (.int x), some (.int y), none] := by
    simp [RB3, lim, wr1]
  have g4 : ex (cfg ns) (calls (cfg ns) tab 59) RB4 [some (srcD a3 b c3), some (.tuple (il ls)), some (.list (pl (SP ls))), some (.list (wr1 ls.length x y)), none, none, some (.int ls.length), some B, some (.int x), some (.int y), none] = .ok .nx [some (srcD a5 b c5), some (.tuple (il ls)), some (.list (pl (SP ls))), some (.list (wr12 ls.length x y u v)), none, none, some (.int ls.length), some B, some (.int x), some (.int y), none] := by
    simp only [srcD] at d4 d5 ⊢
    simp [RB4, lim, wr12, wr1, wr2, d4, d5]
  have g5 : ex (cfg ns) (calls (cfg ns) tab 59) RB5 [some (srcD a5 b c5), some (.tuple (il ls)), some (.list (pl (SP ls))), some (.list (wr12 ls.length x y u v)), none, none, some (.int ls.length), some B, some (.int x), some (.int y), none] = .ok .nx [some (srcD a5 b c5), some (.tuple (il ls)), some (.list (pl (SP ls))), some (.list (wr123 ls.length x y u v)), none, none, some (.int ls.length), some B, some (.int x), some (.int y), none] := by
    simp [RB5, lim, wr123, wr12, wr1, wr2, wr3, pw30]
  have g6 : ex (cfg ns) (calls (cfg ns) tab 59) RB6 [some (srcD a5 b c5), some (.tuple (il ls)), some (.list (pl (SP ls))), some (.list (wr123 ls.length x y u v)), none, none, some (.int ls.length), some B, some (.int x), some (.int y), none] = .ok .nx [some (srcD a5 b c5), some (.tuple (il ls)), some (.list (pl (SP ls))), some (.list (wrA (SP ls) ls.length x y u v)), none, none, some (.int ls.length), some B, some (.int x), some (.int y), none] := by
    have cc := comp_plc (C := cfg ns) (cs := calls (cfg ns) tab 59) (i := 10) (it := It.seq (E.lst (Es.cons (E.tup (Es.cons (E.v 8) (Es.cons (E.v 9) (Es.nil)))) (Es.cons (E.tup (Es.cons (E.v 9) (Es.cons (E.v 8) (Es.nil)))) (Es.nil))))) (c := Eo.y (E.cmp (COp.notin) (E.v 10) (E.v 2))) (g := E.v 10) (ps := [(x, y), (y, x)]) (p := fun q => !decide (q ∈ SP ls))
      (env := [some (srcD a5 b c5), some (.tuple (il ls)), some (.list (pl (SP ls))), some (.list (wr123 ls.length x y u v)), none, none, some (.int ls.length), some B, some (.int x), some (.int y), none]) (by simp [lim, pl, prD]) (by simp) (by simp) (fun q hq => ⟨by simp [notin_plL], fun _ => by simp⟩)
    have e4 : pl (([(x, y), (y, x)] : List (Int × Int)).filter fun q => !decide (q ∈ SP ls)) = wr4 (SP ls) x y := rfl
    rw [e4] at cc
    have m6 : binD .mul (.list (wr4 (SP ls) x y)) (.int 6) = some (.list (wr6 (SP ls) x y)) := by
      show (if -1000 ≤ (6 : Int) ∧ (6 : Int) ≤ 1000 ∧ (wr4 (SP ls) x y).length ≤ 1000 then some (PyData.list (List.replicate (6 : Int).toNat (wr4 (SP ls) x y)).flatten) else none) = _
      rw [if_pos ⟨by decide, by decide, by omega⟩]
      rfl
    have ad : binD .add (.list (wr123 ls.length x y u v)) (.list (wr6 (SP ls) x y)) = some (.list (wrA (SP ls) ls.length x y u v)) := by
      have := wl.2
      unfold wrA at this
      rw [List.length_append] at this
      rw [Sy.add_l, if_pos (by unfold lim; omega)]
      rfl
    simp [RB6, cc, m6, ad, -Sy.mul_l, -Sy.add_l]
  have g7 : ex (cfg ns) (calls (cfg ns) tab 59) RB7 [some (srcD a5 b c5), some (.tuple (il ls)), some (.list (pl (SP ls))), some (.list (wrA (SP ls) ls.length x y u v)), none, none, some (.int ls.length), some B, some (.int x), some (.int y), none] = .ok .nx [some (srcD a6 b c6), some (.tuple (il ls)), some (.list (pl (SP ls))), some (.list (wrA (SP ls) ls.length x y u v)), some w, none, some (.int ls.length), some B, some (.int x), some (.int y), none] := by
    simp only [srcD] at d6 ⊢
    simp [RB7, d6, hat]
  have g8 : ex (cfg ns) (calls (cfg ns) tab 59) RB8 [some (srcD a6 b c6), some (.tuple (il ls)), some (.list (pl (SP ls))), some (.list (wrA (SP ls) ls.length x y u v)), some w, none, some (.int ls.length), some B, some (.int x), some (.int y), none] = .ok .nx [some (srcD a7 b c7), some (.tuple (il ls)), some (.list (pl (SP ls))), some (.list (wrA (SP ls) ls.length x y u v)), some w, some g, some (.int ls.length), some B, some (.int x), some (.int y), none] := by
    unfold RB8
    rw [Sy.ex_asg, good]
    rfl
  have g9 : ex (cfg ns) (calls (cfg ns) tab 59) RB9 [some (srcD a7 b c7), some (.tuple (il ls)), some (.list (pl (SP ls))), some (.list (wrA (SP ls) ls.length x y u v)), some w, some g, some (.int ls.length), some B, some (.int x), some (.int y), none] = .ok .nx [some (srcD a7 b c7), some (.tuple (il ls)), some (.list (pl (SP ls))), some (.list (wrA (SP ls) ls.length x y u v)), some w, some g, some (.int ls.length), some B, some (.int x), some (.int y), none] := by
    simp [RB9, t1, t2, t3, lim, rep3, ne_three, -Sy.mul_l]
  have g10 : ex (cfg ns) (calls (cfg ns) tab 59) RB10 [some (srcD a7 b c7), some (.tuple (il ls)), some (.list (pl (SP ls))), some (.list (wrA (SP ls) ls.length x y u v)), some w, some g, some (.int ls.length), some B, some (.int x), some (.int y), none] = .ok .nx [some (srcD a7 b c7), some (.tuple (il ls)), some (.list (pl (SP ls))), some (.list (wrA (SP ls) ls.length x y u v)), some w, some g, some (.int ls.length), some B, some (.int x), some (.int y), none] := by
    simp [RB10, t4, t5, n1, n2]
  have g11 : ex (cfg ns) (calls (cfg ns) tab 59) RB11 [some (srcD a7 b c7), some (.tuple (il ls)), some (.list (pl (SP ls))), some (.list (wrA (SP ls) ls.length x y u v)), some w, some g, some (.int ls.length), some B, some (.int x), some (.int y), none] = .ok (.ret (.bool true)) [some (srcD a7 b c7), some (.tuple (il ls)), some (.list (pl (SP ls))), some (.list (wrA (SP ls) ls.length x y u v)), some w, some g, some (.int ls.length), some B, some (.int x), some (.int y), none] := by
    rcases gd1 with rfl | ⟨q, hq, rfl⟩
    · simp [RB11, isC]
    · have t6 := told_1 (ns := ns) (k := 29) hL hl hq
      have nc : isC (prD q) .non = false := rfl
      simp [RB11, t6, n3, nc]
  refine ⟨a7, c7, ?_, S7.mono (by omega)⟩
  rw [Sy.call_ok (k := 59) tb__law_refused_right]
  refine run1_ret (e := [some (srcD a7 b c7), some (.tuple (il ls)), some (.list (pl (SP ls))), some (.list (wrA (SP ls) ls.length x y u v)), some w, some g, some (.int ls.length), some B, some (.int x), some (.int y), none]) rfl ?_ (by simp)
  show exs (cfg ns) (calls (cfg ns) tab 59) b__law_refused_right [some (srcD a b c), some (.tuple (il ls)), some (.list (pl (SP ls))), none, none, none, none, none, none, none, none] = _
  rw [RBs_eq]
  unfold RBs
  rw [Sy.exs_nx g1, Sy.exs_nx g2, Sy.exs_nx g3, Sy.exs_nx g4, Sy.exs_nx g5, Sy.exs_nx g6, Sy.exs_nx g7, Sy.exs_nx g8, Sy.exs_nx g9, Sy.exs_nx g10]
  rw [Sy.exs_cons, g11, Sy.bind_ok]
end
end Ma
set_option Elab.async false
set_option linter.all false
set_option maxRecDepth 100000
namespace Ma
open VF Pr PySem Sy Sg
/-! ### the law -/
def TB1 : S := (S.par [9, 10] (Es.cons (E.idx (E.v 4) (E.call "_law_draw" [2] (Es.cons (E.bi (Bi.len) (E.v 4)) (Es.nil)))) (Es.cons (E.idx (E.v 4) (E.call "_law_draw" [2] (Es.cons (E.bi (Bi.len) (E.v 4)) (Es.nil)))) (Es.nil))))
def TB2 : S := (S.asg 7 false (E.bop false (E.cmp (COp.lt) (E.idx (E.v 9) (E.int 1)) (E.idx (E.v 10) (E.int 0))) (E.cmp (COp.lt) (E.idx (E.v 10) (E.int 1)) (E.idx (E.v 9) (E.int 0)))))
def TB3 : S := (S.asg 8 false (E.bop false (E.bop true (E.cmp (COp.le) (E.idx (E.v 9) (E.int 0)) (E.idx (E.v 10) (E.int 0))) (E.cmp (COp.le) (E.idx (E.v 10) (E.int 1)) (E.idx (E.v 9) (E.int 1)))) (E.bop true (E.cmp (COp.le) (E.idx (E.v 10) (E.int 0)) (E.idx (E.v 9) (E.int 0))) (E.cmp (COp.le) (E.idx (E.v 9) (E.int 1)) (E.idx (E.v 10) (E.int 1))))))
def TB4 : S := (S.ifs (E.bop false (E.bop true (E.not (E.v 7)) (E.not (E.v 8))) (E.not (E.call "_law_inner_right" [] (Es.cons (E.v 3) (Es.cons (E.v 4) (Es.cons (E.v 9) (Es.nil))))))) (Ss.cons (S.ret (E.bl false)) (Ss.nil)) (Ss.nil))
def LwB2 : Ss := .cons TB1 (.cons TB2 (.cons TB3 (.cons TB4 .nil)))
def CB1 : S := (S.asg 2 true (E.call "_law_source" [] (Es.cons (E.v 1) (Es.nil))))
def CB2 : S := (S.asg 3 false (E.call "_law_levels" [2] (Es.cons (E.ite (E.cmp (COp.eq) (E.call "_law_draw" [2] (Es.cons (E.int 4) (Es.nil))) (E.int 0)) (E.int 24) (E.int 10)) (Es.nil))))
def CB3 : S := (S.asg 4 false (E.call "_law_stretches" [] (Es.cons (E.v 3) (Es.nil))))
def CB4 : S := (S.asg 5 true (E.call "page_stretches" [] (Es.cons (E.v 3) (Es.nil))))
def CB5 : S := (S.ifs (E.not (E.call "_law_same" [] (Es.cons (E.lst (Es.cons (E.v 5) (Es.cons (E.callk "page_stretches" ["levels"] (Es.cons (E.v 3) (Es.nil))) (Es.nil)))) (Es.cons (E.lst (Es.cons (E.v 4) (Es.cons (E.v 4) (Es.nil)))) (Es.nil))))) (Ss.cons (S.ret (E.bl false)) (Ss.nil)) (Ss.nil))
def CB6 : S := (S.app 5 (E.non))
def CB7 : S := (S.ifs (E.not (E.call "_law_same" [] (Es.cons (E.call "page_stretches" [] (Es.cons (E.v 3) (Es.nil))) (Es.cons (E.v 4) (Es.nil))))) (Ss.cons (S.ret (E.bl false)) (Ss.nil)) (Ss.nil))
def CB8 : S := (S.for (Tg.n 6) (It.rng1 (E.bin (BOp.mul) (E.int 6) (E.bi (Bi.int) (E.cmp (COp.ne) (E.v 4) (E.lst (Es.nil)))))) LwB2)
def CB9 : S := (S.ifs (E.bop false (E.bop true (E.cmp (COp.ne) (E.v 4) (E.lst (Es.nil))) (E.not (E.call "_law_inner_right" [] (Es.cons (E.v 3) (Es.cons (E.v 4) (Es.cons (E.tup (Es.cons (E.int 0) (Es.cons (E.bin (BOp.sub) (E.bi (Bi.len) (E.v 3)) (E.int 1)) (Es.nil)))) (Es.nil))))))) (E.not (E.call "_law_refused_right" [2] (Es.cons (E.v 3) (Es.cons (E.v 4) (Es.nil)))))) (Ss.cons (S.ret (E.bl false)) (Ss.nil)) (Ss.nil))
def CBs : Ss := .cons CB1 (.cons CB2 (.cons CB3 (.cons CB4 (.cons CB5 (.cons CB6 (.cons CB7 (.cons CB8 (.cons CB9 .nil))))))))
def CIt : VF.It := (It.seq (E.bin (BOp.add) (E.lst (Es.cons (E.slen) (Es.nil))) (E.stake 4)))
def Klaw1 : S := .for (.n 1) CIt CBs
def Klaw2 : S := (S.ret (E.bl true))
theorem Klaw_eq : b_law = .cons Klaw1 (.cons Klaw2 .nil) := rfl
theorem lv_small {ls : List Int} (h : isLv (.tuple (il ls)) = true) : ls.length ≤ 24 ∧ ∀ k : Int, 0 ≤ k → k < (ls.length : Int) → 0 ≤ lvO ls k ∧ lvO ls k ≤ 4 := by
  unfold isLv at h
  rw [Bool.and_eq_true, decide_eq_true_eq, Sy.il_len, List.all_eq_true] at h
  refine ⟨h.1, fun k h0 h1 => ?_⟩
  have hm : lvO ls k ∈ ls := by
    unfold lvO
    rw [List.getD_eq_getElem?_getD, List.getElem?_eq_getElem (by omega)]
    exact List.getElem_mem _
  have := h.2 (.int (lvO ls k)) (List.mem_map.mpr ⟨_, hm, rfl⟩)
  have : (decide (0 ≤ lvO ls k) && decide (lvO ls k ≤ 4)) = true := this
  rw [Bool.and_eq_true, decide_eq_true_eq, decide_eq_true_eq] at this
  exact this
section
variable {ns : List Int}
def TI (x1 : Option PyData) (b : Int) (L S : PyData) (x5 : Option PyData) (m i : Nat) (e : VF.Env) : Prop := ∃ a c x6 x7 x8 x9 x10, e = [none, x1, some (srcD a b c), some L, some S, x5, x6, x7, x8, x9, x10] ∧ Sr (m + 2 * i) a b c
theorem turn_ok {ls : List Int} {a b c : Int} {n : Nat} (S : Sr n a b c) (hn : n ≤ 20000) (hL : isLv (.tuple (il ls)) = true) (ne : SP ls ≠ []) (x1 x5 x6 x7 x8 x9 x10 : Option PyData) :
    ∃ a' c' y7 y8 y9 y10, exs (cfg ns) (calls (cfg ns) tab 60) LwB2 [none, x1, some (srcD a b c), some (.tuple (il ls)), some (.list (pl (SP ls))), x5, x6, x7, x8, x9, x10] = .ok .nx [none, x1, some (srcD a' b c'), some (.tuple (il ls)), some (.list (pl (SP ls))), x5, x6, y7, y8, y9, y10] ∧ Sr (n + 2) a' b c' := by
  have hl := (lv_small hL).1
  have hp := List.length_pos_iff.mpr ne
  have hsl := SP_len hl
  obtain ⟨a1, c1, t, d1, S1, t0, t1⟩ := draw_ok (ns := ns) (k := 59) (m := ((SP ls).length : Int)) S (by omega) (by omega) (lgN (by omega) (by omega))
  obtain ⟨i, rfl⟩ : ∃ i : Nat, t = i := ⟨t.toNat, by omega⟩
  obtain ⟨a2, c2, u, d2, S2, u0, u1⟩ := draw_ok (ns := ns) (k := 59) (m := ((SP ls).length : Int)) S1 (by omega) (by omega) (lgN (by omega) (by omega))
  obtain ⟨j, rfl⟩ : ∃ j : Nat, u = j := ⟨u.toNat, by omega⟩
  have hi : i < (SP ls).length := by omega
  have hj : j < (SP ls).length := by omega
  have at1 := at_pl hi
  have at2 := at_pl hj
  have m1 := List.getElem_mem hi
  have m2 := List.getElem_mem hj
  generalize (SP ls)[i] = p at at1 m1
  generalize (SP ls)[j] = q at at2 m2
  have lam := laminar (mem_SP.mp m1) (mem_SP.mp m2)
  have ir := ir_ok (ns := ns) (k := 30) hL hl m1
  obtain ⟨p1, p2⟩ := p
  obtain ⟨q1, q2⟩ := q
  simp only [prD] at at1 at2 ir lam
  obtain ⟨A, hA⟩ : ∃ A : Bool, (decide (p2 < q1) || decide (q2 < p1)) = A := ⟨_, rfl⟩
  obtain ⟨B, hB⟩ : ∃ B : Bool, ((decide (p1 ≤ q1) && decide (q2 ≤ p2)) || (decide (q1 ≤ p1) && decide (p2 ≤ q2))) = B := ⟨_, rfl⟩
  have AB : A = false → B = true := fun z => by
    rw [← hA, Bool.or_eq_false_iff, decide_eq_false_iff_not, decide_eq_false_iff_not] at z
    rw [← hB]
    simp only [Bool.or_eq_true, Bool.and_eq_true, decide_eq_true_eq]
    omega
  have g1 : ex (cfg ns) (calls (cfg ns) tab 60) TB1 [none, x1, some (srcD a b c), some (.tuple (il ls)), some (.list (pl (SP ls))), x5, x6, x7, x8, x9, x10] = .ok .nx [none, x1, some (srcD a2 b c2), some (.tuple (il ls)), some (.list (pl (SP ls))), x5, x6, x7, x8, some (.tuple [.int p1, .int p2]), some (.tuple [.int q1, .int q2])] := by
    simp only [srcD] at d1 d2 ⊢
    simp [TB1, pl_len, d1, d2, at1, at2]
  have g2 : ex (cfg ns) (calls (cfg ns) tab 60) TB2 [none, x1, some (srcD a2 b c2), some (.tuple (il ls)), some (.list (pl (SP ls))), x5, x6, x7, x8, some (.tuple [.int p1, .int p2]), some (.tuple [.int q1, .int q2])] = .ok .nx [none, x1, some (srcD a2 b c2), some (.tuple (il ls)), some (.list (pl (SP ls))), x5, x6, some (.bool A), x8, some (.tuple [.int p1, .int p2]), some (.tuple [.int q1, .int q2])] := by
    rw [← hA]
    by_cases z1 : p2 < q1
    · simp [TB2, z1]
    · simp [TB2, z1]
  have g3 : ex (cfg ns) (calls (cfg ns) tab 60) TB3 [none, x1, some (srcD a2 b c2), some (.tuple (il ls)), some (.list (pl (SP ls))), x5, x6, some (.bool A), x8, some (.tuple [.int p1, .int p2]), some (.tuple [.int q1, .int q2])] = .ok .nx [none, x1, some (srcD a2 b c2), some (.tuple (il ls)), some (.list (pl (SP ls))), x5, x6, some (.bool A), some (.bool B), some (.tuple [.int p1, .int p2]), some (.tuple [.int q1, .int q2])] := by
    rw [← hB]
    by_cases z1 : p1 ≤ q1
    · by_cases z2 : q2 ≤ p2
      · simp [TB3, z1, z2]
      · by_cases z3 : q1 ≤ p1 <;> simp [TB3, z1, z2, z3]
    · by_cases z3 : q1 ≤ p1 <;> simp [TB3, z1, z3]
  have g4 : ex (cfg ns) (calls (cfg ns) tab 60) TB4 [none, x1, some (srcD a2 b c2), some (.tuple (il ls)), some (.list (pl (SP ls))), x5, x6, some (.bool A), some (.bool B), some (.tuple [.int p1, .int p2]), some (.tuple [.int q1, .int q2])] = .ok .nx [none, x1, some (srcD a2 b c2), some (.tuple (il ls)), some (.list (pl (SP ls))), x5, x6, some (.bool A), some (.bool B), some (.tuple [.int p1, .int p2]), some (.tuple [.int q1, .int q2])] := by
    cases A with
    | true => simp [TB4, ir]
    | false =>
      rw [AB rfl]
      simp [TB4, ir]
  refine ⟨a2, c2, some (.bool A), some (.bool B), some (.tuple [.int p1, .int p2]), some (.tuple [.int q1, .int q2]), ?_, S2⟩
  unfold LwB2
  rw [Sy.exs_nx g1, Sy.exs_nx g2, Sy.exs_nx g3, Sy.exs_nx g4]
  rfl
theorem cell_ok (x : Int) (hx : x.natAbs.log2 < 1900000) (x2 x3 x4 x5 x6 x7 x8 x9 x10 : Option PyData) :
    ∃ y2 y3 y4 y5 y6 y7 y8 y9 y10, exs (cfg ns) (calls (cfg ns) tab 60) CBs [none, some (.int x), x2, x3, x4, x5, x6, x7, x8, x9, x10] = .ok .nx [none, some (.int x), y2, y3, y4, y5, y6, y7, y8, y9, y10] := by
  obtain ⟨a0, b, s0, S0⟩ := source_ok (ns := ns) x hx 59
  obtain ⟨a1, c1, v, d1, S1, v0, v1⟩ := draw_ok (ns := ns) (k := 59) S0 (by omega) (show (0 : Int) < 4 by omega) (lgN (by omega) (by omega))
  obtain ⟨most, hmost⟩ : ∃ most : Int, (if v = 0 then 24 else 10) = most := ⟨_, rfl⟩
  obtain ⟨a2, c2, ls, d2, S2, hls, hL⟩ := levels_ok (ns := ns) (k := 58) (most := most) S1 (by omega) (by split at hmost <;> omega)
  obtain ⟨hl, hlv⟩ := lv_small hL
  have hsl := SP_len hl
  have p1 := lst_ok (ns := ns) (k := 59) hl hlv
  have p2 := ps_ok (ns := ns) (k := 32) hL hl
  have p3 := same_2 (ns := ns) (k := 56) (ps := SP ls) (by omega)
  have p4 := same_pl (ns := ns) (k := 57) (ps := SP ls) (by omega)
  have hpl : (SP ls).length < 1000000 := by omega
  have g1 : ex (cfg ns) (calls (cfg ns) tab 60) CB1 [none, some (.int x), x2, x3, x4, x5, x6, x7, x8, x9, x10] = .ok .nx [none, some (.int x), some (srcD a0 b 0), x3, x4, x5, x6, x7, x8, x9, x10] := by
    simp only [srcD] at s0 ⊢
    simp [CB1, s0, muE, muEs]
  have g2 : ex (cfg ns) (calls (cfg ns) tab 60) CB2 [none, some (.int x), some (srcD a0 b 0), x3, x4, x5, x6, x7, x8, x9, x10] = .ok .nx [none, some (.int x), some (srcD a2 b c2), some (.tuple (il ls)), x4, x5, x6, x7, x8, x9, x10] := by
    simp only [srcD] at d1 d2 ⊢
    by_cases q : v = 0
    · rw [if_pos q] at hmost
      subst hmost
      simp [CB2, d1, d2, q]
    · rw [if_neg q] at hmost
      subst hmost
      simp [CB2, d1, d2, q]
  have g3 : ex (cfg ns) (calls (cfg ns) tab 60) CB3 [none, some (.int x), some (srcD a2 b c2), some (.tuple (il ls)), x4, x5, x6, x7, x8, x9, x10] = .ok .nx [none, some (.int x), some (srcD a2 b c2), some (.tuple (il ls)), some (.list (pl (SP ls))), x5, x6, x7, x8, x9, x10] := by
    simp [CB3, p1]
  have g4 : ex (cfg ns) (calls (cfg ns) tab 60) CB4 [none, some (.int x), some (srcD a2 b c2), some (.tuple (il ls)), some (.list (pl (SP ls))), x5, x6, x7, x8, x9, x10] = .ok .nx [none, some (.int x), some (srcD a2 b c2), some (.tuple (il ls)), some (.list (pl (SP ls))), some (.list (pl (SP ls))), x6, x7, x8, x9, x10] := by
    simp [CB4, p2, muE, muEs]
  have g5 : ex (cfg ns) (calls (cfg ns) tab 60) CB5 [none, some (.int x), some (srcD a2 b c2), some (.tuple (il ls)), some (.list (pl (SP ls))), some (.list (pl (SP ls))), x6, x7, x8, x9, x10] = .ok .nx [none, some (.int x), some (srcD a2 b c2), some (.tuple (il ls)), some (.list (pl (SP ls))), some (.list (pl (SP ls))), x6, x7, x8, x9, x10] := by
    simp [CB5, p2, p3, lim]
  have g6 : ex (cfg ns) (calls (cfg ns) tab 60) CB6 [none, some (.int x), some (srcD a2 b c2), some (.tuple (il ls)), some (.list (pl (SP ls))), some (.list (pl (SP ls))), x6, x7, x8, x9, x10] = .ok .nx [none, some (.int x), some (srcD a2 b c2), some (.tuple (il ls)), some (.list (pl (SP ls))), some (.list (pl (SP ls) ++ [.none])), x6, x7, x8, x9, x10] := by
    simp [CB6, lim, pl_len, hpl]
  have g7 : ex (cfg ns) (calls (cfg ns) tab 60) CB7 [none, some (.int x), some (srcD a2 b c2), some (.tuple (il ls)), some (.list (pl (SP ls))), some (.list (pl (SP ls) ++ [.none])), x6, x7, x8, x9, x10] = .ok .nx [none, some (.int x), some (srcD a2 b c2), some (.tuple (il ls)), some (.list (pl (SP ls))), some (.list (pl (SP ls) ++ [.none])), x6, x7, x8, x9, x10] := by
    simp [CB7, p2, p4, lim]
  obtain ⟨z, hz, z01⟩ : ∃ z : Int, (if (!(SP ls).isEmpty) = true then 1 else 0) = z ∧ (z = 0 ∨ z = 1) := ⟨_, rfl, by split <;> simp⟩
  have nn := ne_plnil (ps := SP ls)
  have m6 : binD .mul (.int 6) (.int z) = some (.int (6 * z)) := mul_s (by decide) (by rcases z01 with rfl | rfl <;> decide)
  have r6 : rngOk 0 (6 * z) = true := by rcases z01 with rfl | rfl <;> decide
  have itz : evIt (cfg ns) (calls (cfg ns) tab 60) (It.rng1 (E.bin (BOp.mul) (E.int 6) (E.bi (Bi.int) (E.cmp (COp.ne) (E.v 4) (E.lst (Es.nil)))))) [none, some (.int x), some (srcD a2 b c2), some (.tuple (il ls)), some (.list (pl (SP ls))), some (.list (pl (SP ls) ++ [.none])), x6, x7, x8, x9, x10] = .ok (rngD 0 (6 * z)) [none, some (.int x), some (srcD a2 b c2), some (.tuple (il ls)), some (.list (pl (SP ls))), some (.list (pl (SP ls) ++ [.none])), x6, x7, x8, x9, x10] := by
    simp [nn, lim, -List.isEmpty_iff]
    rw [show (if SP ls = [] then (0 : Int) else 1) = z by rw [← hz]; cases SP ls <;> simp] 
    simp [m6, r6]
  have loop := for_inv (C := cfg ns) (cs := calls (cfg ns) tab 60) (tg := .n 6) (b := LwB2) (ds := rngD 0 (6 * z)) (env := [none, some (.int x), some (srcD a2 b c2), some (.tuple (il ls)), some (.list (pl (SP ls))), some (.list (pl (SP ls) ++ [.none])), x6, x7, x8, x9, x10])
    (TI (some (.int x)) b (.tuple (il ls)) (.list (pl (SP ls))) (some (.list (pl (SP ls) ++ [.none]))) 61) ⟨a2, c2, x6, x7, x8, x9, x10, rfl, S2.mono (by omega)⟩ fun i d e hd hI => by
      obtain ⟨a, c, x6, x7, x8, x9, x10, rfl, S⟩ := hI
      have hi : i < (rngD 0 (6 * z)).length := (List.getElem?_eq_some_iff.mp hd).1
      have hlen : (rngD 0 (6 * z)).length = (6 * z).toNat := by simp [rngD]
      have ne : SP ls ≠ [] := by
        intro e
        rw [e] at hz
        simp at hz
        rw [hlen, ← hz] at hi
        simp at hi
      refine ⟨_, rfl, ?_⟩
      obtain ⟨a', c', y7, y8, y9, y10, h1, S'⟩ := turn_ok (ns := ns) S (by rcases z01 with rfl | rfl <;> omega) hL ne (some (.int x)) (some (.list (pl (SP ls) ++ [.none]))) (some d) x7 x8 x9 x10
      show Ru (exs (cfg ns) (calls (cfg ns) tab 60) LwB2 [none, some (.int x), some (srcD a b c), some (.tuple (il ls)), some (.list (pl (SP ls))), some (.list (pl (SP ls) ++ [.none])), some d, x7, x8, x9, x10]) _
      rw [h1]
      exact Ru.ok ⟨rfl, a', c', _, _, _, _, _, rfl, S'.mono (by omega)⟩
  obtain ⟨fl, e, l1, rfl, a3, c3, y6, y7, y8, y9, y10, rfl, S3⟩ := loop
  have hlen : (rngD 0 (6 * z)).length ≤ 6 := by rcases z01 with rfl | rfl <;> simp [rngD]
  have g8 : ex (cfg ns) (calls (cfg ns) tab 60) CB8 [none, some (.int x), some (srcD a2 b c2), some (.tuple (il ls)), some (.list (pl (SP ls))), some (.list (pl (SP ls) ++ [.none])), x6, x7, x8, x9, x10] = .ok .nx [none, some (.int x), some (srcD a3 b c3), some (.tuple (il ls)), some (.list (pl (SP ls))), some (.list (pl (SP ls) ++ [.none])), y6, y7, y8, y9, y10] := by
    unfold CB8
    rw [Sy.ex_for, itz, Sy.bind_ok]
    exact l1
  obtain ⟨a4, c4, rf, S4⟩ := rf_ok (ns := ns) (n := 80) (S3.mono (by omega)) (by omega) hL hl
  have g9 : ex (cfg ns) (calls (cfg ns) tab 60) CB9 [none, some (.int x), some (srcD a3 b c3), some (.tuple (il ls)), some (.list (pl (SP ls))), some (.list (pl (SP ls) ++ [.none])), y6, y7, y8, y9, y10] = .ok .nx [none, some (.int x), some (srcD a4 b c4), some (.tuple (il ls)), some (.list (pl (SP ls))), some (.list (pl (SP ls) ++ [.none])), y6, y7, y8, y9, y10] := by
    simp only [srcD] at rf ⊢
    by_cases e : SP ls = []
    · have nn : cmpD .ne (.list (pl (SP ls))) (.list []) = some false := by rw [nn, e]; rfl
      simp [CB9, nn, lim, rf]
    · have nn : cmpD .ne (.list (pl (SP ls))) (.list []) = some true := by
        rw [nn]
        cases h : SP ls with
        | nil => exact absurd h e
        | cons p r => rfl
      have hw : (0, (ls.length : Int) - 1) ∈ SP ls := mem_SP.mpr (whole_isS (by
        have : ls ≠ [] := fun z => e (SP_nil.mpr z)
        have := List.length_pos_iff.mpr this
        omega))
      have ir := ir_ok (ns := ns) (k := 30) hL hl hw
      simp only [prD] at ir
      simp [CB9, nn, lim, rf, il_len, ir]
  have fin : exs (cfg ns) (calls (cfg ns) tab 60) CBs [none, some (.int x), x2, x3, x4, x5, x6, x7, x8, x9, x10] = .ok .nx [none, some (.int x), some (srcD a4 b c4), some (.tuple (il ls)), some (.list (pl (SP ls))), some (.list (pl (SP ls) ++ [.none])), y6, y7, y8, y9, y10] := by
    unfold CBs
    rw [Sy.exs_nx g1, Sy.exs_nx g2, Sy.exs_nx g3, Sy.exs_nx g4, Sy.exs_nx g5, Sy.exs_nx g6, Sy.exs_nx g7, Sy.exs_nx g8, Sy.exs_nx g9]
    rfl
  exact ⟨_, _, _, _, _, _, _, _, _, fin⟩
theorem cells_loop : ∀ (ds : List Int), (∀ d ∈ ds, d.natAbs.log2 < 1900000) → ∀ (x1 x2 x3 x4 x5 x6 x7 x8 x9 x10 : Option PyData), ∃ e, forL (.n 1) (fun e => exs (cfg ns) (calls (cfg ns) tab 60) CBs e) (ds.map .int) [none, x1, x2, x3, x4, x5, x6, x7, x8, x9, x10] = .ok .nx e
  | [], _, _, _, _, _, _, _, _, _, _, _ => ⟨_, rfl⟩
  | d :: ds, hd, x1, x2, x3, x4, x5, x6, x7, x8, x9, x10 => by
    obtain ⟨y2, y3, y4, y5, y6, y7, y8, y9, y10, h⟩ := cell_ok (ns := ns) d (hd d List.mem_cons_self) x2 x3 x4 x5 x6 x7 x8 x9 x10
    obtain ⟨e, ih⟩ := cells_loop ds (fun x hx => hd x (List.mem_cons_of_mem _ hx)) (some (.int d)) y2 y3 y4 y5 y6 y7 y8 y9 y10
    refine ⟨e, ?_⟩
    rw [List.map_cons]
    unfold forL
    simp only [tgSet, setV, List.set_cons_succ, List.set_cons_zero]
    rw [h]
    exact ih
theorem for_of {C : Cfg} {cs : Calls} {tg : Tg} {it : VF.It} {b : Ss} {env e e2 : VF.Env} {ds : List PyData} (h1 : evIt C cs it env = .ok ds e2) (h2 : forL tg (fun e => exs C cs b e) ds e2 = .ok .nx e) : ex C cs (.for tg it b) env = .ok .nx e := by
  unfold ex
  rw [h1]
  exact h2
theorem ret_of {C : Cfg} {cs : Calls} {s : S} {env e : VF.Env} (h : ex C cs s env = .ok .nx e) : exs C cs (.cons s (.cons Klaw2 .nil)) env = .ok (.ret (.bool true)) e := by
  rw [Sy.exs_nx h]
  simp [Klaw2]
theorem law_it : evIt (cfg ns) (calls (cfg ns) tab 60) CIt [none, none, none, none, none, none, none, none, none, none, none] = .ok (((ns.length : Int) :: ns.take 4).map .int) [none, none, none, none, none, none, none, none, none, none, none] := by
  have hscr : (cfg ns).scr = ns := rfl
  have g3 : 1 + min 4 ns.length ≤ 1000000 := by omega
  simp [CIt, lim, hscr, g3, il]
theorem bits_log {z : Int} (h : Builtin.Int.intBits z ≤ 1048576) : z.natAbs.log2 < 1900000 := by
  unfold Builtin.Int.intBits at h
  split at h
  · rename_i e
    have e : z = 0 := by simpa using e
    rw [e]
    decide
  · omega
theorem law_run (h63 : ns.length ≤ 63) (hb : ∀ z ∈ ns, Builtin.Int.intBits z ≤ 1048576) : ∃ e, exs (cfg ns) (calls (cfg ns) tab 60) b_law (List.replicate r_law.N.length none) = .ok (.ret (.bool true)) e := by
  have hcell : ∀ d ∈ ((ns.length : Int) :: ns.take 4), d.natAbs.log2 < 1900000 := fun d hd => by
    rcases List.mem_cons.mp hd with rfl | h
    · have := lg4 (x := (ns.length : Int)) (Nat.lt_of_lt_of_le (show _ < 2 ^ 200 by omega) (by decide))
      omega
    · exact bits_log (hb d (List.mem_of_mem_take h))
  obtain ⟨e, h⟩ := cells_loop (ns := ns) ((ns.length : Int) :: ns.take 4) hcell none none none none none none none none none none
  refine ⟨e, ?_⟩
  have hN : List.replicate r_law.N.length (none : Option PyData) = [none, none, none, none, none, none, none, none, none, none, none] := rfl
  rw [hN, Klaw_eq]
  exact ret_of (for_of law_it h)
end
end Ma
set_option Elab.async false
set_option maxRecDepth 100000
set_option maxHeartbeats 0
namespace Pr
open PySem PySem.Spec PyProof.Rows L2 VF
structure All (r : VF.Row) : Prop where
  ex : ∃ st b, RowOk pg tab st r b ∧ BindP st r kls ∧ ddOf r st ∈ Hd.fn ∧ He.Fa.glo r.name ∈ Hd.fa ∧ (r.name == ("__debug__" : Str)) = false ∧ (r.lam = true → (r.name, none) ∈ Hd.tf)
theorem al_holds_levels : All r_holds_levels := ⟨_, _, ok_holds_levels, bp_holds_levels, List.mem_of_getElem? (show Hd.fn[0]? = some (ddOf r_holds_levels (Hd.top 7)) from rfl), List.mem_of_getElem? (show Hd.fa[0]? = some (.glo (r_holds_levels).name) from rfl), by decide, by decide +kernel⟩
theorem al_check_levels : All r_check_levels := ⟨_, _, ok_check_levels, bp_check_levels, List.mem_of_getElem? (show Hd.fn[1]? = some (ddOf r_check_levels (Hd.top 8)) from rfl), List.mem_of_getElem? (show Hd.fa[1]? = some (.glo (r_check_levels).name) from rfl), by decide, by decide +kernel⟩
theorem al_inner_of : All r_inner_of := ⟨_, _, ok_inner_of, bp_inner_of, List.mem_of_getElem? (show Hd.fn[2]? = some (ddOf r_inner_of (Hd.top 10)) from rfl), List.mem_of_getElem? (show Hd.fa[2]? = some (.glo (r_inner_of).name) from rfl), by decide, by decide +kernel⟩
theorem al_stretches_within : All r_stretches_within := ⟨_, _, ok_stretches_within, bp_stretches_within, List.mem_of_getElem? (show Hd.fn[3]? = some (ddOf r_stretches_within (Hd.top 11)) from rfl), List.mem_of_getElem? (show Hd.fa[3]? = some (.glo (r_stretches_within).name) from rfl), by decide, by decide +kernel⟩
theorem al_whole_of : All r_whole_of := ⟨_, _, ok_whole_of, bp_whole_of, List.mem_of_getElem? (show Hd.fn[4]? = some (ddOf r_whole_of (Hd.top 12)) from rfl), List.mem_of_getElem? (show Hd.fa[4]? = some (.glo (r_whole_of).name) from rfl), by decide, by decide +kernel⟩
theorem al_page_stretches : All r_page_stretches := ⟨_, _, ok_page_stretches, bp_page_stretches, List.mem_of_getElem? (show Hd.fn[5]? = some (ddOf r_page_stretches (Hd.top 14)) from rfl), List.mem_of_getElem? (show Hd.fa[5]? = some (.glo (r_page_stretches).name) from rfl), by decide, by decide +kernel⟩
theorem al__all_stretches : All r__all_stretches := ⟨_, _, ok__all_stretches, bp__all_stretches, List.mem_of_getElem? (show Hd.fn[6]? = some (ddOf r__all_stretches (Hd.top 15)) from rfl), List.mem_of_getElem? (show Hd.fa[6]? = some (.glo (r__all_stretches).name) from rfl), by decide, by decide +kernel⟩
theorem al_inner_stretches : All r_inner_stretches := ⟨_, _, ok_inner_stretches, bp_inner_stretches, List.mem_of_getElem? (show Hd.fn[7]? = some (ddOf r_inner_stretches (Hd.top 16)) from rfl), List.mem_of_getElem? (show Hd.fa[7]? = some (.glo (r_inner_stretches).name) from rfl), by decide, by decide +kernel⟩
theorem al__holds_stretch : All r__holds_stretch := ⟨_, _, ok__holds_stretch, bp__holds_stretch, List.mem_of_getElem? (show Hd.fn[8]? = some (ddOf r__holds_stretch (Hd.top 17)) from rfl), List.mem_of_getElem? (show Hd.fa[8]? = some (.glo (r__holds_stretch).name) from rfl), by decide, by decide +kernel⟩
theorem al__law_source : All r__law_source := ⟨_, _, ok__law_source, bp__law_source, List.mem_of_getElem? (show Hd.fn[9]? = some (ddOf r__law_source (Hd.top 19)) from rfl), List.mem_of_getElem? (show Hd.fa[9]? = some (.glo (r__law_source).name) from rfl), by decide, by decide +kernel⟩
theorem al__law_draw : All r__law_draw := ⟨_, _, ok__law_draw, bp__law_draw, List.mem_of_getElem? (show Hd.fn[10]? = some (ddOf r__law_draw (Hd.top 20)) from rfl), List.mem_of_getElem? (show Hd.fa[10]? = some (.glo (r__law_draw).name) from rfl), by decide, by decide +kernel⟩
theorem al__law_same : All r__law_same := ⟨_, _, ok__law_same, bp__law_same, List.mem_of_getElem? (show Hd.fn[11]? = some (ddOf r__law_same (Hd.top 21)) from rfl), List.mem_of_getElem? (show Hd.fa[11]? = some (.glo (r__law_same).name) from rfl), by decide, by decide +kernel⟩
theorem al__law_levels : All r__law_levels := ⟨_, _, ok__law_levels, bp__law_levels, List.mem_of_getElem? (show Hd.fn[12]? = some (ddOf r__law_levels (Hd.top 22)) from rfl), List.mem_of_getElem? (show Hd.fa[12]? = some (.glo (r__law_levels).name) from rfl), by decide, by decide +kernel⟩
theorem al__law_stretches : All r__law_stretches := ⟨_, _, ok__law_stretches, bp__law_stretches, List.mem_of_getElem? (show Hd.fn[13]? = some (ddOf r__law_stretches (Hd.top 23)) from rfl), List.mem_of_getElem? (show Hd.fa[13]? = some (.glo (r__law_stretches).name) from rfl), by decide, by decide +kernel⟩
theorem al__law_inner : All r__law_inner := ⟨_, _, ok__law_inner, bp__law_inner, List.mem_of_getElem? (show Hd.fn[14]? = some (ddOf r__law_inner (Hd.top 24)) from rfl), List.mem_of_getElem? (show Hd.fa[14]? = some (.glo (r__law_inner).name) from rfl), by decide, by decide +kernel⟩
theorem al__law_bad_levels : All r__law_bad_levels := ⟨_, _, ok__law_bad_levels, bp__law_bad_levels, List.mem_of_getElem? (show Hd.fn[15]? = some (ddOf r__law_bad_levels (Hd.top 25)) from rfl), List.mem_of_getElem? (show Hd.fa[15]? = some (.glo (r__law_bad_levels).name) from rfl), by decide, by decide +kernel⟩
theorem al__law_told : All r__law_told := ⟨_, _, ok__law_told, bp__law_told, List.mem_of_getElem? (show Hd.fn[16]? = some (ddOf r__law_told (Hd.top 26)) from rfl), List.mem_of_getElem? (show Hd.fa[16]? = some (.glo (r__law_told).name) from rfl), by decide, by decide +kernel⟩
theorem al__law_inner_right : All r__law_inner_right := ⟨_, _, ok__law_inner_right, bp__law_inner_right, List.mem_of_getElem? (show Hd.fn[17]? = some (ddOf r__law_inner_right (Hd.top 27)) from rfl), List.mem_of_getElem? (show Hd.fa[17]? = some (.glo (r__law_inner_right).name) from rfl), by decide, by decide +kernel⟩
theorem al__law_refused_right : All r__law_refused_right := ⟨_, _, ok__law_refused_right, bp__law_refused_right, List.mem_of_getElem? (show Hd.fn[18]? = some (ddOf r__law_refused_right (Hd.top 28)) from rfl), List.mem_of_getElem? (show Hd.fa[18]? = some (.glo (r__law_refused_right).name) from rfl), by decide, by decide +kernel⟩
theorem alls : ∀ r ∈ ents.map (·.1), All r := by
  intro r h
  simp only [ents, List.map_cons, List.map_nil, List.mem_cons, List.not_mem_nil, or_false] at h
  rcases h with rfl | rfl | rfl | rfl | rfl | rfl | rfl | rfl | rfl | rfl | rfl | rfl | rfl | rfl | rfl | rfl | rfl | rfl | rfl
  · exact al_holds_levels
  · exact al_check_levels
  · exact al_inner_of
  · exact al_stretches_within
  · exact al_whole_of
  · exact al_page_stretches
  · exact al__all_stretches
  · exact al_inner_stretches
  · exact al__holds_stretch
  · exact al__law_source
  · exact al__law_draw
  · exact al__law_same
  · exact al__law_levels
  · exact al__law_stretches
  · exact al__law_inner
  · exact al__law_bad_levels
  · exact al__law_told
  · exact al__law_inner_right
  · exact al__law_refused_right
theorem mem_rows {r : VF.Row} (h : r ∈ rows) (hl : r.name ≠ "law") : r ∈ ents.map (·.1) := by
  rw [rows_eq] at h
  rcases List.mem_append.mp h with h | h
  · exact h
  · rw [List.mem_singleton.mp h] at hl
    exact absurd rfl hl
def faC : He.Fa → Nat × Str × Str × Int × Bool × Option Str
  | .glo x => (0, x, x, 0, false, none)
  | .free x => (1, x, x, 0, false, none)
  | .int x i => (2, x, x, i, false, none)
  | .str x z => (3, x, z, 0, false, none)
  | .cls x => (4, x, x, 0, false, none)
  | .noat x f => (5, x, f, 0, false, none)
  | .meth x m => (6, x, m, 0, false, none)
  | .mkr x => (7, x, x, 0, false, none)
  | .exc x => (8, x, x, 0, false, none)
  | .exm x y b => (9, x, y, 0, b, none)
  | .keep x => (10, x, x, 0, false, none)
  | .code p q => (11, p.1, q, 0, false, p.2)
theorem faC_inj {a b : He.Fa} (h : faC a = faC b) : a = b := by
  cases a <;> cases b <;> simp [faC] at h <;> simp_all
  rename_i p q p' q'
  obtain ⟨h1, h2, h3⟩ := h
  exact Prod.ext h1 h3
instance faDec : DecidableEq He.Fa := fun a b => if h : faC a = faC b then .isTrue (faC_inj h) else .isFalse fun e => h (congrArg faC e)
theorem mem_lk {α β : Type} [BEq α] [LawfulBEq α] : ∀ {l : List (α × β)} {a : α} {b : β}, l.lookup a = some b → (a, b) ∈ l
  | (k, v) :: r, a, b, h => by
    rw [List.lookup_cons] at h
    by_cases q : (a == k) = true
    · rw [q] at h
      cases h
      rw [eq_of_beq q]
      exact List.mem_cons_self
    · rw [Bool.not_eq_true] at q
      rw [q] at h
      exact List.mem_cons_of_mem _ (mem_lk h)
/-- scripts that the law is asked of -/
def okS (ns : List Int) : Prop := ns.length ≤ 63 ∧ ∀ z ∈ ns, Builtin.Int.intBits z ≤ 1048576
abbrev lawR : PySem.W.OpenLaw := PySem.Challenge.rw_oneshape_k29_whole_page_stretches
theorem law_at {w : World} {h : Heap} {K : PySem.W.Frag} {mg : Str → Option Value} {k : Nat} (KX : K.In h) (c : He.SaysX Hd.fa Hd.fn [] Hd.tf Hd.ex1 w h K) (hroom : RoomG (k + 1) callerA)
    (run : ∀ ns, okS ns → ∃ e, exs (cfg ns) (calls (cfg ns) tab k) b_law (List.replicate r_law.N.length none) = .ok (.ret (.bool true)) e) :
    LawG lawR w K (L2.CX lawR.prog w) 63 mg (He.ga K "law") h := by
  have hlaw : ddOf r_law (Hd.top 29) ∈ Hd.fn := List.mem_of_getElem? (show Hd.fn[19]? = some (ddOf r_law (Hd.top 29)) from rfl)
  have tnd : (Hd.tf.map fun q => (He.cT K q).2).Nodup := of_decide_eq_true (Bool.and_eq_true_iff.mp c.more).1
  refine ⟨Hd.tf.map (He.cT K), fun p hp => ?_, fun p hp => ?_, fun p hp => ?_, fun s1 a ns base H hlen hbits KB GB hT hH hS e0 => ?_⟩
  · obtain ⟨q, hq, rfl⟩ := List.mem_map.mp hp
    exact c.empty q hq
  · obtain ⟨q, hq, rfl⟩ := List.mem_map.mp hp
    exact c.out q hq
  · obtain ⟨q, hq, rfl⟩ := List.mem_map.mp hp
    exact PySem.W.codeHd_of_K KX (c.hd q hq)
  · obtain ⟨fd, D⟩ := defF_of (P := lawR.prog) (kl := kls) c KB GB hT tnd hlaw (List.mem_of_getElem? (show Hd.fa[19]? = some (.glo (r_law).name) from rfl)) (by decide) (fun z => by cases z) bp_law
    refine law_okG (Y := ⟨lawR.prog, w, K, mg, base, tabsOf K Hd.tf, kls⟩) (C := cfg) (p := pg) (tab := tab) (ok := okS) (fun ns => base_of (p := pg) (C := cfg ns) (P := lawR.prog) c KB GB rfl rfl ?_ ?_ ?_ ?_ ?_) (fun ns => rfl) (fun r hr hl => ?_) ok_law D run ⟨hlen, hbits⟩ hroom e0 (fun p hp => ?_) hS
    · decide +kernel
    · decide +kernel
    · decide +kernel
    · refine fun x hx => ⟨(show ∀ y ∈ pg.hcl, He.Fa.glo y ∈ Hd.fa by decide +kernel) x hx, (show ∀ y ∈ pg.hcl, (y == ("__debug__" : Str)) = false by decide +kernel) x hx, fun xc b hb => ?_⟩
      have hm := mem_lk hb
      exact (show ∀ e ∈ exms, He.Fa.exm e.1.1 e.1.2 e.2 ∈ Hd.fa ∧ He.Fa.glo e.1.1 ∈ Hd.fa by decide +kernel) _ hm
    · exact fun q hq => ⟨(show ∀ q ∈ pg.isx, He.Fa.glo q.1.1 ∈ Hd.fa by decide +kernel) q hq, (show ∀ q ∈ pg.isx, He.Fa.glo q.1.2 ∈ Hd.fa by decide +kernel) q hq, (show ∀ q ∈ pg.isx, (q.1.2 == ("__debug__" : Str)) = false by decide +kernel) q hq, List.all_eq_true.mp (Bool.and_eq_true_iff.mp c.more).2 q hq⟩
    · obtain ⟨st, b, h1, h2, h3, h4, h5, h6⟩ := (alls r (mem_rows (List.mem_of_find?_eq_some hr) hl)).ex
      obtain ⟨fd3, D3⟩ := defF_of (P := lawR.prog) (kl := kls) c KB GB hT tnd h3 h4 h5 h6 h2
      exact ⟨st, b, _, _, h1, D3⟩
    · obtain ⟨q, hq, rfl⟩ := List.mem_map.mp hp
      exact LamX.TabS.nil (hH _ (List.mem_map.mpr ⟨q, hq, rfl⟩))
end Pr
set_option Elab.async false
set_option linter.all false
set_option maxRecDepth 100000
set_option maxHeartbeats 0
open PySem PySem.W PySem.Calls PyProof.Rows
theorem Pr.holds_of (run : ∀ ns, Pr.okS ns → ∃ e, VF.exs (Pr.cfg ns) (VF.calls (Pr.cfg ns) Pr.tab 60) Pr.b_law (List.replicate Pr.r_law.N.length none) = .ok (.ret (.bool true)) e) : PySem.Challenge.rw_oneshape_k29_whole_page_stretches.Holds := by
  w_on; o_law
  refine HandSHeadRun.head_any (r := OpenLaw.row PySem.Challenge.rw_oneshape_k29_whole_page_stretches) (q := view (OpenLaw.row PySem.Challenge.rw_oneshape_k29_whole_page_stretches).prog [29]) (H := Hd.hk) (ob := Hd.ob) (M := 8000) (loose := Hd.loose) (d := HandSHeadRun.topDef (OpenLaw.row PySem.Challenge.rw_oneshape_k29_whole_page_stretches).prog 29) (kwd := []) Hd.ob_eq
    (by kernel_rfl) (fun s => by kernel_rfl) Hd.run (by kernel_rfl) (by kernel_rfl) (by kernel_rfl) (by rfl) (by first | assumption | decide +kernel) (by decide +kernel) ⟨rfl, rfl, rfl, rfl, rfl, by decide +kernel⟩ ?hw ?hc
  case hw => w_witness2
  case hc =>
    refine VF.walk_end (l := PySem.Challenge.rw_oneshape_k29_whole_page_stretches) (n := 63) (CXX := fun w => L2.CX Pr.lawR.prog w) rfl (by decide) (by kernel_rfl) ?F (fun w H s e s' h => ?_)
    case F =>
      intro w mg fa h Y G hmg0
      obtain ⟨K, KX, c⟩ := Y
      have e : (HandSHeadRun.topDef (OpenLaw.row PySem.Challenge.rw_oneshape_k29_whole_page_stretches).prog 29).name = ("law" : PySem.Str) := by kernel_rfl
      have hmg : mg ("law" : PySem.Str) = some (.ref fa) := by
        rw [← e]
        exact hmg0
      have hgl := He.glo_ok KX G (c.t.d.facts (List.mem_of_getElem? (show Hd.fa[19]? = some (.glo "law") from rfl)))
      have efa : fa = He.ga K "law" := by
        rw [hgl] at hmg
        cases hmg
        rfl
      subst efa
      exact ⟨K, KX, Pr.law_at (k := 60) KX c ⟨⟨rfl, by decide, by decide⟩, rfl⟩ run⟩
    · obtain ⟨_, _, _, _, _, _, _, _, _, _, _, _, z⟩ := h
      exact z.elim
open PySem PySem.W PyProof.Rows
theorem PySem.Challenge.cw_oneshape_k29_whole_page_stretches_holds : PySem.Challenge.rw_oneshape_k29_whole_page_stretches.Holds := by
  exact Pr.holds_of fun ns h => Ma.law_run h.1 h.2
