/- The sectors that have contents, in order. -/
import Derived.Test.YtnocgfhcamnjdaaQa
import Derived.Test.YtnocgfhcamnjdaaS
namespace Go.Proofs.Ytnocgfhcamnjdaa
open Go.RowKit Go.Lib Go.Maps Go.WideElems Go.Shelf Go.WideShapes

/-- The sectors below n that occur. -/
def keysL (n : Nat) (l : List Ca) : List Int := ((List.range n).filter fun (i : Nat) => !(G l (i : Int)).isEmpty).map fun (i : Nat) => (i : Int)
theorem keysL_mem {n : Nat} {l : List Ca} {κ : Int} (h : κ ∈ keysL n l) : 0 ≤ κ ∧ κ < n ∧ G l κ ≠ [] := by
  unfold keysL at h
  obtain ⟨i, hi, rfl⟩ := List.mem_map.1 h
  obtain ⟨h1, h2⟩ := List.mem_filter.1 hi
  refine ⟨by omega, by have := List.mem_range.1 h1; omega, fun e => ?_⟩
  rw [e] at h2
  simp at h2
theorem keysL_has {n : Nat} {l : List Ca} {κ : Int} (h0 : 0 ≤ κ) (h1 : κ < n) (h2 : G l κ ≠ []) : κ ∈ keysL n l := by
  unfold keysL
  refine List.mem_map.2 ⟨κ.toNat, List.mem_filter.2 ⟨List.mem_range.2 (by omega), ?_⟩, by omega⟩
  rw [show ((κ.toNat : Nat) : Int) = κ by omega]
  cases h : G l κ with
  | nil => exact absurd h h2
  | cons a t => rfl
theorem keysL_sorted (n : Nat) (l : List Ca) : (keysL n l).Pairwise (fun a b => a < b) := by
  unfold keysL
  rw [List.pairwise_map]
  exact (List.pairwise_lt_range.filter _).imp (fun {a b} h => by omega)
def rU (H : Type) : Value → Option (DataW H × List MemPlace) := fun _ => some (.nil, [])
/-- The number of an entry. -/
def kz (e : MapEntry) : Int := match e.key with
  | .int _ a => a
  | _ => 0
set_option maxRecDepth 100000 in
theorem occ_owns {w : World} {bm : Nat} {l : List Ca} (h : Occ w bm l) (hl : l.length ≤ 1000000) : ∃ D : DataW Unit, w.ownsMap Try.prog 3 (rU Unit) bm l.length D ∧ Maps.size D ≤ 1000000 ∧ ∀ ss : List Int, ss.Perm (intKeys D) → ss.Nodup ∧ ∀ κ, κ ∈ ss ↔ (R64 κ ∧ G l κ ≠ []) := by
  obtain ⟨es, clock, hb, hs, hn, hr, hall, hap⟩ := h
  have hrd : ∀ x ∈ es.toList, ∃ y, rd Try.prog 3 (rU Unit) x = some y ∧ y.1 = .int .i64 (kz x) := fun x hx => by
    obtain ⟨κ, q1, q2, _⟩ := hr x hx
    refine ⟨(.int .i64 κ, .nil), ?_, by unfold kz; rw [q2]⟩
    unfold rd
    rw [q2, key_of q1]
    rfl
  have F : Fit Try.prog 3 (rU Unit) es clock := ⟨by unfold maxLen; omega, hs, fun x hx => by obtain ⟨y, hy, _⟩ := hrd x hx; exact ⟨y, hy⟩⟩
  refine ⟨_, ⟨es, clock, hb, F, hn, rfl⟩, ?_, fun ss hp => ?_⟩
  · have : (es.toList.map (rg Try.prog 3 (rU Unit))).length ≤ 1000000 := by rw [List.length_map]; have : es.toList.length = es.size := Array.length_toList; omega
    have h2 := (sorted_perm (es.toList.map (rg Try.prog 3 (rU Unit)))).length_eq
    show ((es.toList.map (rg Try.prog 3 (rU Unit))).foldr DataW.insert []).length ≤ 1000000
    omega
  · have hpk : (intKeys (DataW.map ((es.toList.map (rg Try.prog 3 (rU Unit))).foldr DataW.insert []))).Perm (es.toList.map kz) := by
      show (((es.toList.map (rg Try.prog 3 (rU Unit))).foldr DataW.insert []).map fun p => Go.intOf p.1).Perm _
      refine ((sorted_perm _).map _).trans ?_
      rw [List.map_map]
      refine List.Perm.of_eq (List.map_congr_left fun x hx => ?_)
      obtain ⟨y, hy, hy1⟩ := hrd x hx
      show Go.intOf (rg Try.prog 3 (rU Unit) x).1 = kz x
      rw [rg_of hy, hy1]
      rfl
    have hpp := hp.trans hpk
    refine ⟨(hpp.nodup_iff).2 ?_, fun κ => ?_⟩
    · have hnd := hs.2.2
      refine List.pairwise_map.2 ?_
      have hnd2 := List.pairwise_map.1 hnd
      refine hnd2.imp_of_mem fun {x y} hx hy hne e => hne ?_
      obtain ⟨κ, _, q2, _⟩ := hr x hx
      obtain ⟨κ', _, q2', _⟩ := hr y hy
      unfold kz at e
      rw [q2, q2'] at e
      dsimp only at e
      rw [q2, q2', e]
    · rw [hpp.mem_iff, List.mem_map]
      constructor
      · rintro ⟨x, hx, rfl⟩
        obtain ⟨κ, q1, q2, q3, _⟩ := hr x hx
        have : kz x = κ := by unfold kz; rw [q2]
        rw [this]
        exact ⟨q1, q3⟩
      · rintro ⟨h1, h2⟩
        obtain ⟨e, he, hek⟩ := hall κ h1 h2
        exact ⟨e, he, by unfold kz; rw [hek]⟩
theorem keys_one {n : Nat} {l : List Ca} {ss : List Int} (hk : chkC n l = 0) (hn : n ≤ 1000000) (h1 : ss.Nodup) (h2 : ∀ κ, κ ∈ ss ↔ (R64 κ ∧ G l κ ≠ [])) : ss.mergeSort (fun x y => decide (x ≤ y)) = keysL n l := by
  have tr : ∀ a b c : Int, decide (a ≤ b) = true → decide (b ≤ c) = true → decide (a ≤ c) = true := fun a b c h1 h2 => by simp only [decide_eq_true_eq] at *; omega
  have tt : ∀ a b : Int, (decide (a ≤ b) || decide (b ≤ a)) = true := fun a b => by simp only [Bool.or_eq_true, decide_eq_true_eq]; omega
  refine List.Perm.eq_of_pairwise (le := fun a b => decide (a ≤ b) = true) (fun a b _ _ h1 h2 => ?_) (List.pairwise_mergeSort tr tt ss) ((keysL_sorted n l).imp (fun {a b} h => decide_eq_true (by omega))) ((List.mergeSort_perm ss _).trans ?_)
  · simp only [decide_eq_true_eq] at h1 h2
    omega
  · refine (List.perm_ext_iff_of_nodup h1 ((keysL_sorted n l).imp (fun {a b} h => by omega))).2 fun κ => ?_
    rw [h2 κ]
    constructor
    · rintro ⟨_, hg⟩
      obtain ⟨s, hs⟩ : ∃ s, s ∈ G l κ := by
        cases h : G l κ with
        | nil => exact absurd h hg
        | cons a t => exact ⟨a, List.mem_cons_self ..⟩
      obtain ⟨h3, h4⟩ := chkC_mem hk _ (g_mem hs)
      exact keysL_has h3 h4 hg
    · intro h
      obtain ⟨h3, h4, h5⟩ := keysL_mem h
      exact ⟨⟨by omega, by omega⟩, h5⟩
/-- slices.Sort's two contracts, at the fence that asks nothing. -/
theorem sortsA (m : Nat) : AnyZI.SortsIn Try.prog Try.sortedA_ren Fence.wide m :=
  ⟨fun blk off cap ss W hH hblk hsz => callsIn_wide.2 (AnyM.slices_Sort_int Try.sortA blk off cap ss W hH hblk hsz),
   fun p cap W => callsIn_wide.2 (AnyM.slices_Sort_int_none Try.sortA p cap W)⟩
set_option maxHeartbeats 1000000 in
set_option maxRecDepth 100000 in
theorem dkSectors_any (bm n : Nat) (l : List Ca) (w : World) (ho : Occ w bm l) (hl : l.length ≤ 1000000) (hk : chkC n l = 0) (hn : n ≤ 1000000) :
    Calls Try.prog 53 #[.map (some bm)] w fun e w' => ∃ v, e = .returned v ∧ w'.ownsRow w.heap.size 3 1 v (keysL n l).length ((keysL n l).map intV) ∧ Below w.heap.size w w' := by
  obtain ⟨D0, hown, hsz, hkeys⟩ := occ_owns ho hl
  refine (callsIn_wide (n := 6)).1 ?_
  have hbl := hown.lt
  have hseq : SeqGives Fence.wide 2 Try.prog 67 #[.pointer (some ⟨w.heap.size, 0, none⟩)] encZ (fun ss => ss.Perm (intKeys D0)) (Maps.size D0) (w.alloc (.cells #[.map (some bm)] 106)) :=
    AnyZI.keys_gives (ρ := Try.keysA_ren) { Try.keysA with } Fence.wide _ trivial rfl (by omega) w.heap.size bm l.length D0 _ (by simp) (by simp) (by
      obtain ⟨es, clock, hb, Ft, hs, hD⟩ := hown
      exact ⟨es, clock, (Below.heap_alloc _ _ bm hbl).trans hb, Ft, hs, hD⟩)
  have cK : ∀ mb W, CallsIn Fence.wide 5 Try.prog 64 #[.map mb] W fun e w' => e = .returned (.func (.func 67) #[] #[.pointer (some ⟨W.heap.size, 0, none⟩)]) ∧ w' = W.alloc (.cells #[.map mb] 106) := fun mb W => AnyZI.keys_in Try.keysA Fence.wide 5 trivial rfl mb W
  have cS := AnyZI.sorted_in Try.sortedA Fence.wide 5 trivial trivial trivial trivial rfl (by omega) (sortsA _) (enters_of Try.func66 (by kernel_rfl) rfl) 67 #[.pointer (some ⟨w.heap.size, 0, none⟩)] trivial (enters_of Try.func67 (by kernel_rfl) rfl) _ _ (by unfold maxLen; omega) (by omega) _ hseq
  change CallsIn _ _ Try.prog 63 _ _ _ at cS
  have hfK : Fence.wide.fn 64 := trivial
  have hfS : Fence.wide.fn 63 := trivial
  refine callsIn_of_wp Try.func53 rfl trivial ?_ rfl
  simp only [Try.ntmps53, List.size_toArray, List.length_cons, List.length_nil, Nat.reduceAdd, Nat.reduceSub, Array.replicate_succ, Array.replicate_zero, List.push_toArray, List.append_toArray, List.nil_append, List.cons_append]
  gi_wp2_with (first
    | (gi_at_call 64; refine (cK _ _).mono ?_; rintro e w' ⟨rfl, rfl⟩)
    | (gi_at_call 63; refine cS.mono ?_; rintro e w' ⟨v, ss, rfl, hS, hrow, hnil, hb⟩))
  go_ret
  obtain ⟨h1, h2⟩ := hkeys ss hS
  have he := keys_one hk hn h1 h2
  have hlen : ss.length = (keysL n l).length := by rw [← he, (List.mergeSort_perm ss _).length_eq]
  rw [he, hlen] at hrow
  exact ⟨v, rfl, own_base hrow (by simp), ((Below.refl _ w).alloc (Nat.le_refl _) _).trans (hb.mono (by simp))⟩
end Go.Proofs.Ytnocgfhcamnjdaa
