/- Superblock: the reference's Format 12; the walk of Formats. -/
import Derived.Test.YtnocgfhcamnjdaaAx
namespace Go.Proofs.Ytnocgfhcamnjdaa
open Go.RowKit Go.Lib

theorem sec_of_heap {w : World} {g n : Nat} (h : w.heap[g]? = some (.cells (laid [] n).toArray 57)) (hn : n ≤ maxLen) : Sec w (.slice (some ⟨g, 0, none⟩) n n) (List.replicate n zs) := by
  refine ⟨rep_secs n, arr_at (fun r hr => ?_) (by rw [List.length_map, List.length_replicate]) (Nat.le_refl _) hn h (fun k u hu => by rw [laid_rep]; simpa using hu)⟩
  obtain ⟨s, hs, rfl⟩ := List.mem_map.1 hr
  rw [List.eq_of_mem_replicate hs]
  rfl
theorem fmt_ops {w : World} {g16 h25 c24 : Nat} {A24 : Option Addr} {SN : List Sect} (a : Int) (hr : R64 a) (h : w.heap[h25]? = some (.cells #[.int .i64 0, .int .i64 a, .slice (some ⟨g16, 0, none⟩) 16 16, .int .i64 1, .int .i64 0, .slice none 0 0, .int .i64 0, .int .i64 a, .slice A24 8 c24, .int .i64 1, .int .i64 0, .slice none 0 0] 75)) (h1 : Sec w (.slice (some ⟨g16, 0, none⟩) 16 16) (List.replicate 16 zs)) (h2 : Sec w (.slice A24 8 c24) SN) (hn : NilOk (.slice A24 8 c24)) : OpsA w (.slice (some ⟨h25, 0, none⟩) 4 4) (repO a (.slice (some ⟨g16, 0, none⟩) 16 16) (List.replicate 16 zs) ++ repO a (.slice A24 8 c24) SN) := by
  refine ⟨fun x hx => ?_, arr_at (fun r hr => ?_) rfl (Nat.le_refl _) (by unfold maxLen; omega) h (fun k u hu => ?_)⟩
  · rcases List.mem_append.1 hx with hx | hx
    · exact repO_ok h1 (nilOk_some _ _ _) hr x hx
    · exact repO_ok h2 hn hr x hx
  · obtain ⟨s, _, rfl⟩ := List.mem_map.1 hr
    rfl
  · rw [List.getElem?_toArray]; exact hu
theorem cut5 {G : World → Nat → Option Addr → Nat → Nat → Prop} {R : Prop} (F : World → Nat → Option Addr → Nat → Nat → Prop) (main : (∀ X p A c h, F X p A c h → G X p A c h) → R) (cont : ∀ X p A c h, F X p A c h → G X p A c h) : R := main cont
set_option maxHeartbeats 2000000 in
set_option maxRecDepth 100000 in
theorem refFormat_any (a : Int) (p : List Nat) (v : Value) (w : World) (hv : Byt w v p) (hr : R64 a) :
    Calls Try.prog 12 #[.int .i64 a, v] w (MadeOps w (fmtE a p) (fmtC a p)) := by
  obtain ⟨A, c, rfl⟩ := byt_form hv
  by_cases h1 : a < 0
  · have e1 : fmtE a p = 2 := by unfold fmtE; rw [if_pos (Or.inl h1)]
    have e2 : fmtC a p = [] := by unfold fmtC; rw [e1]; rfl
    rw [e1, e2]
    have d1 : decide (a < 0) = true := decide_eq_true h1
    go_enter Try.func12, Try.ntmps12
    go_wp2_with fail
    go_ret2
    exact madeOps_er (Below.refl _ _)
  have d1 : decide (a < 0) = false := decide_eq_false h1
  by_cases h2 : 4080 < a
  · have e1 : fmtE a p = 2 := by unfold fmtE; rw [if_pos (Or.inr h2)]
    have e2 : fmtC a p = [] := by unfold fmtC; rw [e1]; rfl
    rw [e1, e2]
    have d2 : decide (4080 < a) = true := decide_eq_true h2
    go_enter Try.func12, Try.ntmps12
    go_wp2_with fail
    go_ret2
    exact madeOps_er (Below.refl _ _)
  have d2 : decide (4080 < a) = false := decide_eq_false h2
  obtain ⟨m, hm⟩ : ∃ m, p.length = m := ⟨_, rfl⟩
  by_cases h3 : 31 < m
  · have e1 : fmtE a p = 5 := by unfold fmtE; rw [if_neg (by omega), if_pos (by omega)]
    have e2 : fmtC a p = [] := by unfold fmtC; rw [e1]; rfl
    rw [e1, e2, hm]
    have d3 : decide (31 < (m : Int)) = true := decide_eq_true (by omega)
    have d3' : decide (31 < m) = true := decide_eq_true (by omega)
    go_enter Try.func12, Try.ntmps12
    go_wp2_with (go_at_call 30; refine (refCapacity_any w).mono ?_; rintro e X1 ⟨rfl, rfl⟩)
    go_ret2
    exact madeOps_er (Below.refl _ _)
  have e1 : fmtE a p = 0 := by unfold fmtE; rw [if_neg (by omega), if_neg (by omega)]
  have e2 : fmtC a p = repC a (List.replicate 16 zs) ++ repC a (secsN 1 8 (conL p)) := by unfold fmtC; rw [if_pos e1]
  rw [e1, e2, hm]
  have d3 : decide (31 < (m : Int)) = false := decide_eq_false (by omega)
  have d3' : decide (31 < m) = false := decide_eq_false (by omega)
  have hcl : (conL p).length = 32 := conL_len (by omega)
  have hc8 : B8 (conL p) := conL_b8 (by omega) hv.1
  obtain ⟨SN, hSN⟩ : ∃ X, secsN 1 8 (conL p) = X := ⟨_, rfl⟩
  have HSN : Hid (Secs SN ∧ SN.length = 8) := hid (hSN ▸ ⟨secsN_secs 1 8 _ hc8 (by omega), secsN_len 1 8 _⟩)
  have HC31 : Hid (∀ X, Below w.heap.size w X → Calls Try.prog 31 #[.int .u32 1, .slice A m c] X fun e w' => ∃ u, e = .returned u ∧ w'.ownsRow X.heap.size 57 8 u 8 (SN.map cSec).flatten ∧ Below X.heap.size X w') := hid (fun X hX => by
    have h := refCopy_any 1 p _ X (hv.below hX) (by omega) (by decide)
    unfold MadeS at h
    rw [hSN, HSN.out.2, hm] at h
    exact h)
  have hmk : ∀ W, (Instr.makeSlice 32 (.int .i64 16) (.int .i64 16)).run Try.prog W = .ok (.slice (some ⟨W.heap.size, 0, none⟩) 16 16) (W.alloc (.cells (laid [] 16).toArray 57)) := fun W => make22 W 16 (by omega)
  have HR := hid hr
  rw [hSN]
  clear hcl hc8 hSN hv e1 e2 hm hr
  go_enter Try.func12, Try.ntmps12
  go_upto_region 5 with (go_at_call 30; refine (refCapacity_any w).mono ?_; rintro e X1 ⟨rfl, rfl⟩)
  apply cut5 (fun X g16 A24 c24 h25 => OpsA X (.slice (some ⟨h25, 0, none⟩) 4 4) (repO a (.slice (some ⟨g16, 0, none⟩) 16 16) (List.replicate 16 zs) ++ repO a (.slice A24 8 c24) SN) ∧ Below X1.heap.size X1 X)
  · intro HC
    have HC := hid HC
    refine region_tail 9 (fun _ => True) (by kernel_rfl) ?_
    obtain ⟨X0, hX0⟩ : ∃ X, X1.drew = X := ⟨_, rfl⟩
    have hB0 : Below X1.heap.size X1 X0 := by rw [← hX0]; exact (Below.refl X1.heap.size X1).drew
    rw [hX0]
    clear hX0
    have hHeld := trivial
    refine' wpAnyT_take (i := 0) (oi := ?oiq1) (v := ?vq1) ?hiq1 (by kernel_rfl) (by kernel_rfl) ?hqq1 ?hyq1 hHeld ?restq1
    case hiq1 => (simp only [List.getElem?_toArray, List.getElem?_cons_zero]; rfl)
    case hqq1 => exact fun _ _ _ h => h
    case hyq1 => (refine Or.inl ⟨by rfl, ?_⟩; intro w' hSw; (try dsimp only at hSw); go_simp; try with_reducible rfl)
    (try simp only [Act.put, List.setIfInBounds_toArray, List.set_cons_zero, List.set_cons_succ])
    refine' wpAnyT_take (i := 3) (oi := ?oiq2) (v := ?vq2) ?hiq2 (by kernel_rfl) (by kernel_rfl) ?hqq2 ?hyq2 hHeld ?restq2
    case hiq2 => (simp only [List.getElem?_toArray, List.getElem?_cons_zero, List.getElem?_cons_succ]; rfl)
    case hqq2 => exact fun _ _ _ h => h
    case hyq2 => (refine Or.inl ⟨by rfl, ?_⟩; intro w' hSw; (try dsimp only at hSw); go_simp; try with_reducible rfl)
    (try simp only [Act.put, List.setIfInBounds_toArray, List.set_cons_zero, List.set_cons_succ])
    refine' wpAnyT_take (i := 4) (oi := ?oiq3) (v := ?vq3) ?hiq3 (by kernel_rfl) (by kernel_rfl) ?hqq3 ?hyq3 hHeld ?restq3
    case hiq3 => (simp only [List.getElem?_toArray, List.getElem?_cons_zero, List.getElem?_cons_succ]; rfl)
    case hqq3 => exact fun _ _ _ h => h
    case hyq3 => (refine Or.inl ⟨by rfl, ?_⟩; intro w' hSw; (try dsimp only at hSw); go_simp; try with_reducible rfl)
    (try simp only [Act.put, List.setIfInBounds_toArray, List.set_cons_zero, List.set_cons_succ])
    refine' wpAnyT_take (i := 5) (oi := ?oiq4) (v := ?vq4) ?hiq4 (by kernel_rfl) (by kernel_rfl) ?hqq4 ?hyq4 hHeld ?restq4
    case hiq4 => (simp only [List.getElem?_toArray, List.getElem?_cons_zero, List.getElem?_cons_succ]; rfl)
    case hqq4 => exact fun _ _ _ h => h
    case hyq4 => (refine Or.inl ⟨by rfl, ?_⟩; intro w' hSw; (try dsimp only at hSw); go_simp; try with_reducible rfl)
    (try simp only [Act.put, List.setIfInBounds_toArray, List.set_cons_zero, List.set_cons_succ])
    refine' wpAnyT_take (i := 8) (oi := ?oiq5) (v := ?vq5) ?hiq5 (by kernel_rfl) (by kernel_rfl) ?hqq5 ?hyq5 hHeld ?restq5
    case hiq5 => (simp only [List.getElem?_toArray, List.getElem?_cons_zero, List.getElem?_cons_succ]; rfl)
    case hqq5 => exact fun _ _ _ h => h
    case hyq5 => (refine Or.inl ⟨by rfl, ?_⟩; intro w' hSw; (try dsimp only at hSw); go_simp; try with_reducible rfl)
    (try simp only [Act.put, List.setIfInBounds_toArray, List.set_cons_zero, List.set_cons_succ])
    refine wpAnyT_all (l := [1, 6]) (by kernel_rfl) (by decide) ?_
    intro i hi
    simp only [List.mem_cons, List.not_mem_nil, or_false] at hi
    rcases hi with rfl | rfl
    · refine ⟨_, by (simp only [List.getElem?_toArray, List.getElem?_cons_zero, List.getElem?_cons_succ]; rfl), fun K hK => ?_⟩
      go_simp
      obtain ⟨Yq17, hY⟩ : ∃ X, X0.alloc (.cells (laid [] 16).toArray 57) = X := ⟨_, rfl⟩
      obtain ⟨g16, hh⟩ : ∃ h, X0.heap.size = h := ⟨_, rfl⟩
      have hbb17 : Below X0.heap.size X0 Yq17 := by rw [← hY]; exact al1 _ _
      have HZg16 : Hid (Yq17.heap[g16]? = some (.cells (laid [] 16).toArray 57)) := hid (by rw [← hY, ← hh]; exact heap_alloc_new _ _)
      rw [hY, hh]
      clear hY hh
      clear hHeld
      have hHeld := trivial
      refine hK.out _ _ (fun _ => hHeld) ?_
      clear hK K
      (try simp only [Act.put, List.setIfInBounds_toArray, List.set_cons_zero, List.set_cons_succ])
      refine' wpAnyT_take (i := 2) (oi := ?oiq6) (v := ?vq6) ?hiq6 (by kernel_rfl) (by kernel_rfl) ?hqq6 ?hyq6 hHeld ?restq6
      case hiq6 => (simp only [List.getElem?_toArray, List.getElem?_cons_zero, List.getElem?_cons_succ]; rfl)
      case hqq6 => exact fun _ _ _ h => h
      case hyq6 => (refine Or.inl ⟨by rfl, ?_⟩; intro w' hSw; (try dsimp only at hSw); go_simp; try with_reducible rfl)
      (try simp only [Act.put, List.setIfInBounds_toArray, List.set_cons_zero, List.set_cons_succ])
      refine' wpAnyT_one (i := 6) (o := ?oiq7) (by kernel_rfl) ?hiq7 (fun K hK => ?stq7)
      case hiq7 => (simp only [List.getElem?_toArray, List.getElem?_cons_zero, List.getElem?_cons_succ]; rfl)
      go_simp
      go_at_call 31
      refine (HC31.out Yq17 (below_both hB0 hbb17)).mono ?_
      rintro e Yq22 ⟨v24, rfl, ho24, hbb22⟩
      have HS24 := hid (sec_of_own24 ho24 HSN.out)
      have HN24 := hid (own_nilOkE ho24)
      obtain ⟨A24, c24, rfl⟩ := own_formE ho24
      clear ho24
      clear hHeld
      have hHeld := trivial
      refine hK.out _ _ (fun _ => hHeld) ?_
      clear hK K
      (try simp only [Act.put, List.setIfInBounds_toArray, List.set_cons_zero, List.set_cons_succ])
      refine' wpAnyT_take (i := 7) (oi := ?oiq8) (v := ?vq8) ?hiq8 (by kernel_rfl) (by kernel_rfl) ?hqq8 ?hyq8 hHeld ?restq8
      case hiq8 => (simp only [List.getElem?_toArray, List.getElem?_cons_zero, List.getElem?_cons_succ]; rfl)
      case hqq8 => exact fun _ _ _ h => h
      case hyq8 => (refine Or.inl ⟨by rfl, ?_⟩; intro w' hSw; (try dsimp only at hSw); go_simp; try with_reducible rfl)
      (try simp only [Act.put, List.setIfInBounds_toArray, List.set_cons_zero, List.set_cons_succ])
      refine' wpAnyT_one (i := 9) (o := ?oiq9) (by kernel_rfl) ?hiq9 (fun K hK => ?stq9)
      case hiq9 => (simp only [List.getElem?_toArray, List.getElem?_cons_zero, List.getElem?_cons_succ]; rfl)
      go_simp
      obtain ⟨Yq25, hY⟩ : ∃ X, Yq22.alloc (.cells #[.int .i64 0, .int .i64 a, .slice (some ⟨g16, 0, none⟩) 16 16, .int .i64 1, .int .i64 0, .slice none 0 0, .int .i64 0, .int .i64 a, .slice A24 8 c24, .int .i64 1, .int .i64 0, .slice none 0 0] 75) = X := ⟨_, rfl⟩
      obtain ⟨h25, hh⟩ : ∃ h, Yq22.heap.size = h := ⟨_, rfl⟩
      have hbb25 : Below Yq22.heap.size Yq22 Yq25 := by rw [← hY]; exact al1 _ _
      have HZh25 : Hid (Yq25.heap[h25]? = some (.cells #[.int .i64 0, .int .i64 a, .slice (some ⟨g16, 0, none⟩) 16 16, .int .i64 1, .int .i64 0, .slice none 0 0, .int .i64 0, .int .i64 a, .slice A24 8 c24, .int .i64 1, .int .i64 0, .slice none 0 0] 75)) := hid (by rw [← hY, ← hh]; exact heap_alloc_new _ _)
      rw [hY, hh]
      clear hY hh
      refine hK.out _ _ (fun h => absurd h (by decide)) ?_
      clear hK K
      (try simp only [Act.put, List.setIfInBounds_toArray, List.set_cons_zero, List.set_cons_succ])
      refine' wpAnyT_one (i := 10) (o := ?oiq10) (by kernel_rfl) ?hiq10 (fun K hK => ?stq10)
      case hiq10 => (simp only [List.getElem?_toArray, List.getElem?_cons_zero, List.getElem?_cons_succ]; rfl)
      go_simp
      refine hK.out _ _ (fun h => absurd h (by decide)) ?_
      clear hK K
      (try simp only [Act.put, List.setIfInBounds_toArray, List.set_cons_zero, List.set_cons_succ])
      refine' wpAnyT_one (i := 11) (o := ?oiq11) (by kernel_rfl) ?hiq11 (fun K hK => ?stq11)
      case hiq11 => (simp only [List.getElem?_toArray, List.getElem?_cons_zero, List.getElem?_cons_succ]; rfl)
      go_simp
      refine hK.out _ _ (fun h => absurd h (by decide)) ?_
      clear hK K
      (try simp only [Act.put, List.setIfInBounds_toArray, List.set_cons_zero, List.set_cons_succ])
      refine wpAnyT_done (by kernel_rfl) ?_ _
      exact HC.out Yq25 g16 A24 c24 h25 ⟨fmt_ops a HR.out HZh25.out (sec_of_heap (((below_both hbb22 hbb25).block _ (box_lt HZg16.out)).trans HZg16.out) (by unfold maxLen; omega)) (HS24.out.below hbb25) HN24.out, (below_both hB0 (below_both (below_both hbb17 hbb22) hbb25))⟩
    · refine ⟨_, by (simp only [List.getElem?_toArray, List.getElem?_cons_zero, List.getElem?_cons_succ]; rfl), fun K hK => ?_⟩
      go_simp
      go_at_call 31
      refine (HC31.out X0 hB0).mono ?_
      rintro e Yq22 ⟨v24, rfl, ho24, hbb22⟩
      have HS24 := hid (sec_of_own24 ho24 HSN.out)
      have HN24 := hid (own_nilOkE ho24)
      obtain ⟨A24, c24, rfl⟩ := own_formE ho24
      clear ho24
      clear hHeld
      have hHeld := trivial
      refine hK.out _ _ (fun _ => hHeld) ?_
      clear hK K
      (try simp only [Act.put, List.setIfInBounds_toArray, List.set_cons_zero, List.set_cons_succ])
      refine' wpAnyT_take (i := 7) (oi := ?oiq12) (v := ?vq12) ?hiq12 (by kernel_rfl) (by kernel_rfl) ?hqq12 ?hyq12 hHeld ?restq12
      case hiq12 => (simp only [List.getElem?_toArray, List.getElem?_cons_zero, List.getElem?_cons_succ]; rfl)
      case hqq12 => exact fun _ _ _ h => h
      case hyq12 => (refine Or.inl ⟨by rfl, ?_⟩; intro w' hSw; (try dsimp only at hSw); go_simp; try with_reducible rfl)
      (try simp only [Act.put, List.setIfInBounds_toArray, List.set_cons_zero, List.set_cons_succ])
      refine' wpAnyT_one (i := 1) (o := ?oiq13) (by kernel_rfl) ?hiq13 (fun K hK => ?stq13)
      case hiq13 => (simp only [List.getElem?_toArray, List.getElem?_cons_zero, List.getElem?_cons_succ]; rfl)
      go_simp
      obtain ⟨Yq17, hY⟩ : ∃ X, Yq22.alloc (.cells (laid [] 16).toArray 57) = X := ⟨_, rfl⟩
      obtain ⟨g16, hh⟩ : ∃ h, Yq22.heap.size = h := ⟨_, rfl⟩
      have hbb17 : Below Yq22.heap.size Yq22 Yq17 := by rw [← hY]; exact al1 _ _
      have HZg16 : Hid (Yq17.heap[g16]? = some (.cells (laid [] 16).toArray 57)) := hid (by rw [← hY, ← hh]; exact heap_alloc_new _ _)
      rw [hY, hh]
      clear hY hh
      clear hHeld
      have hHeld := trivial
      refine hK.out _ _ (fun _ => hHeld) ?_
      clear hK K
      (try simp only [Act.put, List.setIfInBounds_toArray, List.set_cons_zero, List.set_cons_succ])
      refine' wpAnyT_take (i := 2) (oi := ?oiq14) (v := ?vq14) ?hiq14 (by kernel_rfl) (by kernel_rfl) ?hqq14 ?hyq14 hHeld ?restq14
      case hiq14 => (simp only [List.getElem?_toArray, List.getElem?_cons_zero, List.getElem?_cons_succ]; rfl)
      case hqq14 => exact fun _ _ _ h => h
      case hyq14 => (refine Or.inl ⟨by rfl, ?_⟩; intro w' hSw; (try dsimp only at hSw); go_simp; try with_reducible rfl)
      (try simp only [Act.put, List.setIfInBounds_toArray, List.set_cons_zero, List.set_cons_succ])
      refine' wpAnyT_one (i := 9) (o := ?oiq15) (by kernel_rfl) ?hiq15 (fun K hK => ?stq15)
      case hiq15 => (simp only [List.getElem?_toArray, List.getElem?_cons_zero, List.getElem?_cons_succ]; rfl)
      go_simp
      obtain ⟨Yq25, hY⟩ : ∃ X, Yq17.alloc (.cells #[.int .i64 0, .int .i64 a, .slice (some ⟨g16, 0, none⟩) 16 16, .int .i64 1, .int .i64 0, .slice none 0 0, .int .i64 0, .int .i64 a, .slice A24 8 c24, .int .i64 1, .int .i64 0, .slice none 0 0] 75) = X := ⟨_, rfl⟩
      obtain ⟨h25, hh⟩ : ∃ h, Yq17.heap.size = h := ⟨_, rfl⟩
      have hbb25 : Below Yq17.heap.size Yq17 Yq25 := by rw [← hY]; exact al1 _ _
      have HZh25 : Hid (Yq25.heap[h25]? = some (.cells #[.int .i64 0, .int .i64 a, .slice (some ⟨g16, 0, none⟩) 16 16, .int .i64 1, .int .i64 0, .slice none 0 0, .int .i64 0, .int .i64 a, .slice A24 8 c24, .int .i64 1, .int .i64 0, .slice none 0 0] 75)) := hid (by rw [← hY, ← hh]; exact heap_alloc_new _ _)
      rw [hY, hh]
      clear hY hh
      refine hK.out _ _ (fun h => absurd h (by decide)) ?_
      clear hK K
      (try simp only [Act.put, List.setIfInBounds_toArray, List.set_cons_zero, List.set_cons_succ])
      refine' wpAnyT_one (i := 10) (o := ?oiq16) (by kernel_rfl) ?hiq16 (fun K hK => ?stq16)
      case hiq16 => (simp only [List.getElem?_toArray, List.getElem?_cons_zero, List.getElem?_cons_succ]; rfl)
      go_simp
      refine hK.out _ _ (fun h => absurd h (by decide)) ?_
      clear hK K
      (try simp only [Act.put, List.setIfInBounds_toArray, List.set_cons_zero, List.set_cons_succ])
      refine' wpAnyT_one (i := 11) (o := ?oiq17) (by kernel_rfl) ?hiq17 (fun K hK => ?stq17)
      case hiq17 => (simp only [List.getElem?_toArray, List.getElem?_cons_zero, List.getElem?_cons_succ]; rfl)
      go_simp
      refine hK.out _ _ (fun h => absurd h (by decide)) ?_
      clear hK K
      (try simp only [Act.put, List.setIfInBounds_toArray, List.set_cons_zero, List.set_cons_succ])
      refine wpAnyT_done (by kernel_rfl) ?_ _
      exact HC.out Yq25 g16 A24 c24 h25 ⟨fmt_ops a HR.out HZh25.out (sec_of_heap ((hbb25.block _ (box_lt HZg16.out)).trans HZg16.out) (by unfold maxLen; omega)) (HS24.out.below (below_both hbb17 hbb25)) HN24.out, (below_both hB0 (below_both (below_both hbb22 hbb17) hbb25))⟩
  · rintro X g16 A24 c24 h25 ⟨hops, hb⟩
    have HOPS := hid hops
    have HBB := hid hb
    clear hops hb
    go_wp2_with fail
    go_ret2
    exact ⟨_, _, rfl, HOPS.out, nilOk_some _ _ _, rfl, HBB.out⟩
end Go.Proofs.Ytnocgfhcamnjdaa
