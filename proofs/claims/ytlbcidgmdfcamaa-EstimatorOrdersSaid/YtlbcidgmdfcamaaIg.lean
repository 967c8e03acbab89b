/- The law EstimatorOrders walked. -/
import Derived.Test.YtlbcidgmdfcamaaO
namespace Go.Proofs.Ytlbcidgmdfcamaa
open Go.RowKit Go.Lib
theorem cutE9 {G : World → Nat → Prop} {R : Prop} (F : World → Nat → Prop) (main : (∀ X p, F X p → G X p) → R) (cont : ∀ X p, F X p → G X p) : R := main cont
set_option maxHeartbeats 16000000 in
set_option maxRecDepth 100000 in
theorem orders_walk (v : Value) (l : List Sq) (ta tb : Int) (w : World) (hv : Sqs w v l) (hta : 0 ≤ ta ∧ ta ≤ 65535) (htb : 0 ≤ tb ∧ tb ≤ 65535) : Calls Try.prog 9 #[v, .int .u16 ta, .int .u16 tb] w (TrueQ w) := by
  obtain ⟨A, c, rfl, hlm⟩ := sqs_form hv
  obtain ⟨N, hN⟩ : ∃ N, l.length = N := ⟨_, rfl⟩
  obtain ⟨g0, hg0⟩ : ∃ g, w.heap.size = g := ⟨_, rfl⟩
  have HG0 := hid hg0
  have HV : Hid (∀ X, Below g0 w X → Sqs X (.slice A N c) l) := hid (fun X hX => by rw [← hN]; rw [← hg0] at hX; exact hv.below hX)
  have HLN := hid hN
  rw [hN] at hlm ⊢
  clear hv hN hg0
  by_cases big : 100 < N
  · have d0 : decide (100 < N) = true := decide_eq_true big
    have d1 : decide ((100 : Int) < (N : Int)) = true := decide_eq_true (by omega)
    go_enter Try.func9, Try.ntmps9
    go_wp2_with (go_at_call 12; (with_reducible refine (awake_any _).mono ?_); rintro _ w8 ⟨rfl, hb⟩; have HB := hid hb; clear hb)
    go_ret
    exact ⟨rfl, HB.out⟩
  have d0 : decide (100 < N) = false := decide_eq_false big
  have d1 : decide ((100 : Int) < (N : Int)) = false := decide_eq_false (by omega)
  go_enter Try.func9, Try.ntmps9
  go_upto_region 4 with (go_at_call 15; (with_reducible refine (aw0 _).mono ?_); rintro _ w1 ⟨rfl, hb⟩; have HB1 := hid hb; clear hb)
  obtain ⟨g, hg⟩ : ∃ h, w1.heap.size = h := ⟨_, rfl⟩
  obtain ⟨W2, hW2⟩ : ∃ X, w1.alloc (.cells (cE z4) 23) = X := ⟨_, rfl⟩
  have K0 : Hid (W2.heap[g]? = some (.cells (cE z4) 23)) := hid (by rw [← hW2, ← hg]; exact heap_alloc_new _ _)
  have HGG : Hid (g0 ≤ g) := hid (by rw [← hg, ← HG0.out]; exact HB1.out.size)
  have HB2 : Hid (Below g0 w W2) := hid (by rw [← hW2, ← HG0.out]; exact HB1.out.alloc HB1.out.size _)
  have HG := hid hg
  have HW2 := hid hW2
  simp only [cE, z4] at HW2
  clear hg hW2
  rw [HG.out, HW2.out]
  go_upto_region 5 with fail
  go_loopw [8] (fun iv wr => ∃ (k : Nat) (E : Est), k ≤ N ∧ iv = .int .i64 (k : Int) ∧ Hid (Ok5 E ∧ E.s ≤ 524287 ∧ E.n = k) ∧ Hid (wr.heap[g]? = some (.cells (cE E) 23)) ∧ Hid (Below g0 w wr)) (fun iv _ => N - (RowKit.intOf iv).toNat)
  case atStart => exact ⟨0, z4, by omega, rfl, hid ⟨bet_z4.1, show (0 : Int) ≤ 524287 by decide, rfl⟩, K0, HB2⟩
  case round =>
    obtain ⟨k, E, hk, rfl, HOK0, HK0, HB0⟩ := hrel
    have HLW : Hid (g0 ≤ wr.heap.size) := hid (Nat.le_trans HGG.out (Nat.le_of_lt (box_lt HK0.out)))
    by_cases hlt : k < N
    · have hlt' : decide ((k : Int) < (N : Int)) = true := decide_eq_true (by omega)
      obtain ⟨⟨eb, tt⟩, hx⟩ : ∃ x, l[k]? = some x := ⟨l[k]'(by rw [HLN.out]; exact hlt), List.getElem?_eq_getElem _⟩
      obtain ⟨b, off, rfl, hbl, htt, hc0, hc1⟩ := sqs_at (HV.out wr HB0.out) hx
      simp only at htt hc0 hc1
      obtain ⟨n, s, v, bb⟩ := E
      clear hx hc0
      have hwt : wrap64 (tt : Int) = (tt : Int) := w64 (by omega) (by omega)
      obtain ⟨t, hT⟩ : ∃ t : Int, (tt : Int) = t := ⟨_, rfl⟩
      have ht0 : 0 ≤ t ∧ t ≤ 65535 := by omega
      rw [hT] at hwt hc1
      have hwt' : IntKind.i64.wrap t = t := by rw [IntKind.wrap_i64]; omega
      have hsm := smp_ok5 HOK0.out.1 ht0.1 ht0.2
      have hn1 : (nxt ⟨n, s, v, bb⟩ t).n = k + 1 := by
        have h1 : n = k := HOK0.out.2.2
        rw [nxt_n]
        show min (n + 1) 1073741824 = _
        omega
      obtain ⟨⟨n', s', v', b'⟩, hE'⟩ : ∃ E, nxt ⟨n, s, v, bb⟩ t = E := ⟨_, rfl⟩
      have HOK : Hid (Ok5 ⟨n', s', v', b'⟩ ∧ (⟨n', s', v', b'⟩ : Est).s ≤ 524287 ∧ (⟨n', s', v', b'⟩ : Est).n = ((k + 1 : Nat) : Int)) := hid (by rw [← hE']; exact ⟨nxt_ok5 HOK0.out.1 ht0.1 ht0.2 HOK0.out.2.1, nxt_s HOK0.out.1.1 HOK0.out.2.1 ht0.1 ht0.2, by rw [hn1]; omega⟩)
      rw [hE'] at hsm
      have HS := hid (fun W => sample_n hsm W)
      have HBL := hid hbl
      have HC1 := hid hc1
      simp only [ev] at HS
      have HK : Hid (∀ X, Below wr.heap.size wr X → X.cell? ⟨g, 0, none⟩ = some (.int .i64 n) ∧ X.cell? ⟨g, 1, none⟩ = some (.int .i64 s) ∧ X.cell? ⟨g, 2, none⟩ = some (.int .i64 v) ∧ X.cell? ⟨g, 3, none⟩ = some (.int .i64 bb) ∧ X.cell? ⟨b, off + k * 2 + 1, none⟩ = some (.int .u16 t)) := hid (fun X hX => by
        have a1 := load4 ((hX.block _ (box_lt HK0.out)).trans HK0.out)
        simp only at a1
        exact ⟨a1.1, a1.2.1, a1.2.2.1, a1.2.2.2, (hX.cell (p := ⟨b, _, none⟩) HBL.out).trans HC1.out⟩)
      clear hsm hE' hn1 ht0 hT hbl htt hc1
      go_upto_region 7 with fail
      have hin' : (k : Int) < (N : Int) := by omega
      apply cutE9 (fun X px => Below wr.heap.size wr X ∧ wr.heap.size ≤ px ∧ X.heap[px]? = some (.cells (cE ⟨n', s', v', b'⟩) 23))
      · intro HC
        have HC := hid HC
        refine region_tail 13 (fun X => X.cell? ⟨g, 0, none⟩ = some (.int .i64 n) ∧ X.cell? ⟨g, 1, none⟩ = some (.int .i64 s) ∧ X.cell? ⟨g, 2, none⟩ = some (.int .i64 v) ∧ X.cell? ⟨g, 3, none⟩ = some (.int .i64 bb) ∧ X.cell? ⟨b, off + k * 2 + 1, none⟩ = some (.int .u16 t)) (by kernel_rfl) ?_
        obtain ⟨X0, hX0⟩ : ∃ X, wr.drew = X := ⟨_, rfl⟩
        have hB0 : Below wr.heap.size wr X0 := by rw [← hX0]; exact (Below.refl wr.heap.size wr).drew
        have hHeld := HK.out X0 hB0
        rw [hX0]
        clear hX0
        refine' wpAnyT_take (i := 0) (oi := ?oiq1) (v := ?vq1) ?hiq1 (by kernel_rfl) (by kernel_rfl) ?hqq1 ?hyq1 hHeld ?restq1
        case hiq1 => (simp only [List.getElem?_toArray, List.getElem?_cons_zero]; rfl)
        case hqq1 => exact fun _ _ _ h => h
        case hyq1 => (refine Or.inl ⟨by rfl, ?_⟩; intro w' hSw; (try dsimp only at hSw); go_simp; try with_reducible rfl)
        (try simp only [Act.put, List.setIfInBounds_toArray, List.set_cons_zero, List.set_cons_succ])
        refine' wpAnyT_take (i := 1) (oi := ?oiq2) (v := ?vq2) ?hiq2 (by kernel_rfl) (by kernel_rfl) ?hqq2 ?hyq2 hHeld ?restq2
        case hiq2 => (simp only [List.getElem?_toArray, List.getElem?_cons_zero, List.getElem?_cons_succ]; rfl)
        case hqq2 => exact fun _ _ _ h => h
        case hyq2 => (refine Or.inl ⟨by rfl, ?_⟩; intro w' hSw; (try dsimp only at hSw); go_simp; try with_reducible rfl)
        (try simp only [Act.put, List.setIfInBounds_toArray, List.set_cons_zero, List.set_cons_succ])
        refine' wpAnyT_take (i := 2) (oi := ?oiq3) (v := ?vq3) ?hiq3 (by kernel_rfl) (by kernel_rfl) ?hqq3 ?hyq3 hHeld ?restq3
        case hiq3 => (simp only [List.getElem?_toArray, List.getElem?_cons_zero, List.getElem?_cons_succ]; rfl)
        case hqq3 => exact fun _ _ _ h => h
        case hyq3 => (refine Or.inl ⟨by rfl, ?_⟩; intro w' hSw; (try dsimp only at hSw); go_simp; try with_reducible rfl)
        (try simp only [Act.put, List.setIfInBounds_toArray, List.set_cons_zero, List.set_cons_succ])
        refine' wpAnyT_take (i := 3) (oi := ?oiq4) (v := ?vq4) ?hiq4 (by kernel_rfl) (by kernel_rfl) ?hqq4 ?hyq4 hHeld ?restq4
        case hiq4 => (simp only [List.getElem?_toArray, List.getElem?_cons_zero, List.getElem?_cons_succ]; rfl)
        case hqq4 => exact fun _ _ _ h => h
        case hyq4 => (refine Or.inl ⟨by rfl, ?_⟩; intro w' hSw; (try dsimp only at hSw); go_simp; try with_reducible rfl)
        (try simp only [Act.put, List.setIfInBounds_toArray, List.set_cons_zero, List.set_cons_succ])
        refine' wpAnyT_take (i := 4) (oi := ?oiq5) (v := ?vq5) ?hiq5 (by kernel_rfl) (by kernel_rfl) ?hqq5 ?hyq5 hHeld ?restq5
        case hiq5 => (simp only [List.getElem?_toArray, List.getElem?_cons_zero, List.getElem?_cons_succ]; rfl)
        case hqq5 => exact fun _ _ _ h => h
        case hyq5 => (refine Or.inl ⟨by rfl, ?_⟩; intro w' hSw; (try dsimp only at hSw); go_simp; try with_reducible rfl)
        (try simp only [Act.put, List.setIfInBounds_toArray, List.set_cons_zero, List.set_cons_succ])
        refine' wpAnyT_take (i := 5) (oi := ?oiq6) (v := ?vq6) ?hiq6 (by kernel_rfl) (by kernel_rfl) ?hqq6 ?hyq6 hHeld ?restq6
        case hiq6 => (simp only [List.getElem?_toArray, List.getElem?_cons_zero, List.getElem?_cons_succ]; rfl)
        case hqq6 => exact fun _ _ _ h => h
        case hyq6 => (refine Or.inl ⟨by rfl, ?_⟩; intro w' hSw; (try dsimp only at hSw); go_simp; try with_reducible rfl)
        (try simp only [Act.put, List.setIfInBounds_toArray, List.set_cons_zero, List.set_cons_succ])
        refine' wpAnyT_take (i := 6) (oi := ?oiq7) (v := ?vq7) ?hiq7 (by kernel_rfl) (by kernel_rfl) ?hqq7 ?hyq7 hHeld ?restq7
        case hiq7 => (simp only [List.getElem?_toArray, List.getElem?_cons_zero, List.getElem?_cons_succ]; rfl)
        case hqq7 => exact fun _ _ _ h => h
        case hyq7 => (refine Or.inl ⟨by rfl, ?_⟩; intro w' hSw; (try dsimp only at hSw); go_simp; try with_reducible rfl)
        (try simp only [Act.put, List.setIfInBounds_toArray, List.set_cons_zero, List.set_cons_succ])
        refine wpAnyT_all (l := [7, 11]) (by kernel_rfl) (by decide) ?_
        intro i hi
        simp only [List.mem_cons, List.not_mem_nil, or_false] at hi
        rcases hi with rfl | rfl
        · refine ⟨_, by (simp only [List.getElem?_toArray, List.getElem?_cons_zero, List.getElem?_cons_succ]; rfl), fun K hK => ?_⟩
          go_simp
          go_at_call 10
          (with_reducible refine (HS.out X0).mono ?_)
          rintro e Yq34 ⟨rfl, hbb34⟩
          clear hHeld
          have hHeld := HK.out Yq34 (below_both hB0 hbb34)
          refine hK.out _ _ (fun _ => hHeld) ?_
          clear hK K
          (try simp only [Act.put, List.setIfInBounds_toArray, List.set_cons_zero, List.set_cons_succ])
          refine' wpAnyT_take (i := 8) (oi := ?oiq8) (v := ?vq8) ?hiq8 (by kernel_rfl) (by kernel_rfl) ?hqq8 ?hyq8 hHeld ?restq8
          case hiq8 => (simp only [List.getElem?_toArray, List.getElem?_cons_zero, List.getElem?_cons_succ]; rfl)
          case hqq8 => exact fun _ _ _ h => h
          case hyq8 => (refine Or.inl ⟨by rfl, ?_⟩; intro w' hSw; (try dsimp only at hSw); go_simp; try with_reducible rfl)
          (try simp only [Act.put, List.setIfInBounds_toArray, List.set_cons_zero, List.set_cons_succ])
          refine' wpAnyT_take (i := 9) (oi := ?oiq9) (v := ?vq9) ?hiq9 (by kernel_rfl) (by kernel_rfl) ?hqq9 ?hyq9 hHeld ?restq9
          case hiq9 => (simp only [List.getElem?_toArray, List.getElem?_cons_zero, List.getElem?_cons_succ]; rfl)
          case hqq9 => exact fun _ _ _ h => h
          case hyq9 => (refine Or.inl ⟨by rfl, ?_⟩; intro w' hSw; (try dsimp only at hSw); go_simp; try with_reducible rfl)
          (try simp only [Act.put, List.setIfInBounds_toArray, List.set_cons_zero, List.set_cons_succ])
          refine' wpAnyT_take (i := 10) (oi := ?oiq10) (v := ?vq10) ?hiq10 (by kernel_rfl) (by kernel_rfl) ?hqq10 ?hyq10 hHeld ?restq10
          case hiq10 => (simp only [List.getElem?_toArray, List.getElem?_cons_zero, List.getElem?_cons_succ]; rfl)
          case hqq10 => exact fun _ _ _ h => h
          case hyq10 => (refine Or.inl ⟨by rfl, ?_⟩; intro w' hSw; (try dsimp only at hSw); go_simp; try with_reducible rfl)
          (try simp only [Act.put, List.setIfInBounds_toArray, List.set_cons_zero, List.set_cons_succ])
          refine' wpAnyT_one (i := 11) (o := ?oiq11) (by kernel_rfl) ?hiq11 (fun K hK => ?stq11)
          case hiq11 => (simp only [List.getElem?_toArray, List.getElem?_cons_zero, List.getElem?_cons_succ]; rfl)
          go_simp
          obtain ⟨Yq9, hY⟩ : ∃ X, Yq34.alloc (.cells #[.int .i64 0, .int .i64 0, .int .i64 0, .int .i64 0] 23) = X := ⟨_, rfl⟩
          obtain ⟨px, hh⟩ : ∃ h, Yq34.heap.size = h := ⟨_, rfl⟩
          have hbb9 : Below Yq34.heap.size Yq34 Yq9 := by rw [← hY]; exact al1 _ _
          have HZpx : Hid (Yq9.heap[px]? = some (.cells #[.int .i64 0, .int .i64 0, .int .i64 0, .int .i64 0] 23)) := hid (by rw [← hY, ← hh]; exact heap_alloc_new _ _)
          have HPW : Hid (wr.heap.size ≤ px) := hid (by rw [← hh]; exact (below_both hB0 hbb34).size)
          rw [hY, hh]
          clear hY hh
          clear hHeld
          have hHeld := HK.out Yq9 (below_both hB0 (below_both hbb34 hbb9))
          refine hK.out _ _ (fun _ => hHeld) ?_
          clear hK K
          (try simp only [Act.put, List.setIfInBounds_toArray, List.set_cons_zero, List.set_cons_succ])
          refine' wpAnyT_one (i := 12) (o := ?oiq12) (by kernel_rfl) ?hiq12 (fun K hK => ?stq12)
          case hiq12 => (simp only [List.getElem?_toArray, List.getElem?_cons_zero, List.getElem?_cons_succ]; rfl)
          have hp15 : Yq9.heap[px]? = some (.cells (cE z4) 23) := (((Below.refl _ _).block _ (box_lt HZpx.out)).trans HZpx.out)
          obtain ⟨q0, q1, q2, q3⟩ := load4 hp15
          simp only [z4] at q0 q1 q2 q3
          have fp0 := box_fr hp15 0
          have fp1 := box_fr hp15 1
          have fp2 := box_fr hp15 2
          have fp3 := box_fr hp15 3
          go_simp
          obtain ⟨YqN12, hY⟩ : ∃ X, set4 Yq9 px ⟨n', s', v', b'⟩ = X := ⟨_, rfl⟩
          have HP15 : Hid (YqN12.heap[px]? = some (.cells (cE ⟨n', s', v', b'⟩) 23)) := hid (by rw [← hY]; exact set4h ⟨n', s', v', b'⟩ hp15)
          have hbbnone12 : Below wr.heap.size wr YqN12 := by rw [← hY]; exact set4b ⟨n', s', v', b'⟩ (below_both hB0 (below_both hbb34 hbb9)) HPW.out
          simp only [set4] at hY
          rw [hY]
          clear hY hp15 q0 q1 q2 q3 fp0 fp1 fp2 fp3
          clear hHeld
          have hHeld := HK.out YqN12 hbbnone12
          refine hK.out _ _ (fun _ => hHeld) ?_
          clear hK K
          refine' wpAnyT_one (i := 13) (o := ?oiq13) (by kernel_rfl) ?hiq13 (fun K hK => ?stq13)
          case hiq13 => (simp only [List.getElem?_toArray, List.getElem?_cons_zero, List.getElem?_cons_succ]; rfl)
          go_simp
          refine hK.out _ _ (fun h => absurd h (by decide)) ?_
          clear hK K
          (try simp only [Act.put, List.setIfInBounds_toArray, List.set_cons_zero, List.set_cons_succ])
          refine wpAnyT_done (by kernel_rfl) ?_ _
          exact HC.out YqN12 px ⟨hbbnone12, HPW.out, HP15.out⟩
        · refine ⟨_, by (simp only [List.getElem?_toArray, List.getElem?_cons_zero, List.getElem?_cons_succ]; rfl), fun K hK => ?_⟩
          go_simp
          obtain ⟨Yq9, hY⟩ : ∃ X, X0.alloc (.cells #[.int .i64 0, .int .i64 0, .int .i64 0, .int .i64 0] 23) = X := ⟨_, rfl⟩
          obtain ⟨px, hh⟩ : ∃ h, X0.heap.size = h := ⟨_, rfl⟩
          have hbb9 : Below X0.heap.size X0 Yq9 := by rw [← hY]; exact al1 _ _
          have HZpx : Hid (Yq9.heap[px]? = some (.cells #[.int .i64 0, .int .i64 0, .int .i64 0, .int .i64 0] 23)) := hid (by rw [← hY, ← hh]; exact heap_alloc_new _ _)
          have HPW : Hid (wr.heap.size ≤ px) := hid (by rw [← hh]; exact hB0.size)
          rw [hY, hh]
          clear hY hh
          clear hHeld
          have hHeld := HK.out Yq9 (below_both hB0 hbb9)
          refine hK.out _ _ (fun _ => hHeld) ?_
          clear hK K
          (try simp only [Act.put, List.setIfInBounds_toArray, List.set_cons_zero, List.set_cons_succ])
          refine' wpAnyT_one (i := 7) (o := ?oiq14) (by kernel_rfl) ?hiq14 (fun K hK => ?stq14)
          case hiq14 => (simp only [List.getElem?_toArray, List.getElem?_cons_zero, List.getElem?_cons_succ]; rfl)
          go_simp
          go_at_call 10
          (with_reducible refine (HS.out Yq9).mono ?_)
          rintro e Yq34 ⟨rfl, hbb34⟩
          clear hHeld
          have hHeld := HK.out Yq34 (below_both hB0 (below_both hbb9 hbb34))
          refine hK.out _ _ (fun _ => hHeld) ?_
          clear hK K
          (try simp only [Act.put, List.setIfInBounds_toArray, List.set_cons_zero, List.set_cons_succ])
          refine' wpAnyT_take (i := 8) (oi := ?oiq15) (v := ?vq15) ?hiq15 (by kernel_rfl) (by kernel_rfl) ?hqq15 ?hyq15 hHeld ?restq15
          case hiq15 => (simp only [List.getElem?_toArray, List.getElem?_cons_zero, List.getElem?_cons_succ]; rfl)
          case hqq15 => exact fun _ _ _ h => h
          case hyq15 => (refine Or.inl ⟨by rfl, ?_⟩; intro w' hSw; (try dsimp only at hSw); go_simp; try with_reducible rfl)
          (try simp only [Act.put, List.setIfInBounds_toArray, List.set_cons_zero, List.set_cons_succ])
          refine' wpAnyT_take (i := 9) (oi := ?oiq16) (v := ?vq16) ?hiq16 (by kernel_rfl) (by kernel_rfl) ?hqq16 ?hyq16 hHeld ?restq16
          case hiq16 => (simp only [List.getElem?_toArray, List.getElem?_cons_zero, List.getElem?_cons_succ]; rfl)
          case hqq16 => exact fun _ _ _ h => h
          case hyq16 => (refine Or.inl ⟨by rfl, ?_⟩; intro w' hSw; (try dsimp only at hSw); go_simp; try with_reducible rfl)
          (try simp only [Act.put, List.setIfInBounds_toArray, List.set_cons_zero, List.set_cons_succ])
          refine' wpAnyT_take (i := 10) (oi := ?oiq17) (v := ?vq17) ?hiq17 (by kernel_rfl) (by kernel_rfl) ?hqq17 ?hyq17 hHeld ?restq17
          case hiq17 => (simp only [List.getElem?_toArray, List.getElem?_cons_zero, List.getElem?_cons_succ]; rfl)
          case hqq17 => exact fun _ _ _ h => h
          case hyq17 => (refine Or.inl ⟨by rfl, ?_⟩; intro w' hSw; (try dsimp only at hSw); go_simp; try with_reducible rfl)
          (try simp only [Act.put, List.setIfInBounds_toArray, List.set_cons_zero, List.set_cons_succ])
          refine' wpAnyT_one (i := 12) (o := ?oiq18) (by kernel_rfl) ?hiq18 (fun K hK => ?stq18)
          case hiq18 => (simp only [List.getElem?_toArray, List.getElem?_cons_zero, List.getElem?_cons_succ]; rfl)
          have hp15 : Yq34.heap[px]? = some (.cells (cE z4) 23) := ((hbb34.block _ (box_lt HZpx.out)).trans HZpx.out)
          obtain ⟨q0, q1, q2, q3⟩ := load4 hp15
          simp only [z4] at q0 q1 q2 q3
          have fp0 := box_fr hp15 0
          have fp1 := box_fr hp15 1
          have fp2 := box_fr hp15 2
          have fp3 := box_fr hp15 3
          go_simp
          obtain ⟨YqN12, hY⟩ : ∃ X, set4 Yq34 px ⟨n', s', v', b'⟩ = X := ⟨_, rfl⟩
          have HP15 : Hid (YqN12.heap[px]? = some (.cells (cE ⟨n', s', v', b'⟩) 23)) := hid (by rw [← hY]; exact set4h ⟨n', s', v', b'⟩ hp15)
          have hbbnone12 : Below wr.heap.size wr YqN12 := by rw [← hY]; exact set4b ⟨n', s', v', b'⟩ (below_both hB0 (below_both hbb9 hbb34)) HPW.out
          simp only [set4] at hY
          rw [hY]
          clear hY hp15 q0 q1 q2 q3 fp0 fp1 fp2 fp3
          clear hHeld
          have hHeld := HK.out YqN12 hbbnone12
          refine hK.out _ _ (fun _ => hHeld) ?_
          clear hK K
          refine' wpAnyT_one (i := 13) (o := ?oiq19) (by kernel_rfl) ?hiq19 (fun K hK => ?stq19)
          case hiq19 => (simp only [List.getElem?_toArray, List.getElem?_cons_zero, List.getElem?_cons_succ]; rfl)
          go_simp
          refine hK.out _ _ (fun h => absurd h (by decide)) ?_
          clear hK K
          (try simp only [Act.put, List.setIfInBounds_toArray, List.set_cons_zero, List.set_cons_succ])
          refine wpAnyT_done (by kernel_rfl) ?_ _
          exact HC.out YqN12 px ⟨hbbnone12, HPW.out, HP15.out⟩
      intro X1 p1 ⟨hB, hpw, hpx⟩
      have K5 : Hid (X1.heap[g]? = some (.cells (cE ⟨n, s, v, bb⟩) 23)) := hid ((hB.block _ (box_lt HK0.out)).trans HK0.out)
      have HB4 : Hid (Below g0 w X1) := hid (HB0.out.trans (hB.mono HLW.out))
      obtain ⟨y0, y1, y2, y3⟩ := load4 hpx
      obtain ⟨z0, z1, z2, z3⟩ := load4 K5.out
      have fr := box_fr K5.out
      simp only at y0 y1 y2 y3 z0 z1 z2 z3
      clear hB hpw hpx
      go_wp2_with fail
      have HB5 : Hid (Below g0 w (set4 X1 g ⟨n', s', v', b'⟩)) := hid (set4b ⟨n', s', v', b'⟩ HB4.out HGG.out)
      have K6 : Hid ((set4 X1 g ⟨n', s', v', b'⟩).heap[g]? = some (.cells (cE ⟨n', s', v', b'⟩) 23)) := hid (set4h ⟨n', s', v', b'⟩ K5.out)
      go_roundw
      case rel => exact ⟨k + 1, _, by omega, by go_num, HOK, K6, HB5⟩
      case measure => simp [RowKit.intOf]; omega
    · obtain rfl : k = N := by omega
      have hlt' : decide ((k : Int) < (k : Int)) = false := decide_eq_false (by omega)
      obtain ⟨n, s, v, bb⟩ := E
      obtain ⟨lo, hlo⟩ : ∃ x, min ta tb = x := ⟨_, rfl⟩
      obtain ⟨hi, hhi⟩ : ∃ x, max ta tb = x := ⟨_, rfl⟩
      have hnk : n = k := HOK0.out.2.2
      have hor := orders (a := lo) (b := hi) HOK0.out.1 HOK0.out.2.1 (show n ≤ 100 by omega) (by omega) (by omega) (by omega)
      have hwl : wrap64 lo = lo := w64 (by omega) (by omega)
      have hwh : wrap64 hi = hi := w64 (by omega) (by omega)
      have hwn : wrap64 (n + 1) = n + 1 := w64 (by omega) (by omega)
      have hwn' : IntKind.i64.wrap (n + 1) = n + 1 := by rw [IntKind.wrap_i64]; omega
      have hsm := smp_ok5 HOK0.out.1 (t := lo) (by omega) (by omega)
      have hsm2 := smp_ok5 HOK0.out.1 (t := hi) (by omega) (by omega)
      obtain ⟨⟨xn, xs, xv, xb⟩, hX⟩ : ∃ E, nxt ⟨n, s, v, bb⟩ lo = E := ⟨_, rfl⟩
      obtain ⟨⟨yn, ys, yv, yb⟩, hY⟩ : ∃ E, nxt ⟨n, s, v, bb⟩ hi = E := ⟨_, rfl⟩
      rw [hX] at hsm hor
      rw [hY] at hsm2 hor
      have HS := hid (fun W => sample_n hsm W)
      have HS2 := hid (fun W => sample_n hsm2 W)
      have HM := hid (fun W => mean_any ⟨xn, xs, xv, xb⟩ W)
      have HM2 := hid (fun W => mean_any ⟨yn, ys, yv, yb⟩ W)
      obtain ⟨mx, hmx⟩ : ∃ m, mean ⟨xn, xs, xv, xb⟩ = m := ⟨_, rfl⟩
      obtain ⟨my, hmy⟩ : ∃ m, mean ⟨yn, ys, yv, yb⟩ = m := ⟨_, rfl⟩
      rw [hmx] at HM hor
      rw [hmy] at HM2 hor
      have q1 : decide (mx ≤ my) = true := decide_eq_true hor.1
      have hxn : xn = n + 1 := hor.2
      have q2 : (xn == n + 1) = true := by rw [hxn]; exact beq_self_eq_true _
      simp only [ev] at HS HS2 HM HM2
      obtain ⟨x0, x1, x2, x3⟩ := load4 HK0.out
      simp only at x0 x1 x2 x3
      clear hsm hsm2 hX hY hmx hmy hor hxn hta htb hnk
      go_upto_region 12 with (go_at_call 10; (with_reducible refine (HS.out _).mono ?_); rintro _ w3 ⟨rfl, hb⟩; have HB3 := hid (HB0.out.trans (hb.mono HLW.out)); have hk3 := (hb.block _ (box_lt HK0.out)).trans HK0.out; have F3 := hid hk3; clear hb hk3)
      obtain ⟨p1, hp1⟩ : ∃ h, w3.heap.size = h := ⟨_, rfl⟩
      obtain ⟨W3, hW3⟩ : ∃ X, w3.alloc (.cells (cE ⟨xn, xs, xv, xb⟩) 23) = X := ⟨_, rfl⟩
      have k3 : W3.heap[p1]? = some (.cells (cE ⟨xn, xs, xv, xb⟩) 23) := by rw [← hW3, ← hp1]; exact heap_alloc_new _ _
      have k4 : W3.heap[g]? = some (.cells (cE ⟨n, s, v, bb⟩) 23) := by rw [← hW3]; exact old_alloc F3.out _
      have HB4 : Hid (Below g0 w W3) := hid (by rw [← hW3]; exact HB3.out.alloc (by have := box_lt F3.out; have := HGG.out; omega) _)
      have P3 := hid k3
      have F4 := hid k4
      have HP1 := hid hp1
      have HW3 := hid hW3
      obtain ⟨y0, y1, y2, y3⟩ := load4 k4
      simp only [cE] at HW3
      simp only at y0 y1 y2 y3
      clear k3 k4 hp1 hW3 x0 x1 x2 x3
      rw [HP1.out, HW3.out]
      go_upto_region 13 with (go_at_call 10; (with_reducible refine (HS2.out _).mono ?_); rintro _ w5 ⟨rfl, hb⟩; have HB5 := hid (HB4.out.trans (hb.mono (by have := box_lt F4.out; have := HGG.out; omega))); have hk3 := (hb.block _ (box_lt P3.out)).trans P3.out; have P5 := hid hk3; have hk4 := (hb.block _ (box_lt F4.out)).trans F4.out; have F5 := hid hk4; clear hb hk3 hk4)
      obtain ⟨p2, hp2⟩ : ∃ h, w5.heap.size = h := ⟨_, rfl⟩
      obtain ⟨X0, hX0⟩ : ∃ X, (w5.alloc (.cells (cE ⟨yn, ys, yv, yb⟩) 23)).drew = X := ⟨_, rfl⟩
      have k5 : X0.heap[p2]? = some (.cells (cE ⟨yn, ys, yv, yb⟩) 23) := by rw [← hX0, ← hp2]; exact heap_alloc_new _ _
      have k6 : X0.heap[p1]? = some (.cells (cE ⟨xn, xs, xv, xb⟩) 23) := by rw [← hX0]; exact old_alloc P5.out _
      have k7 : X0.heap[g]? = some (.cells (cE ⟨n, s, v, bb⟩) 23) := by rw [← hX0]; exact old_alloc F5.out _
      have HLP : Hid (g0 ≤ w5.heap.size) := hid (by have := HB5.out.size; have := HG0.out; omega)
      have HB6 : Hid (Below g0 w X0) := hid (by rw [← hX0]; exact below_drew (HB5.out.alloc HLP.out _))
      have HLX : Hid (g0 ≤ X0.heap.size) := hid (by have := HB6.out.size; have := HG0.out; omega)
      have HK : Hid (∀ X, Below X0.heap.size X0 X → X.cell? ⟨p1, 0, none⟩ = some (.int .i64 xn) ∧ X.cell? ⟨p1, 1, none⟩ = some (.int .i64 xs) ∧ X.cell? ⟨p1, 2, none⟩ = some (.int .i64 xv) ∧ X.cell? ⟨p1, 3, none⟩ = some (.int .i64 xb) ∧ X.cell? ⟨p2, 0, none⟩ = some (.int .i64 yn) ∧ X.cell? ⟨p2, 1, none⟩ = some (.int .i64 ys) ∧ X.cell? ⟨p2, 2, none⟩ = some (.int .i64 yv) ∧ X.cell? ⟨p2, 3, none⟩ = some (.int .i64 yb) ∧ X.cell? ⟨g, 0, none⟩ = some (.int .i64 n) ∧ X.cell? ⟨g, 1, none⟩ = some (.int .i64 s) ∧ X.cell? ⟨g, 2, none⟩ = some (.int .i64 v) ∧ X.cell? ⟨g, 3, none⟩ = some (.int .i64 bb)) := hid (fun X hX => by
        have a1 := load4 ((hX.block _ (box_lt k6)).trans k6)
        have a2 := load4 ((hX.block _ (box_lt k5)).trans k5)
        have a3 := load4 ((hX.block _ (box_lt k7)).trans k7)
        simp only at a1 a2 a3
        exact ⟨a1.1, a1.2.1, a1.2.2.1, a1.2.2.2, a2.1, a2.2.1, a2.2.2.1, a2.2.2.2, a3.1, a3.2.1, a3.2.2.1, a3.2.2.2⟩)
      have HB := hid (Below.refl X0.heap.size X0)
      have hHeld := HK.out X0 HB.out
      have HP2 := hid hp2
      have HX0 := hid hX0
      simp only [cE] at HX0
      clear k5 k6 k7 hp2 hX0 y0 y1 y2 y3
      refine region_tail 24 (fun X => X.cell? ⟨p1, 0, none⟩ = some (.int .i64 xn) ∧ X.cell? ⟨p1, 1, none⟩ = some (.int .i64 xs) ∧ X.cell? ⟨p1, 2, none⟩ = some (.int .i64 xv) ∧ X.cell? ⟨p1, 3, none⟩ = some (.int .i64 xb) ∧ X.cell? ⟨p2, 0, none⟩ = some (.int .i64 yn) ∧ X.cell? ⟨p2, 1, none⟩ = some (.int .i64 ys) ∧ X.cell? ⟨p2, 2, none⟩ = some (.int .i64 yv) ∧ X.cell? ⟨p2, 3, none⟩ = some (.int .i64 yb) ∧ X.cell? ⟨g, 0, none⟩ = some (.int .i64 n) ∧ X.cell? ⟨g, 1, none⟩ = some (.int .i64 s) ∧ X.cell? ⟨g, 2, none⟩ = some (.int .i64 v) ∧ X.cell? ⟨g, 3, none⟩ = some (.int .i64 bb)) (by kernel_rfl) ?_
      rw [HP2.out, HX0.out]
      refine' wpAnyT_one (i := 0) (o := ?oiu0) (by kernel_rfl) ?hiu0 (fun K hK => ?stu0)
      case hiu0 => (simp only [List.getElem?_toArray, List.getElem?_cons_zero]; rfl)
      go_simp
      go_at_call 12
      (with_reducible refine (awake_any _).mono ?_)
      rintro _ X8 ⟨rfl, hb⟩
      have HB := hid (HB.out.trans (hb.mono HB.out.size))
      have hHeld := HK.out X8 HB.out
      clear hb
      refine hK.out _ _ (fun _ => hHeld) ?_
      clear hK K
      (try simp only [Act.put, List.setIfInBounds_toArray, List.set_cons_zero, List.set_cons_succ])
      refine' wpAnyT_take (i := 1) (oi := ?oiu1) (v := ?vu1) ?hiu1 (by kernel_rfl) (by kernel_rfl) ?hqu1 ?hyu1 hHeld ?restu1
      case hiu1 => (simp only [List.getElem?_toArray, List.getElem?_cons_zero, List.getElem?_cons_succ]; rfl)
      case hqu1 => exact fun _ _ _ h => h
      case hyu1 => (refine Or.inl ⟨by rfl, ?_⟩; intro w' hSw; (try dsimp only at hSw); go_simp; try with_reducible rfl)
      (try simp only [Act.put, List.setIfInBounds_toArray, List.set_cons_zero, List.set_cons_succ])
      refine' wpAnyT_take (i := 2) (oi := ?oiu2) (v := ?vu2) ?hiu2 (by kernel_rfl) (by kernel_rfl) ?hqu2 ?hyu2 hHeld ?restu2
      case hiu2 => (simp only [List.getElem?_toArray, List.getElem?_cons_zero, List.getElem?_cons_succ]; rfl)
      case hqu2 => exact fun _ _ _ h => h
      case hyu2 => (refine Or.inl ⟨by rfl, ?_⟩; intro w' hSw; (try dsimp only at hSw); go_simp; try with_reducible rfl)
      (try simp only [Act.put, List.setIfInBounds_toArray, List.set_cons_zero, List.set_cons_succ])
      refine' wpAnyT_take (i := 3) (oi := ?oiu3) (v := ?vu3) ?hiu3 (by kernel_rfl) (by kernel_rfl) ?hqu3 ?hyu3 hHeld ?restu3
      case hiu3 => (simp only [List.getElem?_toArray, List.getElem?_cons_zero, List.getElem?_cons_succ]; rfl)
      case hqu3 => exact fun _ _ _ h => h
      case hyu3 => (refine Or.inl ⟨by rfl, ?_⟩; intro w' hSw; (try dsimp only at hSw); go_simp; try with_reducible rfl)
      (try simp only [Act.put, List.setIfInBounds_toArray, List.set_cons_zero, List.set_cons_succ])
      refine' wpAnyT_take (i := 4) (oi := ?oiu4) (v := ?vu4) ?hiu4 (by kernel_rfl) (by kernel_rfl) ?hqu4 ?hyu4 hHeld ?restu4
      case hiu4 => (simp only [List.getElem?_toArray, List.getElem?_cons_zero, List.getElem?_cons_succ]; rfl)
      case hqu4 => exact fun _ _ _ h => h
      case hyu4 => (refine Or.inl ⟨by rfl, ?_⟩; intro w' hSw; (try dsimp only at hSw); go_simp; try with_reducible rfl)
      (try simp only [Act.put, List.setIfInBounds_toArray, List.set_cons_zero, List.set_cons_succ])
      refine' wpAnyT_take (i := 5) (oi := ?oiu5) (v := ?vu5) ?hiu5 (by kernel_rfl) (by kernel_rfl) ?hqu5 ?hyu5 hHeld ?restu5
      case hiu5 => (simp only [List.getElem?_toArray, List.getElem?_cons_zero, List.getElem?_cons_succ]; rfl)
      case hqu5 => exact fun _ _ _ h => h
      case hyu5 => (refine Or.inl ⟨by rfl, ?_⟩; intro w' hSw; (try dsimp only at hSw); go_simp; try with_reducible rfl)
      (try simp only [Act.put, List.setIfInBounds_toArray, List.set_cons_zero, List.set_cons_succ])
      refine' wpAnyT_take (i := 6) (oi := ?oiu6) (v := ?vu6) ?hiu6 (by kernel_rfl) (by kernel_rfl) ?hqu6 ?hyu6 hHeld ?restu6
      case hiu6 => (simp only [List.getElem?_toArray, List.getElem?_cons_zero, List.getElem?_cons_succ]; rfl)
      case hqu6 => exact fun _ _ _ h => h
      case hyu6 => (refine Or.inl ⟨by rfl, ?_⟩; intro w' hSw; (try dsimp only at hSw); go_simp; try with_reducible rfl)
      (try simp only [Act.put, List.setIfInBounds_toArray, List.set_cons_zero, List.set_cons_succ])
      refine' wpAnyT_take (i := 7) (oi := ?oiu7) (v := ?vu7) ?hiu7 (by kernel_rfl) (by kernel_rfl) ?hqu7 ?hyu7 hHeld ?restu7
      case hiu7 => (simp only [List.getElem?_toArray, List.getElem?_cons_zero, List.getElem?_cons_succ]; rfl)
      case hqu7 => exact fun _ _ _ h => h
      case hyu7 => (refine Or.inl ⟨by rfl, ?_⟩; intro w' hSw; (try dsimp only at hSw); go_simp; try with_reducible rfl)
      (try simp only [Act.put, List.setIfInBounds_toArray, List.set_cons_zero, List.set_cons_succ])
      refine' wpAnyT_take (i := 8) (oi := ?oiu8) (v := ?vu8) ?hiu8 (by kernel_rfl) (by kernel_rfl) ?hqu8 ?hyu8 hHeld ?restu8
      case hiu8 => (simp only [List.getElem?_toArray, List.getElem?_cons_zero, List.getElem?_cons_succ]; rfl)
      case hqu8 => exact fun _ _ _ h => h
      case hyu8 => (refine Or.inl ⟨by rfl, ?_⟩; intro w' hSw; (try dsimp only at hSw); go_simp; try with_reducible rfl)
      (try simp only [Act.put, List.setIfInBounds_toArray, List.set_cons_zero, List.set_cons_succ])
      refine' wpAnyT_take (i := 9) (oi := ?oiu9) (v := ?vu9) ?hiu9 (by kernel_rfl) (by kernel_rfl) ?hqu9 ?hyu9 hHeld ?restu9
      case hiu9 => (simp only [List.getElem?_toArray, List.getElem?_cons_zero, List.getElem?_cons_succ]; rfl)
      case hqu9 => exact fun _ _ _ h => h
      case hyu9 => (refine Or.inl ⟨by rfl, ?_⟩; intro w' hSw; (try dsimp only at hSw); go_simp; try with_reducible rfl)
      (try simp only [Act.put, List.setIfInBounds_toArray, List.set_cons_zero, List.set_cons_succ])
      refine' wpAnyT_take (i := 10) (oi := ?oiu10) (v := ?vu10) ?hiu10 (by kernel_rfl) (by kernel_rfl) ?hqu10 ?hyu10 hHeld ?restu10
      case hiu10 => (simp only [List.getElem?_toArray, List.getElem?_cons_zero, List.getElem?_cons_succ]; rfl)
      case hqu10 => exact fun _ _ _ h => h
      case hyu10 => (refine Or.inl ⟨by rfl, ?_⟩; intro w' hSw; (try dsimp only at hSw); go_simp; try with_reducible rfl)
      (try simp only [Act.put, List.setIfInBounds_toArray, List.set_cons_zero, List.set_cons_succ])
      refine' wpAnyT_take (i := 12) (oi := ?oiu12) (v := ?vu12) ?hiu12 (by kernel_rfl) (by kernel_rfl) ?hqu12 ?hyu12 hHeld ?restu12
      case hiu12 => (simp only [List.getElem?_toArray, List.getElem?_cons_zero, List.getElem?_cons_succ]; rfl)
      case hqu12 => exact fun _ _ _ h => h
      case hyu12 => (refine Or.inl ⟨by rfl, ?_⟩; intro w' hSw; (try dsimp only at hSw); go_simp; try with_reducible rfl)
      (try simp only [Act.put, List.setIfInBounds_toArray, List.set_cons_zero, List.set_cons_succ])
      refine' wpAnyT_one (i := 11) (o := ?oiu11) (by kernel_rfl) ?hiu11 (fun K hK => ?stu11)
      case hiu11 => (simp only [List.getElem?_toArray, List.getElem?_cons_zero, List.getElem?_cons_succ]; rfl)
      go_simp
      go_at_call 19
      (with_reducible refine (HM.out _).mono ?_)
      rintro _ X9 ⟨rfl, hb⟩
      have HB := hid (HB.out.trans (hb.mono HB.out.size))
      have hHeld := HK.out X9 HB.out
      clear hb
      refine hK.out _ _ (fun _ => hHeld) ?_
      clear hK K
      (try simp only [Act.put, List.setIfInBounds_toArray, List.set_cons_zero, List.set_cons_succ])
      refine' wpAnyT_one (i := 13) (o := ?oiu13) (by kernel_rfl) ?hiu13 (fun K hK => ?stu13)
      case hiu13 => (simp only [List.getElem?_toArray, List.getElem?_cons_zero, List.getElem?_cons_succ]; rfl)
      go_simp
      go_at_call 19
      (with_reducible refine (HM2.out _).mono ?_)
      rintro _ X10 ⟨rfl, hb⟩
      have HB := hid (HB.out.trans (hb.mono HB.out.size))
      have hHeld := HK.out X10 HB.out
      clear hb
      refine hK.out _ _ (fun _ => hHeld) ?_
      clear hK K
      (try simp only [Act.put, List.setIfInBounds_toArray, List.set_cons_zero, List.set_cons_succ])
      refine' wpAnyT_take (i := 14) (oi := ?oiu14) (v := ?vu14) ?hiu14 (by kernel_rfl) (by kernel_rfl) ?hqu14 ?hyu14 hHeld ?restu14
      case hiu14 => (simp only [List.getElem?_toArray, List.getElem?_cons_zero, List.getElem?_cons_succ]; rfl)
      case hqu14 => exact fun _ _ _ h => h
      case hyu14 => (refine Or.inl ⟨by rfl, ?_⟩; intro w' hSw; (try dsimp only at hSw); go_simp; try with_reducible rfl)
      (try simp only [Act.put, List.setIfInBounds_toArray, List.set_cons_zero, List.set_cons_succ])
      refine' wpAnyT_take (i := 15) (oi := ?oiu15) (v := ?vu15) ?hiu15 (by kernel_rfl) (by kernel_rfl) ?hqu15 ?hyu15 hHeld ?restu15
      case hiu15 => (simp only [List.getElem?_toArray, List.getElem?_cons_zero, List.getElem?_cons_succ]; rfl)
      case hqu15 => exact fun _ _ _ h => h
      case hyu15 => (refine Or.inl ⟨by rfl, ?_⟩; intro w' hSw; (try dsimp only at hSw); go_simp; try with_reducible rfl)
      (try simp only [Act.put, List.setIfInBounds_toArray, List.set_cons_zero, List.set_cons_succ])
      refine' wpAnyT_take (i := 16) (oi := ?oiu16) (v := ?vu16) ?hiu16 (by kernel_rfl) (by kernel_rfl) ?hqu16 ?hyu16 hHeld ?restu16
      case hiu16 => (simp only [List.getElem?_toArray, List.getElem?_cons_zero, List.getElem?_cons_succ]; rfl)
      case hqu16 => exact fun _ _ _ h => h
      case hyu16 => (refine Or.inl ⟨by rfl, ?_⟩; intro w' hSw; (try dsimp only at hSw); go_simp; try with_reducible rfl)
      (try simp only [Act.put, List.setIfInBounds_toArray, List.set_cons_zero, List.set_cons_succ])
      refine' wpAnyT_take (i := 17) (oi := ?oiu17) (v := ?vu17) ?hiu17 (by kernel_rfl) (by kernel_rfl) ?hqu17 ?hyu17 hHeld ?restu17
      case hiu17 => (simp only [List.getElem?_toArray, List.getElem?_cons_zero, List.getElem?_cons_succ]; rfl)
      case hqu17 => exact fun _ _ _ h => h
      case hyu17 => (refine Or.inl ⟨by rfl, ?_⟩; intro w' hSw; (try dsimp only at hSw); go_simp; try with_reducible rfl)
      (try simp only [Act.put, List.setIfInBounds_toArray, List.set_cons_zero, List.set_cons_succ])
      refine' wpAnyT_take (i := 18) (oi := ?oiu18) (v := ?vu18) ?hiu18 (by kernel_rfl) (by kernel_rfl) ?hqu18 ?hyu18 hHeld ?restu18
      case hiu18 => (simp only [List.getElem?_toArray, List.getElem?_cons_zero, List.getElem?_cons_succ]; rfl)
      case hqu18 => exact fun _ _ _ h => h
      case hyu18 => (refine Or.inl ⟨by rfl, ?_⟩; intro w' hSw; (try dsimp only at hSw); go_simp; try with_reducible rfl)
      (try simp only [Act.put, List.setIfInBounds_toArray, List.set_cons_zero, List.set_cons_succ])
      refine' wpAnyT_take (i := 19) (oi := ?oiu19) (v := ?vu19) ?hiu19 (by kernel_rfl) (by kernel_rfl) ?hqu19 ?hyu19 hHeld ?restu19
      case hiu19 => (simp only [List.getElem?_toArray, List.getElem?_cons_zero, List.getElem?_cons_succ]; rfl)
      case hqu19 => exact fun _ _ _ h => h
      case hyu19 => (refine Or.inl ⟨by rfl, ?_⟩; intro w' hSw; (try dsimp only at hSw); go_simp; try with_reducible rfl)
      (try simp only [Act.put, List.setIfInBounds_toArray, List.set_cons_zero, List.set_cons_succ])
      refine' wpAnyT_take (i := 20) (oi := ?oiu20) (v := ?vu20) ?hiu20 (by kernel_rfl) (by kernel_rfl) ?hqu20 ?hyu20 hHeld ?restu20
      case hiu20 => (simp only [List.getElem?_toArray, List.getElem?_cons_zero, List.getElem?_cons_succ]; rfl)
      case hqu20 => exact fun _ _ _ h => h
      case hyu20 => (refine Or.inl ⟨by rfl, ?_⟩; intro w' hSw; (try dsimp only at hSw); go_simp; try with_reducible rfl)
      (try simp only [Act.put, List.setIfInBounds_toArray, List.set_cons_zero, List.set_cons_succ])
      refine' wpAnyT_take (i := 21) (oi := ?oiu21) (v := ?vu21) ?hiu21 (by kernel_rfl) (by kernel_rfl) ?hqu21 ?hyu21 hHeld ?restu21
      case hiu21 => (simp only [List.getElem?_toArray, List.getElem?_cons_zero, List.getElem?_cons_succ]; rfl)
      case hqu21 => exact fun _ _ _ h => h
      case hyu21 => (refine Or.inl ⟨by rfl, ?_⟩; intro w' hSw; (try dsimp only at hSw); go_simp; try with_reducible rfl)
      (try simp only [Act.put, List.setIfInBounds_toArray, List.set_cons_zero, List.set_cons_succ])
      refine' wpAnyT_take (i := 22) (oi := ?oiu22) (v := ?vu22) ?hiu22 (by kernel_rfl) (by kernel_rfl) ?hqu22 ?hyu22 hHeld ?restu22
      case hiu22 => (simp only [List.getElem?_toArray, List.getElem?_cons_zero, List.getElem?_cons_succ]; rfl)
      case hqu22 => exact fun _ _ _ h => h
      case hyu22 => (refine Or.inl ⟨by rfl, ?_⟩; intro w' hSw; (try dsimp only at hSw); go_simp; try with_reducible rfl)
      (try simp only [Act.put, List.setIfInBounds_toArray, List.set_cons_zero, List.set_cons_succ])
      refine' wpAnyT_take (i := 23) (oi := ?oiu23) (v := ?vu23) ?hiu23 (by kernel_rfl) (by kernel_rfl) ?hqu23 ?hyu23 hHeld ?restu23
      case hiu23 => (simp only [List.getElem?_toArray, List.getElem?_cons_zero, List.getElem?_cons_succ]; rfl)
      case hqu23 => exact fun _ _ _ h => h
      case hyu23 => (refine Or.inl ⟨by rfl, ?_⟩; intro w' hSw; (try dsimp only at hSw); go_simp; try with_reducible rfl)
      (try simp only [Act.put, List.setIfInBounds_toArray, List.set_cons_zero, List.set_cons_succ])
      refine' wpAnyT_one (i := 24) (o := ?oiu24) (by kernel_rfl) ?hiu24 (fun K hK => ?stu24)
      case hiu24 => (simp only [List.getElem?_toArray, List.getElem?_cons_zero, List.getElem?_cons_succ]; rfl)
      go_simp
      refine hK.out _ _ (fun h => absurd h (by decide)) ?_
      clear hK K
      (try simp only [Act.put, List.setIfInBounds_toArray, List.set_cons_zero, List.set_cons_succ])
      refine wpAnyT_done (by kernel_rfl) ?_ _
      go_wp2_with fail
      go_ret
      exact ⟨rfl, by rw [HG0.out]; exact HB6.out.trans (HB.out.mono HLX.out)⟩
end Go.Proofs.Ytlbcidgmdfcamaa
