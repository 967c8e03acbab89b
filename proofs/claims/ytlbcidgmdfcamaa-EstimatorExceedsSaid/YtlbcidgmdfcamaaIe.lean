/- The law EstimatorExceeds walked. -/
import Derived.Test.YtlbcidgmdfcamaaO
namespace Go.Proofs.Ytlbcidgmdfcamaa
open Go.RowKit Go.Lib
theorem cutE {G : World → Nat → Prop} {R : Prop} (F : World → Nat → Prop) (main : (∀ X p, F X p → G X p) → R) (cont : ∀ X p, F X p → G X p) : R := main cont
set_option maxHeartbeats 16000000 in
set_option maxRecDepth 100000 in
theorem exceeds_walk (v : Value) (l : List Sq) (w : World) (hv : Sqs w v l) : Calls Try.prog 6 #[v] w (TrueQ w) := by
  obtain ⟨A, c, rfl, hlm⟩ := sqs_form hv
  obtain ⟨N, hN⟩ : ∃ N, l.length = N := ⟨_, rfl⟩
  obtain ⟨g0, hg0⟩ : ∃ g, w.heap.size = g := ⟨_, rfl⟩
  have HG0 := hid hg0
  have HV : Hid (∀ X, Below g0 w X → Sqs X (.slice A N c) l) := hid (fun X hX => by rw [← hN]; rw [← hg0] at hX; exact hv.below hX)
  have HLN := hid hN
  rw [hN] at hlm ⊢
  clear hv hN hg0
  by_cases big : 200 < N
  · have d0 : decide (200 < N) = true := decide_eq_true big
    have d1 : decide ((200 : Int) < (N : Int)) = true := decide_eq_true (by omega)
    go_enter Try.func6, Try.ntmps6
    go_wp2_with (go_at_call 12; (with_reducible refine (awake_any _).mono ?_); rintro _ w8 ⟨rfl, hb⟩; have HB := hid hb; clear hb)
    go_ret
    exact ⟨rfl, HB.out⟩
  have d0 : decide (200 < N) = false := decide_eq_false big
  have d1 : decide ((200 : Int) < (N : Int)) = false := decide_eq_false (by omega)
  go_enter Try.func6, Try.ntmps6
  go_upto_region 4 with (go_at_call 15; (with_reducible refine (aw0 _).mono ?_); rintro _ w1 ⟨rfl, hb⟩; have HB1 := hid hb; clear hb)
  obtain ⟨g, hg⟩ : ∃ h, w1.heap.size = h := ⟨_, rfl⟩
  obtain ⟨W2, hW2⟩ : ∃ X, w1.alloc (.cells (cE z4) 23) = X := ⟨_, rfl⟩
  have K0 : Hid (W2.heap[g]? = some (.cells (cE z4) 23)) := hid (by rw [← hW2, ← hg]; exact heap_alloc_new _ _)
  have HGG : Hid (g0 ≤ g) := hid (by rw [← hg, ← HG0.out]; exact HB1.out.size)
  have HB2 : Hid (Below g0 w W2) := hid (by rw [← hW2, ← HG0.out]; exact HB1.out.alloc HB1.out.size _)
  have HG := hid hg
  have HW2 := hid hW2
  simp only [cE, z4] at HW2
  clear hg hW2
  rw [HG.out, HW2.out]
  go_upto_region 5 with fail
  go_loopw [4] (fun iv wr => ∃ (k : Nat) (E : Est), k ≤ N ∧ iv = .int .i64 (k : Int) ∧ Hid (Ok5 E ∧ E.s ≤ 524287) ∧ Hid (wr.heap[g]? = some (.cells (cE E) 23)) ∧ Hid (Below g0 w wr)) (fun iv _ => N - (RowKit.intOf iv).toNat)
  case atStart => exact ⟨0, z4, by omega, rfl, hid ⟨bet_z4.1, show (0 : Int) ≤ 524287 by decide⟩, K0, HB2⟩
  case round =>
    obtain ⟨k, E, hk, rfl, HOK0, HK0, HB0⟩ := hrel
    by_cases hlt : k < N
    · have hlt' : decide ((k : Int) < (N : Int)) = true := decide_eq_true (by omega)
      obtain ⟨⟨eb, tt⟩, hx⟩ : ∃ x, l[k]? = some x := ⟨l[k]'(by rw [HLN.out]; exact hlt), List.getElem?_eq_getElem _⟩
      obtain ⟨b, off, rfl, hbl, htt, hc0, hc1⟩ := sqs_at (HV.out wr HB0.out) hx
      simp only at htt hc0 hc1
      obtain ⟨n, s, v, bb⟩ := E
      obtain ⟨x0, x1, x2, x3⟩ := load4 HK0.out
      simp only at x0 x1 x2 x3
      have fr := box_fr HK0.out
      clear hx
      cases eb
      · have hwt : wrap64 (tt : Int) = (tt : Int) := w64 (by omega) (by omega)
        obtain ⟨t, hT⟩ : ∃ t : Int, (tt : Int) = t := ⟨_, rfl⟩
        have ht0 : 0 ≤ t ∧ t ≤ 65535 := by omega
        rw [hT] at hwt hc1
        have hwt' : IntKind.i64.wrap t = t := by rw [IntKind.wrap_i64]; omega
        have hsm := smp_ok5 HOK0.out.1 ht0.1 ht0.2
        obtain ⟨⟨n', s', v', b'⟩, hE'⟩ : ∃ E, nxt ⟨n, s, v, bb⟩ t = E := ⟨_, rfl⟩
        rw [hE'] at hsm
        have HS := hid (fun W => sample_n hsm W)
        have HOK : Hid (Ok5 ⟨n', s', v', b'⟩ ∧ (⟨n', s', v', b'⟩ : Est).s ≤ 524287) := hid (by rw [← hE']; exact ⟨nxt_ok5 HOK0.out.1 ht0.1 ht0.2 HOK0.out.2, nxt_s HOK0.out.1.1 HOK0.out.2 ht0.1 ht0.2⟩)
        have HBL := hid hbl
        have HC1 := hid hc1
        simp only [ev] at HS
        have HK : Hid (∀ X, Below wr.heap.size wr X → X.cell? ⟨g, 0, none⟩ = some (.int .i64 n) ∧ X.cell? ⟨g, 1, none⟩ = some (.int .i64 s) ∧ X.cell? ⟨g, 2, none⟩ = some (.int .i64 v) ∧ X.cell? ⟨g, 3, none⟩ = some (.int .i64 bb) ∧ X.cell? ⟨b, off + k * 2 + 1, none⟩ = some (.int .u16 t)) := hid (fun X hX => by
          have a1 := load4 ((hX.block _ (box_lt HK0.out)).trans HK0.out)
          simp only at a1
          exact ⟨a1.1, a1.2.1, a1.2.2.1, a1.2.2.2, (hX.cell (p := ⟨b, _, none⟩) HBL.out).trans HC1.out⟩)
        clear hsm hE' ht0 hT hbl htt hc1
        go_upto_region 9 with fail
        have hin' : (k : Int) < (N : Int) := by omega
        clear x0 x1 x2 x3 hc0 fr
        apply cutE (fun X px => Below wr.heap.size wr X ∧ wr.heap.size ≤ px ∧ X.heap[px]? = some (.cells (cE ⟨n', s', v', b'⟩) 23))
        · intro HC
          have HC := hid HC
          refine region_tail 13 (fun X => X.cell? ⟨g, 0, none⟩ = some (.int .i64 n) ∧ X.cell? ⟨g, 1, none⟩ = some (.int .i64 s) ∧ X.cell? ⟨g, 2, none⟩ = some (.int .i64 v) ∧ X.cell? ⟨g, 3, none⟩ = some (.int .i64 bb) ∧ X.cell? ⟨b, off + k * 2 + 1, none⟩ = some (.int .u16 t)) (by kernel_rfl) ?_
          obtain ⟨X0, hX0⟩ : ∃ X, wr.drew = X := ⟨_, rfl⟩
          have hB0 : Below wr.heap.size wr X0 := by rw [← hX0]; exact (Below.refl wr.heap.size wr).drew
          have hHeld := HK.out X0 hB0
          rw [hX0]
          clear hX0
          refine' wpAnyT_take (i := 0) (oi := ?oiq1) (v := ?vq1) ?hiq1 (by kernel_rfl) (by kernel_rfl) ?hqq1 ?hyq1 hHeld ?restq1
          case hiq1 => (simp only [List.getElem?_toArray, List.getElem?_cons_zero]; rfl)
          case hqq1 => exact fun _ _ _ h => h
          case hyq1 => (refine Or.inl ⟨by rfl, ?_⟩; intro w' hSw; (try dsimp only at hSw); go_simp; try with_reducible rfl)
          (try simp only [Act.put, List.setIfInBounds_toArray, List.set_cons_zero, List.set_cons_succ])
          refine' wpAnyT_take (i := 1) (oi := ?oiq2) (v := ?vq2) ?hiq2 (by kernel_rfl) (by kernel_rfl) ?hqq2 ?hyq2 hHeld ?restq2
          case hiq2 => (simp only [List.getElem?_toArray, List.getElem?_cons_zero, List.getElem?_cons_succ]; rfl)
          case hqq2 => exact fun _ _ _ h => h
          case hyq2 => (refine Or.inl ⟨by rfl, ?_⟩; intro w' hSw; (try dsimp only at hSw); go_simp; try with_reducible rfl)
          (try simp only [Act.put, List.setIfInBounds_toArray, List.set_cons_zero, List.set_cons_succ])
          refine' wpAnyT_take (i := 2) (oi := ?oiq3) (v := ?vq3) ?hiq3 (by kernel_rfl) (by kernel_rfl) ?hqq3 ?hyq3 hHeld ?restq3
          case hiq3 => (simp only [List.getElem?_toArray, List.getElem?_cons_zero, List.getElem?_cons_succ]; rfl)
          case hqq3 => exact fun _ _ _ h => h
          case hyq3 => (refine Or.inl ⟨by rfl, ?_⟩; intro w' hSw; (try dsimp only at hSw); go_simp; try with_reducible rfl)
          (try simp only [Act.put, List.setIfInBounds_toArray, List.set_cons_zero, List.set_cons_succ])
          refine' wpAnyT_take (i := 3) (oi := ?oiq4) (v := ?vq4) ?hiq4 (by kernel_rfl) (by kernel_rfl) ?hqq4 ?hyq4 hHeld ?restq4
          case hiq4 => (simp only [List.getElem?_toArray, List.getElem?_cons_zero, List.getElem?_cons_succ]; rfl)
          case hqq4 => exact fun _ _ _ h => h
          case hyq4 => (refine Or.inl ⟨by rfl, ?_⟩; intro w' hSw; (try dsimp only at hSw); go_simp; try with_reducible rfl)
          (try simp only [Act.put, List.setIfInBounds_toArray, List.set_cons_zero, List.set_cons_succ])
          refine' wpAnyT_take (i := 4) (oi := ?oiq5) (v := ?vq5) ?hiq5 (by kernel_rfl) (by kernel_rfl) ?hqq5 ?hyq5 hHeld ?restq5
          case hiq5 => (simp only [List.getElem?_toArray, List.getElem?_cons_zero, List.getElem?_cons_succ]; rfl)
          case hqq5 => exact fun _ _ _ h => h
          case hyq5 => (refine Or.inl ⟨by rfl, ?_⟩; intro w' hSw; (try dsimp only at hSw); go_simp; try with_reducible rfl)
          (try simp only [Act.put, List.setIfInBounds_toArray, List.set_cons_zero, List.set_cons_succ])
          refine' wpAnyT_take (i := 5) (oi := ?oiq6) (v := ?vq6) ?hiq6 (by kernel_rfl) (by kernel_rfl) ?hqq6 ?hyq6 hHeld ?restq6
          case hiq6 => (simp only [List.getElem?_toArray, List.getElem?_cons_zero, List.getElem?_cons_succ]; rfl)
          case hqq6 => exact fun _ _ _ h => h
          case hyq6 => (refine Or.inl ⟨by rfl, ?_⟩; intro w' hSw; (try dsimp only at hSw); go_simp; try with_reducible rfl)
          (try simp only [Act.put, List.setIfInBounds_toArray, List.set_cons_zero, List.set_cons_succ])
          refine' wpAnyT_take (i := 6) (oi := ?oiq7) (v := ?vq7) ?hiq7 (by kernel_rfl) (by kernel_rfl) ?hqq7 ?hyq7 hHeld ?restq7
          case hiq7 => (simp only [List.getElem?_toArray, List.getElem?_cons_zero, List.getElem?_cons_succ]; rfl)
          case hqq7 => exact fun _ _ _ h => h
          case hyq7 => (refine Or.inl ⟨by rfl, ?_⟩; intro w' hSw; (try dsimp only at hSw); go_simp; try with_reducible rfl)
          (try simp only [Act.put, List.setIfInBounds_toArray, List.set_cons_zero, List.set_cons_succ])
          refine wpAnyT_all (l := [7, 11]) (by kernel_rfl) (by decide) ?_
          intro i hi
          simp only [List.mem_cons, List.not_mem_nil, or_false] at hi
          rcases hi with rfl | rfl
          · refine ⟨_, by (simp only [List.getElem?_toArray, List.getElem?_cons_zero, List.getElem?_cons_succ]; rfl), fun K hK => ?_⟩
            go_simp
            go_at_call 10
            (with_reducible refine (HS.out X0).mono ?_)
            rintro e Yq35 ⟨rfl, hbb35⟩
            clear hHeld
            have hHeld := HK.out Yq35 (below_both hB0 hbb35)
            refine hK.out _ _ (fun _ => hHeld) ?_
            clear hK K
            (try simp only [Act.put, List.setIfInBounds_toArray, List.set_cons_zero, List.set_cons_succ])
            refine' wpAnyT_take (i := 8) (oi := ?oiq8) (v := ?vq8) ?hiq8 (by kernel_rfl) (by kernel_rfl) ?hqq8 ?hyq8 hHeld ?restq8
            case hiq8 => (simp only [List.getElem?_toArray, List.getElem?_cons_zero, List.getElem?_cons_succ]; rfl)
            case hqq8 => exact fun _ _ _ h => h
            case hyq8 => (refine Or.inl ⟨by rfl, ?_⟩; intro w' hSw; (try dsimp only at hSw); go_simp; try with_reducible rfl)
            (try simp only [Act.put, List.setIfInBounds_toArray, List.set_cons_zero, List.set_cons_succ])
            refine' wpAnyT_take (i := 9) (oi := ?oiq9) (v := ?vq9) ?hiq9 (by kernel_rfl) (by kernel_rfl) ?hqq9 ?hyq9 hHeld ?restq9
            case hiq9 => (simp only [List.getElem?_toArray, List.getElem?_cons_zero, List.getElem?_cons_succ]; rfl)
            case hqq9 => exact fun _ _ _ h => h
            case hyq9 => (refine Or.inl ⟨by rfl, ?_⟩; intro w' hSw; (try dsimp only at hSw); go_simp; try with_reducible rfl)
            (try simp only [Act.put, List.setIfInBounds_toArray, List.set_cons_zero, List.set_cons_succ])
            refine' wpAnyT_take (i := 10) (oi := ?oiq10) (v := ?vq10) ?hiq10 (by kernel_rfl) (by kernel_rfl) ?hqq10 ?hyq10 hHeld ?restq10
            case hiq10 => (simp only [List.getElem?_toArray, List.getElem?_cons_zero, List.getElem?_cons_succ]; rfl)
            case hqq10 => exact fun _ _ _ h => h
            case hyq10 => (refine Or.inl ⟨by rfl, ?_⟩; intro w' hSw; (try dsimp only at hSw); go_simp; try with_reducible rfl)
            (try simp only [Act.put, List.setIfInBounds_toArray, List.set_cons_zero, List.set_cons_succ])
            refine' wpAnyT_one (i := 11) (o := ?oiq11) (by kernel_rfl) ?hiq11 (fun K hK => ?stq11)
            case hiq11 => (simp only [List.getElem?_toArray, List.getElem?_cons_zero, List.getElem?_cons_succ]; rfl)
            go_simp
            obtain ⟨Yq5, hY⟩ : ∃ X, Yq35.alloc (.cells #[.int .i64 0, .int .i64 0, .int .i64 0, .int .i64 0] 23) = X := ⟨_, rfl⟩
            obtain ⟨px, hh⟩ : ∃ h, Yq35.heap.size = h := ⟨_, rfl⟩
            have hbb5 : Below Yq35.heap.size Yq35 Yq5 := by rw [← hY]; exact al1 _ _
            have HZpx : Hid (Yq5.heap[px]? = some (.cells #[.int .i64 0, .int .i64 0, .int .i64 0, .int .i64 0] 23)) := hid (by rw [← hY, ← hh]; exact heap_alloc_new _ _)
            have HPW : Hid (wr.heap.size ≤ px) := hid (by rw [← hh]; exact (below_both hB0 hbb35).size)
            rw [hY, hh]
            clear hY hh
            clear hHeld
            have hHeld := HK.out Yq5 (below_both hB0 (below_both hbb35 hbb5))
            refine hK.out _ _ (fun _ => hHeld) ?_
            clear hK K
            (try simp only [Act.put, List.setIfInBounds_toArray, List.set_cons_zero, List.set_cons_succ])
            refine' wpAnyT_one (i := 12) (o := ?oiq12) (by kernel_rfl) ?hiq12 (fun K hK => ?stq12)
            case hiq12 => (simp only [List.getElem?_toArray, List.getElem?_cons_zero, List.getElem?_cons_succ]; rfl)
            have hp15 : Yq5.heap[px]? = some (.cells (cE z4) 23) := (((Below.refl _ _).block _ (box_lt HZpx.out)).trans HZpx.out)
            obtain ⟨q0, q1, q2, q3⟩ := load4 hp15
            simp only [z4] at q0 q1 q2 q3
            have fp0 := box_fr hp15 0
            have fp1 := box_fr hp15 1
            have fp2 := box_fr hp15 2
            have fp3 := box_fr hp15 3
            go_simp
            obtain ⟨YqN12, hY⟩ : ∃ X, set4 Yq5 px ⟨n', s', v', b'⟩ = X := ⟨_, rfl⟩
            have HP15 : Hid (YqN12.heap[px]? = some (.cells (cE ⟨n', s', v', b'⟩) 23)) := hid (by rw [← hY]; exact set4h ⟨n', s', v', b'⟩ hp15)
            have hbbnone12 : Below wr.heap.size wr YqN12 := by rw [← hY]; exact set4b ⟨n', s', v', b'⟩ (below_both hB0 (below_both hbb35 hbb5)) HPW.out
            simp only [set4] at hY
            rw [hY]
            clear hY hp15 q0 q1 q2 q3 fp0 fp1 fp2 fp3
            clear hHeld
            have hHeld := HK.out YqN12 hbbnone12
            refine hK.out _ _ (fun _ => hHeld) ?_
            clear hK K
            refine' wpAnyT_one (i := 13) (o := ?oiq13) (by kernel_rfl) ?hiq13 (fun K hK => ?stq13)
            case hiq13 => (simp only [List.getElem?_toArray, List.getElem?_cons_zero, List.getElem?_cons_succ]; rfl)
            go_simp
            refine hK.out _ _ (fun h => absurd h (by decide)) ?_
            clear hK K
            (try simp only [Act.put, List.setIfInBounds_toArray, List.set_cons_zero, List.set_cons_succ])
            refine wpAnyT_done (by kernel_rfl) ?_ _
            exact HC.out YqN12 px ⟨hbbnone12, HPW.out, HP15.out⟩
          · refine ⟨_, by (simp only [List.getElem?_toArray, List.getElem?_cons_zero, List.getElem?_cons_succ]; rfl), fun K hK => ?_⟩
            go_simp
            obtain ⟨Yq5, hY⟩ : ∃ X, X0.alloc (.cells #[.int .i64 0, .int .i64 0, .int .i64 0, .int .i64 0] 23) = X := ⟨_, rfl⟩
            obtain ⟨px, hh⟩ : ∃ h, X0.heap.size = h := ⟨_, rfl⟩
            have hbb5 : Below X0.heap.size X0 Yq5 := by rw [← hY]; exact al1 _ _
            have HZpx : Hid (Yq5.heap[px]? = some (.cells #[.int .i64 0, .int .i64 0, .int .i64 0, .int .i64 0] 23)) := hid (by rw [← hY, ← hh]; exact heap_alloc_new _ _)
            have HPW : Hid (wr.heap.size ≤ px) := hid (by rw [← hh]; exact hB0.size)
            rw [hY, hh]
            clear hY hh
            clear hHeld
            have hHeld := HK.out Yq5 (below_both hB0 hbb5)
            refine hK.out _ _ (fun _ => hHeld) ?_
            clear hK K
            (try simp only [Act.put, List.setIfInBounds_toArray, List.set_cons_zero, List.set_cons_succ])
            refine' wpAnyT_one (i := 7) (o := ?oiq14) (by kernel_rfl) ?hiq14 (fun K hK => ?stq14)
            case hiq14 => (simp only [List.getElem?_toArray, List.getElem?_cons_zero, List.getElem?_cons_succ]; rfl)
            go_simp
            go_at_call 10
            (with_reducible refine (HS.out Yq5).mono ?_)
            rintro e Yq35 ⟨rfl, hbb35⟩
            clear hHeld
            have hHeld := HK.out Yq35 (below_both hB0 (below_both hbb5 hbb35))
            refine hK.out _ _ (fun _ => hHeld) ?_
            clear hK K
            (try simp only [Act.put, List.setIfInBounds_toArray, List.set_cons_zero, List.set_cons_succ])
            refine' wpAnyT_take (i := 8) (oi := ?oiq15) (v := ?vq15) ?hiq15 (by kernel_rfl) (by kernel_rfl) ?hqq15 ?hyq15 hHeld ?restq15
            case hiq15 => (simp only [List.getElem?_toArray, List.getElem?_cons_zero, List.getElem?_cons_succ]; rfl)
            case hqq15 => exact fun _ _ _ h => h
            case hyq15 => (refine Or.inl ⟨by rfl, ?_⟩; intro w' hSw; (try dsimp only at hSw); go_simp; try with_reducible rfl)
            (try simp only [Act.put, List.setIfInBounds_toArray, List.set_cons_zero, List.set_cons_succ])
            refine' wpAnyT_take (i := 9) (oi := ?oiq16) (v := ?vq16) ?hiq16 (by kernel_rfl) (by kernel_rfl) ?hqq16 ?hyq16 hHeld ?restq16
            case hiq16 => (simp only [List.getElem?_toArray, List.getElem?_cons_zero, List.getElem?_cons_succ]; rfl)
            case hqq16 => exact fun _ _ _ h => h
            case hyq16 => (refine Or.inl ⟨by rfl, ?_⟩; intro w' hSw; (try dsimp only at hSw); go_simp; try with_reducible rfl)
            (try simp only [Act.put, List.setIfInBounds_toArray, List.set_cons_zero, List.set_cons_succ])
            refine' wpAnyT_take (i := 10) (oi := ?oiq17) (v := ?vq17) ?hiq17 (by kernel_rfl) (by kernel_rfl) ?hqq17 ?hyq17 hHeld ?restq17
            case hiq17 => (simp only [List.getElem?_toArray, List.getElem?_cons_zero, List.getElem?_cons_succ]; rfl)
            case hqq17 => exact fun _ _ _ h => h
            case hyq17 => (refine Or.inl ⟨by rfl, ?_⟩; intro w' hSw; (try dsimp only at hSw); go_simp; try with_reducible rfl)
            (try simp only [Act.put, List.setIfInBounds_toArray, List.set_cons_zero, List.set_cons_succ])
            refine' wpAnyT_one (i := 12) (o := ?oiq18) (by kernel_rfl) ?hiq18 (fun K hK => ?stq18)
            case hiq18 => (simp only [List.getElem?_toArray, List.getElem?_cons_zero, List.getElem?_cons_succ]; rfl)
            have hp15 : Yq35.heap[px]? = some (.cells (cE z4) 23) := ((hbb35.block _ (box_lt HZpx.out)).trans HZpx.out)
            obtain ⟨q0, q1, q2, q3⟩ := load4 hp15
            simp only [z4] at q0 q1 q2 q3
            have fp0 := box_fr hp15 0
            have fp1 := box_fr hp15 1
            have fp2 := box_fr hp15 2
            have fp3 := box_fr hp15 3
            go_simp
            obtain ⟨YqN12, hY⟩ : ∃ X, set4 Yq35 px ⟨n', s', v', b'⟩ = X := ⟨_, rfl⟩
            have HP15 : Hid (YqN12.heap[px]? = some (.cells (cE ⟨n', s', v', b'⟩) 23)) := hid (by rw [← hY]; exact set4h ⟨n', s', v', b'⟩ hp15)
            have hbbnone12 : Below wr.heap.size wr YqN12 := by rw [← hY]; exact set4b ⟨n', s', v', b'⟩ (below_both hB0 (below_both hbb5 hbb35)) HPW.out
            simp only [set4] at hY
            rw [hY]
            clear hY hp15 q0 q1 q2 q3 fp0 fp1 fp2 fp3
            clear hHeld
            have hHeld := HK.out YqN12 hbbnone12
            refine hK.out _ _ (fun _ => hHeld) ?_
            clear hK K
            refine' wpAnyT_one (i := 13) (o := ?oiq19) (by kernel_rfl) ?hiq19 (fun K hK => ?stq19)
            case hiq19 => (simp only [List.getElem?_toArray, List.getElem?_cons_zero, List.getElem?_cons_succ]; rfl)
            go_simp
            refine hK.out _ _ (fun h => absurd h (by decide)) ?_
            clear hK K
            (try simp only [Act.put, List.setIfInBounds_toArray, List.set_cons_zero, List.set_cons_succ])
            refine wpAnyT_done (by kernel_rfl) ?_ _
            exact HC.out YqN12 px ⟨hbbnone12, HPW.out, HP15.out⟩
        intro X1 px ⟨hB, hpw, hpx⟩
        have HPX := hid hpx
        have HPW := hid hpw
        have K5 : Hid (X1.heap[g]? = some (.cells (cE ⟨n, s, v, bb⟩) 23)) := hid ((hB.block _ (box_lt HK0.out)).trans HK0.out)
        have HB4 : Hid (Below g0 w X1) := hid (HB0.out.trans (hB.mono (Nat.le_trans HGG.out (Nat.le_of_lt (box_lt HK0.out)))))
        obtain ⟨y0, y1, y2, y3⟩ := load4 hpx
        obtain ⟨z0, z1, z2, z3⟩ := load4 K5.out
        have fr := box_fr K5.out
        simp only at y0 y1 y2 y3 z0 z1 z2 z3
        clear hB hpw hpx
        go_upto_region 13 with fail
        obtain ⟨W4, hW4⟩ : ∃ X, set4 X1 g ⟨n', s', v', b'⟩ = X := ⟨_, rfl⟩
        have k6 : W4.heap[g]? = some (.cells (cE ⟨n', s', v', b'⟩) 23) := by rw [← hW4]; exact set4h ⟨n', s', v', b'⟩ K5.out
        have HB5 : Hid (Below g0 w W4) := hid (by rw [← hW4]; exact set4b ⟨n', s', v', b'⟩ HB4.out HGG.out)
        have K6 := hid k6
        obtain ⟨p0, p1, p2, p3⟩ := load4 k6
        simp only at p0 p1 p2 p3
        have HW4 := hid hW4
        simp only [set4] at HW4
        clear k6 hW4 y0 y1 y2 y3 z0 z1 z2 z3 fr
        rw [HW4.out]
        have hex := exceeds HOK.out.1
        obtain ⟨⟨xn, xs, xv, xb⟩, hX⟩ : ∃ E, exq ⟨n', s', v', b'⟩ = E := ⟨_, rfl⟩
        obtain ⟨m, hm⟩ : ∃ m, mean ⟨n', s', v', b'⟩ = m := ⟨_, rfl⟩
        obtain ⟨T, hT⟩ : ∃ T, tmo ⟨n', s', v', b'⟩ = T := ⟨_, rfl⟩
        obtain ⟨U, hU⟩ : ∃ U, tmo ⟨xn, xs, xv, xb⟩ = U := ⟨_, rfl⟩
        rw [hX, hm, hT, hU] at hex
        have HM := hid (fun W => mean_any ⟨n', s', v', b'⟩ W)
        have HT := hid (fun W => timeout_any ⟨n', s', v', b'⟩ W)
        have HX := hid (fun W => expired_any ⟨n', s', v', b'⟩ W)
        have HU := hid (fun W => timeout_any ⟨xn, xs, xv, xb⟩ W)
        rw [hm] at HM
        rw [hT] at HT
        rw [hX] at HX
        rw [hU] at HU
        simp only [ev] at HM HT HX HU
        obtain ⟨e1, e2, e3, e4, e5, e6⟩ := hex
        simp only at e5
        have HE5 := hid e5
        have HE6 := hid e6
        have hw2 : wrap64 (2 * T) = 2 * T := w64 (by omega) (by omega)
        have d1 : decide (T ≤ m) = false := decide_eq_false (by omega)
        have d2 : decide (U < T) = false := decide_eq_false (by omega)
        clear hX hm hT hU e1 e2 e3 e4 e5 e6
        go_upto_region 13 with fail
        obtain ⟨X0, hX0⟩ : ∃ X, W4.drew = X := ⟨_, rfl⟩
        have k8 : X0.heap[g]? = some (.cells (cE ⟨n', s', v', b'⟩) 23) := by rw [← hX0]; exact K6.out
        have HB8 : Hid (Below g0 w X0) := hid (by rw [← hX0]; exact below_drew HB5.out)
        have K8 := hid k8
        have HS0 : Hid (g0 ≤ X0.heap.size) := hid (Nat.le_trans HGG.out (Nat.le_of_lt (box_lt k8)))
        have HK8 : Hid (∀ X, Below X0.heap.size X0 X → X.cell? ⟨g, 0, none⟩ = some (.int .i64 n') ∧ X.cell? ⟨g, 1, none⟩ = some (.int .i64 s') ∧ X.cell? ⟨g, 2, none⟩ = some (.int .i64 v') ∧ X.cell? ⟨g, 3, none⟩ = some (.int .i64 b')) := hid (fun X hX => by
          have a1 := load4 ((hX.block _ (box_lt K8.out)).trans K8.out)
          simp only at a1
          exact a1)
        have HB := hid (Below.refl X0.heap.size X0)
        have hHeld := HK8.out X0 HB.out
        have HX0 := hid hX0
        clear hX0 k8 p0 p1 p2 p3
        refine region_tail 6 (fun X => X.cell? ⟨g, 0, none⟩ = some (.int .i64 n') ∧ X.cell? ⟨g, 1, none⟩ = some (.int .i64 s') ∧ X.cell? ⟨g, 2, none⟩ = some (.int .i64 v') ∧ X.cell? ⟨g, 3, none⟩ = some (.int .i64 b')) (by kernel_rfl) ?_
        rw [HX0.out]
        refine' wpAnyT_take (i := 0) (oi := ?oix0) (v := ?vx0) ?hix0 (by kernel_rfl) (by kernel_rfl) ?hqx0 ?hyx0 hHeld ?restx0
        case hix0 => (simp only [List.getElem?_toArray, List.getElem?_cons_zero]; rfl)
        case hqx0 => exact fun _ _ _ h => h
        case hyx0 => (refine Or.inl ⟨by rfl, ?_⟩; intro w' hSw; (try dsimp only at hSw); go_simp; try with_reducible rfl)
        (try simp only [Act.put, List.setIfInBounds_toArray, List.set_cons_zero, List.set_cons_succ])
        refine' wpAnyT_take (i := 2) (oi := ?oix2) (v := ?vx2) ?hix2 (by kernel_rfl) (by kernel_rfl) ?hqx2 ?hyx2 hHeld ?restx2
        case hix2 => (simp only [List.getElem?_toArray, List.getElem?_cons_zero, List.getElem?_cons_succ]; rfl)
        case hqx2 => exact fun _ _ _ h => h
        case hyx2 => (refine Or.inl ⟨by rfl, ?_⟩; intro w' hSw; (try dsimp only at hSw); go_simp; try with_reducible rfl)
        (try simp only [Act.put, List.setIfInBounds_toArray, List.set_cons_zero, List.set_cons_succ])
        refine' wpAnyT_one (i := 1) (o := ?oix1) (by kernel_rfl) ?hix1 (fun K hK => ?stx1)
        case hix1 => (simp only [List.getElem?_toArray, List.getElem?_cons_zero, List.getElem?_cons_succ]; rfl)
        go_simp
        go_at_call 17
        (with_reducible refine (HT.out _).mono ?_)
        rintro _ X1 ⟨rfl, hb⟩
        have HB := hid (HB.out.trans (hb.mono HB.out.size))
        have hHeld := HK8.out X1 HB.out
        clear hb
        refine hK.out _ _ (fun _ => hHeld) ?_
        clear hK K
        (try simp only [Act.put, List.setIfInBounds_toArray, List.set_cons_zero, List.set_cons_succ])
        refine' wpAnyT_one (i := 3) (o := ?oix3) (by kernel_rfl) ?hix3 (fun K hK => ?stx3)
        case hix3 => (simp only [List.getElem?_toArray, List.getElem?_cons_zero, List.getElem?_cons_succ]; rfl)
        go_simp
        go_at_call 21
        (with_reducible refine (HX.out _).mono ?_)
        rintro _ X2 ⟨rfl, hb⟩
        have HB := hid (HB.out.trans (hb.mono HB.out.size))
        have hHeld := HK8.out X2 HB.out
        clear hb
        refine hK.out _ _ (fun _ => hHeld) ?_
        clear hK K
        (try simp only [Act.put, List.setIfInBounds_toArray, List.set_cons_zero, List.set_cons_succ])
        refine' wpAnyT_one (i := 4) (o := ?oix4) (by kernel_rfl) ?hix4 (fun K hK => ?stx4)
        case hix4 => (simp only [List.getElem?_toArray, List.getElem?_cons_zero, List.getElem?_cons_succ]; rfl)
        go_simp
        go_at_call 17
        (with_reducible refine (HU.out _).mono ?_)
        rintro _ X3 ⟨rfl, hb⟩
        have HB := hid (HB.out.trans (hb.mono HB.out.size))
        have hHeld := HK8.out X3 HB.out
        clear hb
        refine hK.out _ _ (fun _ => hHeld) ?_
        clear hK K
        (try simp only [Act.put, List.setIfInBounds_toArray, List.set_cons_zero, List.set_cons_succ])
        refine' wpAnyT_one (i := 5) (o := ?oix5) (by kernel_rfl) ?hix5 (fun K hK => ?stx5)
        case hix5 => (simp only [List.getElem?_toArray, List.getElem?_cons_zero, List.getElem?_cons_succ]; rfl)
        go_simp
        refine hK.out _ _ (fun _ => hHeld) ?_
        clear hK K
        (try simp only [Act.put, List.setIfInBounds_toArray, List.set_cons_zero, List.set_cons_succ])
        refine' wpAnyT_one (i := 6) (o := ?oix6) (by kernel_rfl) ?hix6 (fun K hK => ?stx6)
        case hix6 => (simp only [List.getElem?_toArray, List.getElem?_cons_zero, List.getElem?_cons_succ]; rfl)
        go_simp
        refine hK.out _ _ (fun h => absurd h (by decide)) ?_
        clear hK K
        (try simp only [Act.put, List.setIfInBounds_toArray, List.set_cons_zero, List.set_cons_succ])
        refine wpAnyT_done (by kernel_rfl) ?_ _
        go_upto_region 14 with fail
        obtain ⟨p0, p1, p2, p3⟩ := hHeld
        have HK := hid ((HB.out.block _ (box_lt K8.out)).trans K8.out)
        have HB := hid (HB8.out.trans (HB.out.mono HS0.out))
        by_cases b12 : b' < 12
        · have d3 : decide (b' < 12) = true := decide_eq_true b12
          by_cases t2 : 2 * T ≤ 65536
          · have d4 : decide (2 * T ≤ 65536) = true := decide_eq_true t2
            have d5 : (U != 2 * T) = false := by rw [HE5.out b12 t2]; simp
            by_cases tu : T < U
            · have d6 : decide (T < U) = true := decide_eq_true tu
              have d7 : decide (65536 < U) = false := decide_eq_false (fun h => HE6.out ⟨tu, h⟩)
              clear b12 t2 tu
              go_wp2_with (go_at_call 19; (with_reducible refine (HM.out _).mono ?_); rintro _ w7 ⟨rfl, hb⟩; have hk7 := (hb.block _ (box_lt HK.out)).trans HK.out; have HB := hid (HB.out.trans (hb.mono (Nat.le_trans HGG.out (Nat.le_of_lt (box_lt HK.out))))); have HK := hid hk7; obtain ⟨p0, p1, p2, p3⟩ := load4 hk7; simp only at p0 p1 p2 p3; clear hb hk7)
              go_roundw
              case rel => exact ⟨k + 1, _, by omega, by go_num, HOK, HK, HB⟩
              case measure => simp [RowKit.intOf]; omega
            · have d6 : decide (T < U) = false := decide_eq_false tu
              clear b12 t2 tu
              go_wp2_with (go_at_call 19; (with_reducible refine (HM.out _).mono ?_); rintro _ w7 ⟨rfl, hb⟩; have hk7 := (hb.block _ (box_lt HK.out)).trans HK.out; have HB := hid (HB.out.trans (hb.mono (Nat.le_trans HGG.out (Nat.le_of_lt (box_lt HK.out))))); have HK := hid hk7; obtain ⟨p0, p1, p2, p3⟩ := load4 hk7; simp only at p0 p1 p2 p3; clear hb hk7)
              go_roundw
              case rel => exact ⟨k + 1, _, by omega, by go_num, HOK, HK, HB⟩
              case measure => simp [RowKit.intOf]; omega
          · have d4 : decide (2 * T ≤ 65536) = false := decide_eq_false t2
            by_cases tu : T < U
            · have d6 : decide (T < U) = true := decide_eq_true tu
              have d7 : decide (65536 < U) = false := decide_eq_false (fun h => HE6.out ⟨tu, h⟩)
              clear b12 t2 tu
              go_wp2_with (go_at_call 19; (with_reducible refine (HM.out _).mono ?_); rintro _ w7 ⟨rfl, hb⟩; have hk7 := (hb.block _ (box_lt HK.out)).trans HK.out; have HB := hid (HB.out.trans (hb.mono (Nat.le_trans HGG.out (Nat.le_of_lt (box_lt HK.out))))); have HK := hid hk7; obtain ⟨p0, p1, p2, p3⟩ := load4 hk7; simp only at p0 p1 p2 p3; clear hb hk7)
              go_roundw
              case rel => exact ⟨k + 1, _, by omega, by go_num, HOK, HK, HB⟩
              case measure => simp [RowKit.intOf]; omega
            · have d6 : decide (T < U) = false := decide_eq_false tu
              clear b12 t2 tu
              go_wp2_with (go_at_call 19; (with_reducible refine (HM.out _).mono ?_); rintro _ w7 ⟨rfl, hb⟩; have hk7 := (hb.block _ (box_lt HK.out)).trans HK.out; have HB := hid (HB.out.trans (hb.mono (Nat.le_trans HGG.out (Nat.le_of_lt (box_lt HK.out))))); have HK := hid hk7; obtain ⟨p0, p1, p2, p3⟩ := load4 hk7; simp only at p0 p1 p2 p3; clear hb hk7)
              go_roundw
              case rel => exact ⟨k + 1, _, by omega, by go_num, HOK, HK, HB⟩
              case measure => simp [RowKit.intOf]; omega
        · have d3 : decide (b' < 12) = false := decide_eq_false b12
          by_cases tu : T < U
          · have d6 : decide (T < U) = true := decide_eq_true tu
            have d7 : decide (65536 < U) = false := decide_eq_false (fun h => HE6.out ⟨tu, h⟩)
            clear b12 tu
            go_wp2_with (go_at_call 19; (with_reducible refine (HM.out _).mono ?_); rintro _ w7 ⟨rfl, hb⟩; have hk7 := (hb.block _ (box_lt HK.out)).trans HK.out; have HB := hid (HB.out.trans (hb.mono (Nat.le_trans HGG.out (Nat.le_of_lt (box_lt HK.out))))); have HK := hid hk7; obtain ⟨p0, p1, p2, p3⟩ := load4 hk7; simp only at p0 p1 p2 p3; clear hb hk7)
            go_roundw
            case rel => exact ⟨k + 1, _, by omega, by go_num, HOK, HK, HB⟩
            case measure => simp [RowKit.intOf]; omega
          · have d6 : decide (T < U) = false := decide_eq_false tu
            clear b12 tu
            go_wp2_with (go_at_call 19; (with_reducible refine (HM.out _).mono ?_); rintro _ w7 ⟨rfl, hb⟩; have hk7 := (hb.block _ (box_lt HK.out)).trans HK.out; have HB := hid (HB.out.trans (hb.mono (Nat.le_trans HGG.out (Nat.le_of_lt (box_lt HK.out))))); have HK := hid hk7; obtain ⟨p0, p1, p2, p3⟩ := load4 hk7; simp only at p0 p1 p2 p3; clear hb hk7)
            go_roundw
            case rel => exact ⟨k + 1, _, by omega, by go_num, HOK, HK, HB⟩
            case measure => simp [RowKit.intOf]; omega
      · obtain ⟨⟨n', s', v', b'⟩, hE'⟩ : ∃ E, exq ⟨n, s, v, bb⟩ = E := ⟨_, rfl⟩
        have HS := hid (fun W => expired_any ⟨n, s, v, bb⟩ W)
        rw [hE'] at HS
        have HOK : Hid (Ok5 ⟨n', s', v', b'⟩ ∧ (⟨n', s', v', b'⟩ : Est).s ≤ 524287) := hid (by
          have h1 := exq_ok5 HOK0.out.1
          rw [← hE']
          refine ⟨h1.1, ?_⟩
          rw [h1.2]
          exact HOK0.out.2)
        simp only [ev] at HS
        clear hE' hbl htt
        go_upto_region 13 with (go_at_call 21; (with_reducible refine (HS.out _).mono ?_); rintro _ w7 ⟨rfl, hb⟩; have hk7 := (hb.block _ (box_lt HK0.out)).trans HK0.out; have HB3 := hid (HB0.out.trans (hb.mono (Nat.le_trans HGG.out (Nat.le_of_lt (box_lt HK0.out))))); have K3 := hid hk7; obtain ⟨p0, p1, p2, p3⟩ := load4 hk7; simp only at p0 p1 p2 p3; have fr7 := box_fr hk7; clear hb hk7)
        obtain ⟨W4, hW4⟩ : ∃ X, set4 w7 g ⟨n', s', v', b'⟩ = X := ⟨_, rfl⟩
        have k6 : W4.heap[g]? = some (.cells (cE ⟨n', s', v', b'⟩) 23) := by rw [← hW4]; exact set4h ⟨n', s', v', b'⟩ K3.out
        have HB5 : Hid (Below g0 w W4) := hid (by rw [← hW4]; exact set4b ⟨n', s', v', b'⟩ HB3.out HGG.out)
        have K6 := hid k6
        have HW4 := hid hW4
        simp only [set4] at HW4
        clear hW4 p0 p1 p2 p3 fr7
        obtain ⟨p0, p1, p2, p3⟩ := load4 k6
        simp only at p0 p1 p2 p3
        clear k6
        rw [HW4.out]
        have hex := exceeds HOK.out.1
        obtain ⟨⟨xn, xs, xv, xb⟩, hX⟩ : ∃ E, exq ⟨n', s', v', b'⟩ = E := ⟨_, rfl⟩
        obtain ⟨m, hm⟩ : ∃ m, mean ⟨n', s', v', b'⟩ = m := ⟨_, rfl⟩
        obtain ⟨T, hT⟩ : ∃ T, tmo ⟨n', s', v', b'⟩ = T := ⟨_, rfl⟩
        obtain ⟨U, hU⟩ : ∃ U, tmo ⟨xn, xs, xv, xb⟩ = U := ⟨_, rfl⟩
        rw [hX, hm, hT, hU] at hex
        have HM := hid (fun W => mean_any ⟨n', s', v', b'⟩ W)
        have HT := hid (fun W => timeout_any ⟨n', s', v', b'⟩ W)
        have HX := hid (fun W => expired_any ⟨n', s', v', b'⟩ W)
        have HU := hid (fun W => timeout_any ⟨xn, xs, xv, xb⟩ W)
        rw [hm] at HM
        rw [hT] at HT
        rw [hX] at HX
        rw [hU] at HU
        simp only [ev] at HM HT HX HU
        obtain ⟨e1, e2, e3, e4, e5, e6⟩ := hex
        simp only at e5
        have HE5 := hid e5
        have HE6 := hid e6
        have hw2 : wrap64 (2 * T) = 2 * T := w64 (by omega) (by omega)
        have d1 : decide (T ≤ m) = false := decide_eq_false (by omega)
        have d2 : decide (U < T) = false := decide_eq_false (by omega)
        clear hX hm hT hU e1 e2 e3 e4 e5 e6
        go_upto_region 13 with fail
        obtain ⟨X0, hX0⟩ : ∃ X, W4.drew = X := ⟨_, rfl⟩
        have k8 : X0.heap[g]? = some (.cells (cE ⟨n', s', v', b'⟩) 23) := by rw [← hX0]; exact K6.out
        have HB8 : Hid (Below g0 w X0) := hid (by rw [← hX0]; exact below_drew HB5.out)
        have K8 := hid k8
        have HS0 : Hid (g0 ≤ X0.heap.size) := hid (Nat.le_trans HGG.out (Nat.le_of_lt (box_lt k8)))
        have HK8 : Hid (∀ X, Below X0.heap.size X0 X → X.cell? ⟨g, 0, none⟩ = some (.int .i64 n') ∧ X.cell? ⟨g, 1, none⟩ = some (.int .i64 s') ∧ X.cell? ⟨g, 2, none⟩ = some (.int .i64 v') ∧ X.cell? ⟨g, 3, none⟩ = some (.int .i64 b')) := hid (fun X hX => by
          have a1 := load4 ((hX.block _ (box_lt K8.out)).trans K8.out)
          simp only at a1
          exact a1)
        have HB := hid (Below.refl X0.heap.size X0)
        have hHeld := HK8.out X0 HB.out
        have HX0 := hid hX0
        clear hX0 k8 p0 p1 p2 p3
        refine region_tail 6 (fun X => X.cell? ⟨g, 0, none⟩ = some (.int .i64 n') ∧ X.cell? ⟨g, 1, none⟩ = some (.int .i64 s') ∧ X.cell? ⟨g, 2, none⟩ = some (.int .i64 v') ∧ X.cell? ⟨g, 3, none⟩ = some (.int .i64 b')) (by kernel_rfl) ?_
        rw [HX0.out]
        refine' wpAnyT_take (i := 0) (oi := ?oiy0) (v := ?vy0) ?hiy0 (by kernel_rfl) (by kernel_rfl) ?hqy0 ?hyy0 hHeld ?resty0
        case hiy0 => (simp only [List.getElem?_toArray, List.getElem?_cons_zero]; rfl)
        case hqy0 => exact fun _ _ _ h => h
        case hyy0 => (refine Or.inl ⟨by rfl, ?_⟩; intro w' hSw; (try dsimp only at hSw); go_simp; try with_reducible rfl)
        (try simp only [Act.put, List.setIfInBounds_toArray, List.set_cons_zero, List.set_cons_succ])
        refine' wpAnyT_take (i := 2) (oi := ?oiy2) (v := ?vy2) ?hiy2 (by kernel_rfl) (by kernel_rfl) ?hqy2 ?hyy2 hHeld ?resty2
        case hiy2 => (simp only [List.getElem?_toArray, List.getElem?_cons_zero, List.getElem?_cons_succ]; rfl)
        case hqy2 => exact fun _ _ _ h => h
        case hyy2 => (refine Or.inl ⟨by rfl, ?_⟩; intro w' hSw; (try dsimp only at hSw); go_simp; try with_reducible rfl)
        (try simp only [Act.put, List.setIfInBounds_toArray, List.set_cons_zero, List.set_cons_succ])
        refine' wpAnyT_one (i := 1) (o := ?oiy1) (by kernel_rfl) ?hiy1 (fun K hK => ?sty1)
        case hiy1 => (simp only [List.getElem?_toArray, List.getElem?_cons_zero, List.getElem?_cons_succ]; rfl)
        go_simp
        go_at_call 17
        (with_reducible refine (HT.out _).mono ?_)
        rintro _ X1 ⟨rfl, hb⟩
        have HB := hid (HB.out.trans (hb.mono HB.out.size))
        have hHeld := HK8.out X1 HB.out
        clear hb
        refine hK.out _ _ (fun _ => hHeld) ?_
        clear hK K
        (try simp only [Act.put, List.setIfInBounds_toArray, List.set_cons_zero, List.set_cons_succ])
        refine' wpAnyT_one (i := 3) (o := ?oiy3) (by kernel_rfl) ?hiy3 (fun K hK => ?sty3)
        case hiy3 => (simp only [List.getElem?_toArray, List.getElem?_cons_zero, List.getElem?_cons_succ]; rfl)
        go_simp
        go_at_call 21
        (with_reducible refine (HX.out _).mono ?_)
        rintro _ X2 ⟨rfl, hb⟩
        have HB := hid (HB.out.trans (hb.mono HB.out.size))
        have hHeld := HK8.out X2 HB.out
        clear hb
        refine hK.out _ _ (fun _ => hHeld) ?_
        clear hK K
        (try simp only [Act.put, List.setIfInBounds_toArray, List.set_cons_zero, List.set_cons_succ])
        refine' wpAnyT_one (i := 4) (o := ?oiy4) (by kernel_rfl) ?hiy4 (fun K hK => ?sty4)
        case hiy4 => (simp only [List.getElem?_toArray, List.getElem?_cons_zero, List.getElem?_cons_succ]; rfl)
        go_simp
        go_at_call 17
        (with_reducible refine (HU.out _).mono ?_)
        rintro _ X3 ⟨rfl, hb⟩
        have HB := hid (HB.out.trans (hb.mono HB.out.size))
        have hHeld := HK8.out X3 HB.out
        clear hb
        refine hK.out _ _ (fun _ => hHeld) ?_
        clear hK K
        (try simp only [Act.put, List.setIfInBounds_toArray, List.set_cons_zero, List.set_cons_succ])
        refine' wpAnyT_one (i := 5) (o := ?oiy5) (by kernel_rfl) ?hiy5 (fun K hK => ?sty5)
        case hiy5 => (simp only [List.getElem?_toArray, List.getElem?_cons_zero, List.getElem?_cons_succ]; rfl)
        go_simp
        refine hK.out _ _ (fun _ => hHeld) ?_
        clear hK K
        (try simp only [Act.put, List.setIfInBounds_toArray, List.set_cons_zero, List.set_cons_succ])
        refine' wpAnyT_one (i := 6) (o := ?oiy6) (by kernel_rfl) ?hiy6 (fun K hK => ?sty6)
        case hiy6 => (simp only [List.getElem?_toArray, List.getElem?_cons_zero, List.getElem?_cons_succ]; rfl)
        go_simp
        refine hK.out _ _ (fun h => absurd h (by decide)) ?_
        clear hK K
        (try simp only [Act.put, List.setIfInBounds_toArray, List.set_cons_zero, List.set_cons_succ])
        refine wpAnyT_done (by kernel_rfl) ?_ _
        go_upto_region 14 with fail
        obtain ⟨p0, p1, p2, p3⟩ := hHeld
        have HK := hid ((HB.out.block _ (box_lt K8.out)).trans K8.out)
        have HB := hid (HB8.out.trans (HB.out.mono HS0.out))
        by_cases b12 : b' < 12
        · have d3 : decide (b' < 12) = true := decide_eq_true b12
          by_cases t2 : 2 * T ≤ 65536
          · have d4 : decide (2 * T ≤ 65536) = true := decide_eq_true t2
            have d5 : (U != 2 * T) = false := by rw [HE5.out b12 t2]; simp
            by_cases tu : T < U
            · have d6 : decide (T < U) = true := decide_eq_true tu
              have d7 : decide (65536 < U) = false := decide_eq_false (fun h => HE6.out ⟨tu, h⟩)
              clear b12 t2 tu
              go_wp2_with (go_at_call 19; (with_reducible refine (HM.out _).mono ?_); rintro _ w7 ⟨rfl, hb⟩; have hk7 := (hb.block _ (box_lt HK.out)).trans HK.out; have HB := hid (HB.out.trans (hb.mono (Nat.le_trans HGG.out (Nat.le_of_lt (box_lt HK.out))))); have HK := hid hk7; obtain ⟨p0, p1, p2, p3⟩ := load4 hk7; simp only at p0 p1 p2 p3; clear hb hk7)
              go_roundw
              case rel => exact ⟨k + 1, _, by omega, by go_num, HOK, HK, HB⟩
              case measure => simp [RowKit.intOf]; omega
            · have d6 : decide (T < U) = false := decide_eq_false tu
              clear b12 t2 tu
              go_wp2_with (go_at_call 19; (with_reducible refine (HM.out _).mono ?_); rintro _ w7 ⟨rfl, hb⟩; have hk7 := (hb.block _ (box_lt HK.out)).trans HK.out; have HB := hid (HB.out.trans (hb.mono (Nat.le_trans HGG.out (Nat.le_of_lt (box_lt HK.out))))); have HK := hid hk7; obtain ⟨p0, p1, p2, p3⟩ := load4 hk7; simp only at p0 p1 p2 p3; clear hb hk7)
              go_roundw
              case rel => exact ⟨k + 1, _, by omega, by go_num, HOK, HK, HB⟩
              case measure => simp [RowKit.intOf]; omega
          · have d4 : decide (2 * T ≤ 65536) = false := decide_eq_false t2
            by_cases tu : T < U
            · have d6 : decide (T < U) = true := decide_eq_true tu
              have d7 : decide (65536 < U) = false := decide_eq_false (fun h => HE6.out ⟨tu, h⟩)
              clear b12 t2 tu
              go_wp2_with (go_at_call 19; (with_reducible refine (HM.out _).mono ?_); rintro _ w7 ⟨rfl, hb⟩; have hk7 := (hb.block _ (box_lt HK.out)).trans HK.out; have HB := hid (HB.out.trans (hb.mono (Nat.le_trans HGG.out (Nat.le_of_lt (box_lt HK.out))))); have HK := hid hk7; obtain ⟨p0, p1, p2, p3⟩ := load4 hk7; simp only at p0 p1 p2 p3; clear hb hk7)
              go_roundw
              case rel => exact ⟨k + 1, _, by omega, by go_num, HOK, HK, HB⟩
              case measure => simp [RowKit.intOf]; omega
            · have d6 : decide (T < U) = false := decide_eq_false tu
              clear b12 t2 tu
              go_wp2_with (go_at_call 19; (with_reducible refine (HM.out _).mono ?_); rintro _ w7 ⟨rfl, hb⟩; have hk7 := (hb.block _ (box_lt HK.out)).trans HK.out; have HB := hid (HB.out.trans (hb.mono (Nat.le_trans HGG.out (Nat.le_of_lt (box_lt HK.out))))); have HK := hid hk7; obtain ⟨p0, p1, p2, p3⟩ := load4 hk7; simp only at p0 p1 p2 p3; clear hb hk7)
              go_roundw
              case rel => exact ⟨k + 1, _, by omega, by go_num, HOK, HK, HB⟩
              case measure => simp [RowKit.intOf]; omega
        · have d3 : decide (b' < 12) = false := decide_eq_false b12
          by_cases tu : T < U
          · have d6 : decide (T < U) = true := decide_eq_true tu
            have d7 : decide (65536 < U) = false := decide_eq_false (fun h => HE6.out ⟨tu, h⟩)
            clear b12 tu
            go_wp2_with (go_at_call 19; (with_reducible refine (HM.out _).mono ?_); rintro _ w7 ⟨rfl, hb⟩; have hk7 := (hb.block _ (box_lt HK.out)).trans HK.out; have HB := hid (HB.out.trans (hb.mono (Nat.le_trans HGG.out (Nat.le_of_lt (box_lt HK.out))))); have HK := hid hk7; obtain ⟨p0, p1, p2, p3⟩ := load4 hk7; simp only at p0 p1 p2 p3; clear hb hk7)
            go_roundw
            case rel => exact ⟨k + 1, _, by omega, by go_num, HOK, HK, HB⟩
            case measure => simp [RowKit.intOf]; omega
          · have d6 : decide (T < U) = false := decide_eq_false tu
            clear b12 tu
            go_wp2_with (go_at_call 19; (with_reducible refine (HM.out _).mono ?_); rintro _ w7 ⟨rfl, hb⟩; have hk7 := (hb.block _ (box_lt HK.out)).trans HK.out; have HB := hid (HB.out.trans (hb.mono (Nat.le_trans HGG.out (Nat.le_of_lt (box_lt HK.out))))); have HK := hid hk7; obtain ⟨p0, p1, p2, p3⟩ := load4 hk7; simp only at p0 p1 p2 p3; clear hb hk7)
            go_roundw
            case rel => exact ⟨k + 1, _, by omega, by go_num, HOK, HK, HB⟩
            case measure => simp [RowKit.intOf]; omega
    · obtain rfl : k = N := by omega
      have hlt' : decide ((k : Int) < (k : Int)) = false := decide_eq_false (by omega)
      go_wp2_with (go_at_call 12; (with_reducible refine (awake_any _).mono ?_); rintro _ w7 ⟨rfl, hb⟩; have HB0 := hid (HB0.out.trans (hb.mono (Nat.le_trans HGG.out (Nat.le_of_lt (box_lt HK0.out))))); clear hb)
      go_ret
      exact ⟨rfl, by rw [HG0.out]; exact HB0.out⟩
end Go.Proofs.Ytlbcidgmdfcamaa
