/- The law EstimatorForgets walked. -/
import Derived.Test.YtlbcidgmdfcamaaO
namespace Go.Proofs.Ytlbcidgmdfcamaa
open Go.RowKit Go.Lib
theorem cutE8 {G : World → Nat → Prop} {R : Prop} (F : World → Nat → Prop) (main : (∀ X p, F X p → G X p) → R) (cont : ∀ X p, F X p → G X p) : R := main cont
set_option maxHeartbeats 16000000 in
set_option maxRecDepth 100000 in
theorem forgets_walk (v : Value) (l : List Sq) (tm : Int) (w : World) (hv : Sqs w v l) (htm : 0 ≤ tm ∧ tm ≤ 65535) : Calls Try.prog 8 #[v, .int .u16 tm] w (TrueQ w) := by
  obtain ⟨A, c, rfl, hlm⟩ := sqs_form hv
  obtain ⟨N, hN⟩ : ∃ N, l.length = N := ⟨_, rfl⟩
  obtain ⟨g0, hg0⟩ : ∃ g, w.heap.size = g := ⟨_, rfl⟩
  have HG0 := hid hg0
  have HV : Hid (∀ X, Below g0 w X → Sqs X (.slice A N c) l) := hid (fun X hX => by rw [← hN]; rw [← hg0] at hX; exact hv.below hX)
  have HLN := hid hN
  rw [hN] at hlm ⊢
  clear hv hN hg0
  by_cases big : 100 < N
  · have d0 : decide (100 < N) = true := decide_eq_true big
    have d1 : decide ((100 : Int) < (N : Int)) = true := decide_eq_true (by omega)
    go_enter Try.func8, Try.ntmps8
    go_wp2_with (go_at_call 12; (with_reducible refine (awake_any _).mono ?_); rintro _ w8 ⟨rfl, hb⟩; have HB := hid hb; clear hb)
    go_ret
    exact ⟨rfl, HB.out⟩
  have d0 : decide (100 < N) = false := decide_eq_false big
  have d1 : decide ((100 : Int) < (N : Int)) = false := decide_eq_false (by omega)
  go_enter Try.func8, Try.ntmps8
  go_upto_region 4 with (first | (have HC := HLE0.out; go_at_call 15; (with_reducible refine (aw0 _).mono ?_); rintro _ w1 ⟨rfl, hb⟩; have HB1 := hid (HB0.out.trans (hb.mono HLE0.out)); have HLE1 := hid (show g0 ≤ w1.heap.size by have := HB1.out.size; have := HG0.out; omega); clear hb HC) | (go_at_call 15; (with_reducible refine (aw0 _).mono ?_); rintro _ w0 ⟨rfl, hb⟩; have HB0 := hid (show Below g0 w w0 by rw [← HG0.out]; exact hb); have HLE0 := hid (show g0 ≤ w0.heap.size by rw [← HG0.out]; exact hb.size); clear hb))
  obtain ⟨g, hg⟩ : ∃ h, w1.heap.size = h := ⟨_, rfl⟩
  obtain ⟨W2, hW2⟩ : ∃ X, (w1.alloc (.cells (cE z4) 23)).alloc (.cells (cE z4) 23) = X := ⟨_, rfl⟩
  have K0 : Hid (W2.heap[g]? = some (.cells (cE z4) 23)) := hid (by rw [← hW2, ← hg]; exact old_alloc (heap_alloc_new _ _) _)
  have K1 : Hid (W2.heap[g + 1]? = some (.cells (cE z4) 23)) := hid (by rw [← hW2, ← hg]; exact new_two _ _ _)
  have HGG : Hid (g0 ≤ g) := hid (by rw [← hg]; exact HLE1.out)
  have HB2 : Hid (Below g0 w W2) := hid (by rw [← hW2]; exact (HB1.out.alloc HLE1.out _).alloc (by rw [World.size_alloc]; have := HLE1.out; omega) _)
  have HG := hid hg
  have HW2 := hid hW2
  simp only [cE, z4] at HW2
  clear hg hW2
  rw [HG.out, HW2.out]
  go_upto_region 5 with fail
  go_loopw [7] (fun iv wr => ∃ (k : Nat) (E F : Est), k ≤ N ∧ iv = .int .i64 (k : Int) ∧ Hid (Same E F) ∧ Hid (wr.heap[g]? = some (.cells (cE E) 23)) ∧ Hid (wr.heap[g + 1]? = some (.cells (cE F) 23)) ∧ Hid (Below g0 w wr)) (fun iv _ => N - (RowKit.intOf iv).toNat)
  case atStart => exact ⟨0, z4, z4, by omega, rfl, hid same_z4, K0, K1, HB2⟩
  case round =>
    obtain ⟨k, E, F, hk, rfl, HOK0, HK0, HF0, HB0⟩ := hrel
    have HLW : Hid (g0 ≤ wr.heap.size) := hid (Nat.le_trans HGG.out (Nat.le_of_lt (box_lt HK0.out)))
    by_cases hlt : k < N
    · have hlt' : decide ((k : Int) < (N : Int)) = true := decide_eq_true (by omega)
      obtain ⟨⟨eb, tt⟩, hx⟩ : ∃ x, l[k]? = some x := ⟨l[k]'(by rw [HLN.out]; exact hlt), List.getElem?_eq_getElem _⟩
      obtain ⟨b, off, rfl, hbl, htt, hc0, hc1⟩ := sqs_at (HV.out wr HB0.out) hx
      simp only at htt hc0 hc1
      obtain ⟨n, s, v, bb⟩ := E
      obtain ⟨kn, ks, kv, kb⟩ := F
      obtain ⟨x0, x1, x2, x3⟩ := load4 HK0.out
      simp only at x0 x1 x2 x3
      have fr := box_fr HK0.out
      clear hx
      cases eb
      · have hwt : wrap64 (tt : Int) = (tt : Int) := w64 (by omega) (by omega)
        obtain ⟨t, hT⟩ : ∃ t : Int, (tt : Int) = t := ⟨_, rfl⟩
        have ht0 : 0 ≤ t ∧ t ≤ 65535 := by omega
        rw [hT] at hwt hc1
        have hwt' : IntKind.i64.wrap t = t := by rw [IntKind.wrap_i64]; omega
        have hsm := smp_ok5 HOK0.out.1 ht0.1 ht0.2
        have hsm2 := smp_ok5 HOK0.out.2.1 ht0.1 ht0.2
        have hsn := same_nxt HOK0.out ht0.1 ht0.2
        rw [← same_eq HOK0.out] at hsm2 hsn
        obtain ⟨⟨n', s', v', b'⟩, hE'⟩ : ∃ E, nxt ⟨n, s, v, bb⟩ t = E := ⟨_, rfl⟩
        rw [hE'] at hsm hsm2 hsn
        have HS := hid (fun W => sample_n hsm W)
        have HS2 := hid (fun W => sample_n hsm2 W)
        have HOK := hid hsn
        have HBL := hid hbl
        have HC1 := hid hc1
        simp only [ev] at HS HS2
        have HK : Hid (∀ X, Below wr.heap.size wr X → X.cell? ⟨g, 0, none⟩ = some (.int .i64 n) ∧ X.cell? ⟨g, 1, none⟩ = some (.int .i64 s) ∧ X.cell? ⟨g, 2, none⟩ = some (.int .i64 v) ∧ X.cell? ⟨g, 3, none⟩ = some (.int .i64 bb) ∧ X.cell? ⟨b, off + k * 2 + 1, none⟩ = some (.int .u16 t)) := hid (fun X hX => by
          have a1 := load4 ((hX.block _ (box_lt HK0.out)).trans HK0.out)
          simp only at a1
          exact ⟨a1.1, a1.2.1, a1.2.2.1, a1.2.2.2, (hX.cell (p := ⟨b, _, none⟩) HBL.out).trans HC1.out⟩)
        clear hsm hsm2 hsn hE' ht0 hT hbl htt hc1
        go_upto_region 9 with fail
        have hin' : (k : Int) < (N : Int) := by omega
        clear x0 x1 x2 x3 hc0 fr
        apply cutE8 (fun X px => Below wr.heap.size wr X ∧ wr.heap.size ≤ px ∧ X.heap[px]? = some (.cells (cE ⟨n', s', v', b'⟩) 23))
        · intro HC
          have HC := hid HC
          refine region_tail 13 (fun X => X.cell? ⟨g, 0, none⟩ = some (.int .i64 n) ∧ X.cell? ⟨g, 1, none⟩ = some (.int .i64 s) ∧ X.cell? ⟨g, 2, none⟩ = some (.int .i64 v) ∧ X.cell? ⟨g, 3, none⟩ = some (.int .i64 bb) ∧ X.cell? ⟨b, off + k * 2 + 1, none⟩ = some (.int .u16 t)) (by kernel_rfl) ?_
          obtain ⟨X0, hX0⟩ : ∃ X, wr.drew = X := ⟨_, rfl⟩
          have hB0 : Below wr.heap.size wr X0 := by rw [← hX0]; exact (Below.refl wr.heap.size wr).drew
          have hHeld := HK.out X0 hB0
          rw [hX0]
          clear hX0
          refine' wpAnyT_take (i := 0) (oi := ?oiq1) (v := ?vq1) ?hiq1 (by kernel_rfl) (by kernel_rfl) ?hqq1 ?hyq1 hHeld ?restq1
          case hiq1 => (simp only [List.getElem?_toArray, List.getElem?_cons_zero]; rfl)
          case hqq1 => exact fun _ _ _ h => h
          case hyq1 => (refine Or.inl ⟨by rfl, ?_⟩; intro w' hSw; (try dsimp only at hSw); go_simp; try with_reducible rfl)
          (try simp only [Act.put, List.setIfInBounds_toArray, List.set_cons_zero, List.set_cons_succ])
          refine' wpAnyT_take (i := 1) (oi := ?oiq2) (v := ?vq2) ?hiq2 (by kernel_rfl) (by kernel_rfl) ?hqq2 ?hyq2 hHeld ?restq2
          case hiq2 => (simp only [List.getElem?_toArray, List.getElem?_cons_zero, List.getElem?_cons_succ]; rfl)
          case hqq2 => exact fun _ _ _ h => h
          case hyq2 => (refine Or.inl ⟨by rfl, ?_⟩; intro w' hSw; (try dsimp only at hSw); go_simp; try with_reducible rfl)
          (try simp only [Act.put, List.setIfInBounds_toArray, List.set_cons_zero, List.set_cons_succ])
          refine' wpAnyT_take (i := 2) (oi := ?oiq3) (v := ?vq3) ?hiq3 (by kernel_rfl) (by kernel_rfl) ?hqq3 ?hyq3 hHeld ?restq3
          case hiq3 => (simp only [List.getElem?_toArray, List.getElem?_cons_zero, List.getElem?_cons_succ]; rfl)
          case hqq3 => exact fun _ _ _ h => h
          case hyq3 => (refine Or.inl ⟨by rfl, ?_⟩; intro w' hSw; (try dsimp only at hSw); go_simp; try with_reducible rfl)
          (try simp only [Act.put, List.setIfInBounds_toArray, List.set_cons_zero, List.set_cons_succ])
          refine' wpAnyT_take (i := 3) (oi := ?oiq4) (v := ?vq4) ?hiq4 (by kernel_rfl) (by kernel_rfl) ?hqq4 ?hyq4 hHeld ?restq4
          case hiq4 => (simp only [List.getElem?_toArray, List.getElem?_cons_zero, List.getElem?_cons_succ]; rfl)
          case hqq4 => exact fun _ _ _ h => h
          case hyq4 => (refine Or.inl ⟨by rfl, ?_⟩; intro w' hSw; (try dsimp only at hSw); go_simp; try with_reducible rfl)
          (try simp only [Act.put, List.setIfInBounds_toArray, List.set_cons_zero, List.set_cons_succ])
          refine' wpAnyT_take (i := 4) (oi := ?oiq5) (v := ?vq5) ?hiq5 (by kernel_rfl) (by kernel_rfl) ?hqq5 ?hyq5 hHeld ?restq5
          case hiq5 => (simp only [List.getElem?_toArray, List.getElem?_cons_zero, List.getElem?_cons_succ]; rfl)
          case hqq5 => exact fun _ _ _ h => h
          case hyq5 => (refine Or.inl ⟨by rfl, ?_⟩; intro w' hSw; (try dsimp only at hSw); go_simp; try with_reducible rfl)
          (try simp only [Act.put, List.setIfInBounds_toArray, List.set_cons_zero, List.set_cons_succ])
          refine' wpAnyT_take (i := 5) (oi := ?oiq6) (v := ?vq6) ?hiq6 (by kernel_rfl) (by kernel_rfl) ?hqq6 ?hyq6 hHeld ?restq6
          case hiq6 => (simp only [List.getElem?_toArray, List.getElem?_cons_zero, List.getElem?_cons_succ]; rfl)
          case hqq6 => exact fun _ _ _ h => h
          case hyq6 => (refine Or.inl ⟨by rfl, ?_⟩; intro w' hSw; (try dsimp only at hSw); go_simp; try with_reducible rfl)
          (try simp only [Act.put, List.setIfInBounds_toArray, List.set_cons_zero, List.set_cons_succ])
          refine' wpAnyT_take (i := 6) (oi := ?oiq7) (v := ?vq7) ?hiq7 (by kernel_rfl) (by kernel_rfl) ?hqq7 ?hyq7 hHeld ?restq7
          case hiq7 => (simp only [List.getElem?_toArray, List.getElem?_cons_zero, List.getElem?_cons_succ]; rfl)
          case hqq7 => exact fun _ _ _ h => h
          case hyq7 => (refine Or.inl ⟨by rfl, ?_⟩; intro w' hSw; (try dsimp only at hSw); go_simp; try with_reducible rfl)
          (try simp only [Act.put, List.setIfInBounds_toArray, List.set_cons_zero, List.set_cons_succ])
          refine wpAnyT_all (l := [7, 11]) (by kernel_rfl) (by decide) ?_
          intro i hi
          simp only [List.mem_cons, List.not_mem_nil, or_false] at hi
          rcases hi with rfl | rfl
          · refine ⟨_, by (simp only [List.getElem?_toArray, List.getElem?_cons_zero, List.getElem?_cons_succ]; rfl), fun K hK => ?_⟩
            go_simp
            go_at_call 10
            (with_reducible refine (HS.out X0).mono ?_)
            rintro e Yq43 ⟨rfl, hbb43⟩
            clear hHeld
            have hHeld := HK.out Yq43 (below_both hB0 hbb43)
            refine hK.out _ _ (fun _ => hHeld) ?_
            clear hK K
            (try simp only [Act.put, List.setIfInBounds_toArray, List.set_cons_zero, List.set_cons_succ])
            refine' wpAnyT_take (i := 8) (oi := ?oiq8) (v := ?vq8) ?hiq8 (by kernel_rfl) (by kernel_rfl) ?hqq8 ?hyq8 hHeld ?restq8
            case hiq8 => (simp only [List.getElem?_toArray, List.getElem?_cons_zero, List.getElem?_cons_succ]; rfl)
            case hqq8 => exact fun _ _ _ h => h
            case hyq8 => (refine Or.inl ⟨by rfl, ?_⟩; intro w' hSw; (try dsimp only at hSw); go_simp; try with_reducible rfl)
            (try simp only [Act.put, List.setIfInBounds_toArray, List.set_cons_zero, List.set_cons_succ])
            refine' wpAnyT_take (i := 9) (oi := ?oiq9) (v := ?vq9) ?hiq9 (by kernel_rfl) (by kernel_rfl) ?hqq9 ?hyq9 hHeld ?restq9
            case hiq9 => (simp only [List.getElem?_toArray, List.getElem?_cons_zero, List.getElem?_cons_succ]; rfl)
            case hqq9 => exact fun _ _ _ h => h
            case hyq9 => (refine Or.inl ⟨by rfl, ?_⟩; intro w' hSw; (try dsimp only at hSw); go_simp; try with_reducible rfl)
            (try simp only [Act.put, List.setIfInBounds_toArray, List.set_cons_zero, List.set_cons_succ])
            refine' wpAnyT_take (i := 10) (oi := ?oiq10) (v := ?vq10) ?hiq10 (by kernel_rfl) (by kernel_rfl) ?hqq10 ?hyq10 hHeld ?restq10
            case hiq10 => (simp only [List.getElem?_toArray, List.getElem?_cons_zero, List.getElem?_cons_succ]; rfl)
            case hqq10 => exact fun _ _ _ h => h
            case hyq10 => (refine Or.inl ⟨by rfl, ?_⟩; intro w' hSw; (try dsimp only at hSw); go_simp; try with_reducible rfl)
            (try simp only [Act.put, List.setIfInBounds_toArray, List.set_cons_zero, List.set_cons_succ])
            refine' wpAnyT_one (i := 11) (o := ?oiq11) (by kernel_rfl) ?hiq11 (fun K hK => ?stq11)
            case hiq11 => (simp only [List.getElem?_toArray, List.getElem?_cons_zero, List.getElem?_cons_succ]; rfl)
            go_simp
            obtain ⟨Yq8, hY⟩ : ∃ X, Yq43.alloc (.cells #[.int .i64 0, .int .i64 0, .int .i64 0, .int .i64 0] 23) = X := ⟨_, rfl⟩
            obtain ⟨px, hh⟩ : ∃ h, Yq43.heap.size = h := ⟨_, rfl⟩
            have hbb8 : Below Yq43.heap.size Yq43 Yq8 := by rw [← hY]; exact al1 _ _
            have HZpx : Hid (Yq8.heap[px]? = some (.cells #[.int .i64 0, .int .i64 0, .int .i64 0, .int .i64 0] 23)) := hid (by rw [← hY, ← hh]; exact heap_alloc_new _ _)
            have HPW : Hid (wr.heap.size ≤ px) := hid (by rw [← hh]; exact (below_both hB0 hbb43).size)
            rw [hY, hh]
            clear hY hh
            clear hHeld
            have hHeld := HK.out Yq8 (below_both hB0 (below_both hbb43 hbb8))
            refine hK.out _ _ (fun _ => hHeld) ?_
            clear hK K
            (try simp only [Act.put, List.setIfInBounds_toArray, List.set_cons_zero, List.set_cons_succ])
            refine' wpAnyT_one (i := 12) (o := ?oiq12) (by kernel_rfl) ?hiq12 (fun K hK => ?stq12)
            case hiq12 => (simp only [List.getElem?_toArray, List.getElem?_cons_zero, List.getElem?_cons_succ]; rfl)
            have hp15 : Yq8.heap[px]? = some (.cells (cE z4) 23) := (((Below.refl _ _).block _ (box_lt HZpx.out)).trans HZpx.out)
            obtain ⟨q0, q1, q2, q3⟩ := load4 hp15
            simp only [z4] at q0 q1 q2 q3
            have fp0 := box_fr hp15 0
            have fp1 := box_fr hp15 1
            have fp2 := box_fr hp15 2
            have fp3 := box_fr hp15 3
            go_simp
            obtain ⟨YqN12, hY⟩ : ∃ X, set4 Yq8 px ⟨n', s', v', b'⟩ = X := ⟨_, rfl⟩
            have HP15 : Hid (YqN12.heap[px]? = some (.cells (cE ⟨n', s', v', b'⟩) 23)) := hid (by rw [← hY]; exact set4h ⟨n', s', v', b'⟩ hp15)
            have hbbnone12 : Below wr.heap.size wr YqN12 := by rw [← hY]; exact set4b ⟨n', s', v', b'⟩ (below_both hB0 (below_both hbb43 hbb8)) HPW.out
            simp only [set4] at hY
            rw [hY]
            clear hY hp15 q0 q1 q2 q3 fp0 fp1 fp2 fp3
            clear hHeld
            have hHeld := HK.out YqN12 hbbnone12
            refine hK.out _ _ (fun _ => hHeld) ?_
            clear hK K
            refine' wpAnyT_one (i := 13) (o := ?oiq13) (by kernel_rfl) ?hiq13 (fun K hK => ?stq13)
            case hiq13 => (simp only [List.getElem?_toArray, List.getElem?_cons_zero, List.getElem?_cons_succ]; rfl)
            go_simp
            refine hK.out _ _ (fun h => absurd h (by decide)) ?_
            clear hK K
            (try simp only [Act.put, List.setIfInBounds_toArray, List.set_cons_zero, List.set_cons_succ])
            refine wpAnyT_done (by kernel_rfl) ?_ _
            exact HC.out YqN12 px ⟨hbbnone12, HPW.out, HP15.out⟩
          · refine ⟨_, by (simp only [List.getElem?_toArray, List.getElem?_cons_zero, List.getElem?_cons_succ]; rfl), fun K hK => ?_⟩
            go_simp
            obtain ⟨Yq8, hY⟩ : ∃ X, X0.alloc (.cells #[.int .i64 0, .int .i64 0, .int .i64 0, .int .i64 0] 23) = X := ⟨_, rfl⟩
            obtain ⟨px, hh⟩ : ∃ h, X0.heap.size = h := ⟨_, rfl⟩
            have hbb8 : Below X0.heap.size X0 Yq8 := by rw [← hY]; exact al1 _ _
            have HZpx : Hid (Yq8.heap[px]? = some (.cells #[.int .i64 0, .int .i64 0, .int .i64 0, .int .i64 0] 23)) := hid (by rw [← hY, ← hh]; exact heap_alloc_new _ _)
            have HPW : Hid (wr.heap.size ≤ px) := hid (by rw [← hh]; exact hB0.size)
            rw [hY, hh]
            clear hY hh
            clear hHeld
            have hHeld := HK.out Yq8 (below_both hB0 hbb8)
            refine hK.out _ _ (fun _ => hHeld) ?_
            clear hK K
            (try simp only [Act.put, List.setIfInBounds_toArray, List.set_cons_zero, List.set_cons_succ])
            refine' wpAnyT_one (i := 7) (o := ?oiq14) (by kernel_rfl) ?hiq14 (fun K hK => ?stq14)
            case hiq14 => (simp only [List.getElem?_toArray, List.getElem?_cons_zero, List.getElem?_cons_succ]; rfl)
            go_simp
            go_at_call 10
            (with_reducible refine (HS.out Yq8).mono ?_)
            rintro e Yq43 ⟨rfl, hbb43⟩
            clear hHeld
            have hHeld := HK.out Yq43 (below_both hB0 (below_both hbb8 hbb43))
            refine hK.out _ _ (fun _ => hHeld) ?_
            clear hK K
            (try simp only [Act.put, List.setIfInBounds_toArray, List.set_cons_zero, List.set_cons_succ])
            refine' wpAnyT_take (i := 8) (oi := ?oiq15) (v := ?vq15) ?hiq15 (by kernel_rfl) (by kernel_rfl) ?hqq15 ?hyq15 hHeld ?restq15
            case hiq15 => (simp only [List.getElem?_toArray, List.getElem?_cons_zero, List.getElem?_cons_succ]; rfl)
            case hqq15 => exact fun _ _ _ h => h
            case hyq15 => (refine Or.inl ⟨by rfl, ?_⟩; intro w' hSw; (try dsimp only at hSw); go_simp; try with_reducible rfl)
            (try simp only [Act.put, List.setIfInBounds_toArray, List.set_cons_zero, List.set_cons_succ])
            refine' wpAnyT_take (i := 9) (oi := ?oiq16) (v := ?vq16) ?hiq16 (by kernel_rfl) (by kernel_rfl) ?hqq16 ?hyq16 hHeld ?restq16
            case hiq16 => (simp only [List.getElem?_toArray, List.getElem?_cons_zero, List.getElem?_cons_succ]; rfl)
            case hqq16 => exact fun _ _ _ h => h
            case hyq16 => (refine Or.inl ⟨by rfl, ?_⟩; intro w' hSw; (try dsimp only at hSw); go_simp; try with_reducible rfl)
            (try simp only [Act.put, List.setIfInBounds_toArray, List.set_cons_zero, List.set_cons_succ])
            refine' wpAnyT_take (i := 10) (oi := ?oiq17) (v := ?vq17) ?hiq17 (by kernel_rfl) (by kernel_rfl) ?hqq17 ?hyq17 hHeld ?restq17
            case hiq17 => (simp only [List.getElem?_toArray, List.getElem?_cons_zero, List.getElem?_cons_succ]; rfl)
            case hqq17 => exact fun _ _ _ h => h
            case hyq17 => (refine Or.inl ⟨by rfl, ?_⟩; intro w' hSw; (try dsimp only at hSw); go_simp; try with_reducible rfl)
            (try simp only [Act.put, List.setIfInBounds_toArray, List.set_cons_zero, List.set_cons_succ])
            refine' wpAnyT_one (i := 12) (o := ?oiq18) (by kernel_rfl) ?hiq18 (fun K hK => ?stq18)
            case hiq18 => (simp only [List.getElem?_toArray, List.getElem?_cons_zero, List.getElem?_cons_succ]; rfl)
            have hp15 : Yq43.heap[px]? = some (.cells (cE z4) 23) := ((hbb43.block _ (box_lt HZpx.out)).trans HZpx.out)
            obtain ⟨q0, q1, q2, q3⟩ := load4 hp15
            simp only [z4] at q0 q1 q2 q3
            have fp0 := box_fr hp15 0
            have fp1 := box_fr hp15 1
            have fp2 := box_fr hp15 2
            have fp3 := box_fr hp15 3
            go_simp
            obtain ⟨YqN12, hY⟩ : ∃ X, set4 Yq43 px ⟨n', s', v', b'⟩ = X := ⟨_, rfl⟩
            have HP15 : Hid (YqN12.heap[px]? = some (.cells (cE ⟨n', s', v', b'⟩) 23)) := hid (by rw [← hY]; exact set4h ⟨n', s', v', b'⟩ hp15)
            have hbbnone12 : Below wr.heap.size wr YqN12 := by rw [← hY]; exact set4b ⟨n', s', v', b'⟩ (below_both hB0 (below_both hbb8 hbb43)) HPW.out
            simp only [set4] at hY
            rw [hY]
            clear hY hp15 q0 q1 q2 q3 fp0 fp1 fp2 fp3
            clear hHeld
            have hHeld := HK.out YqN12 hbbnone12
            refine hK.out _ _ (fun _ => hHeld) ?_
            clear hK K
            refine' wpAnyT_one (i := 13) (o := ?oiq19) (by kernel_rfl) ?hiq19 (fun K hK => ?stq19)
            case hiq19 => (simp only [List.getElem?_toArray, List.getElem?_cons_zero, List.getElem?_cons_succ]; rfl)
            go_simp
            refine hK.out _ _ (fun h => absurd h (by decide)) ?_
            clear hK K
            (try simp only [Act.put, List.setIfInBounds_toArray, List.set_cons_zero, List.set_cons_succ])
            refine wpAnyT_done (by kernel_rfl) ?_ _
            exact HC.out YqN12 px ⟨hbbnone12, HPW.out, HP15.out⟩
        intro V1 p1 ⟨hB, hpw, hpx⟩
        have HP1 := hid hpx
        have HPL1 := hid hpw
        have K5 : Hid (V1.heap[g]? = some (.cells (cE ⟨n, s, v, bb⟩) 23)) := hid ((hB.block _ (box_lt HK0.out)).trans HK0.out)
        have F5 : Hid (V1.heap[g + 1]? = some (.cells (cE ⟨kn, ks, kv, kb⟩) 23)) := hid ((hB.block _ (box_lt HF0.out)).trans HF0.out)
        have HB4 : Hid (Below g0 w V1) := hid (HB0.out.trans (hB.mono HLW.out))
        have HLV : Hid (g0 ≤ V1.heap.size) := hid (Nat.le_trans HLW.out hB.size)
        have HLX : Hid (wr.heap.size ≤ V1.heap.size) := hid hB.size
        have HK : Hid (∀ X, Below V1.heap.size V1 X → X.cell? ⟨g + 1, 0, none⟩ = some (.int .i64 kn) ∧ X.cell? ⟨g + 1, 1, none⟩ = some (.int .i64 ks) ∧ X.cell? ⟨g + 1, 2, none⟩ = some (.int .i64 kv) ∧ X.cell? ⟨g + 1, 3, none⟩ = some (.int .i64 kb) ∧ X.cell? ⟨b, off + k * 2 + 1, none⟩ = some (.int .u16 t)) := hid (fun X hX => by
          have a1 := load4 ((hX.block _ (box_lt F5.out)).trans F5.out)
          simp only at a1
          exact ⟨a1.1, a1.2.1, a1.2.2.1, a1.2.2.2, ((hX.mono HLX.out).cell (p := ⟨b, _, none⟩) HBL.out).trans ((hB.cell (p := ⟨b, _, none⟩) HBL.out).trans HC1.out)⟩)
        clear hB hpw hpx
        go_upto_region 10 with fail
        apply cutE8 (fun X px => Below V1.heap.size V1 X ∧ V1.heap.size ≤ px ∧ X.heap[px]? = some (.cells (cE ⟨n', s', v', b'⟩) 23))
        · intro HC
          have HC := hid HC
          refine region_tail 13 (fun X => X.cell? ⟨g + 1, 0, none⟩ = some (.int .i64 kn) ∧ X.cell? ⟨g + 1, 1, none⟩ = some (.int .i64 ks) ∧ X.cell? ⟨g + 1, 2, none⟩ = some (.int .i64 kv) ∧ X.cell? ⟨g + 1, 3, none⟩ = some (.int .i64 kb) ∧ X.cell? ⟨b, off + k * 2 + 1, none⟩ = some (.int .u16 t)) (by kernel_rfl) ?_
          obtain ⟨X0, hX0⟩ : ∃ X, V1.drew = X := ⟨_, rfl⟩
          have hB0 : Below V1.heap.size V1 X0 := by rw [← hX0]; exact (Below.refl V1.heap.size V1).drew
          have hHeld := HK.out X0 hB0
          rw [hX0]
          clear hX0
          refine' wpAnyT_take (i := 0) (oi := ?oir1) (v := ?vr1) ?hir1 (by kernel_rfl) (by kernel_rfl) ?hqr1 ?hyr1 hHeld ?restr1
          case hir1 => (simp only [List.getElem?_toArray, List.getElem?_cons_zero]; rfl)
          case hqr1 => exact fun _ _ _ h => h
          case hyr1 => (refine Or.inl ⟨by rfl, ?_⟩; intro w' hSw; (try dsimp only at hSw); go_simp; try with_reducible rfl)
          (try simp only [Act.put, List.setIfInBounds_toArray, List.set_cons_zero, List.set_cons_succ])
          refine' wpAnyT_take (i := 1) (oi := ?oir2) (v := ?vr2) ?hir2 (by kernel_rfl) (by kernel_rfl) ?hqr2 ?hyr2 hHeld ?restr2
          case hir2 => (simp only [List.getElem?_toArray, List.getElem?_cons_zero, List.getElem?_cons_succ]; rfl)
          case hqr2 => exact fun _ _ _ h => h
          case hyr2 => (refine Or.inl ⟨by rfl, ?_⟩; intro w' hSw; (try dsimp only at hSw); go_simp; try with_reducible rfl)
          (try simp only [Act.put, List.setIfInBounds_toArray, List.set_cons_zero, List.set_cons_succ])
          refine' wpAnyT_take (i := 2) (oi := ?oir3) (v := ?vr3) ?hir3 (by kernel_rfl) (by kernel_rfl) ?hqr3 ?hyr3 hHeld ?restr3
          case hir3 => (simp only [List.getElem?_toArray, List.getElem?_cons_zero, List.getElem?_cons_succ]; rfl)
          case hqr3 => exact fun _ _ _ h => h
          case hyr3 => (refine Or.inl ⟨by rfl, ?_⟩; intro w' hSw; (try dsimp only at hSw); go_simp; try with_reducible rfl)
          (try simp only [Act.put, List.setIfInBounds_toArray, List.set_cons_zero, List.set_cons_succ])
          refine' wpAnyT_take (i := 3) (oi := ?oir4) (v := ?vr4) ?hir4 (by kernel_rfl) (by kernel_rfl) ?hqr4 ?hyr4 hHeld ?restr4
          case hir4 => (simp only [List.getElem?_toArray, List.getElem?_cons_zero, List.getElem?_cons_succ]; rfl)
          case hqr4 => exact fun _ _ _ h => h
          case hyr4 => (refine Or.inl ⟨by rfl, ?_⟩; intro w' hSw; (try dsimp only at hSw); go_simp; try with_reducible rfl)
          (try simp only [Act.put, List.setIfInBounds_toArray, List.set_cons_zero, List.set_cons_succ])
          refine' wpAnyT_take (i := 4) (oi := ?oir5) (v := ?vr5) ?hir5 (by kernel_rfl) (by kernel_rfl) ?hqr5 ?hyr5 hHeld ?restr5
          case hir5 => (simp only [List.getElem?_toArray, List.getElem?_cons_zero, List.getElem?_cons_succ]; rfl)
          case hqr5 => exact fun _ _ _ h => h
          case hyr5 => (refine Or.inl ⟨by rfl, ?_⟩; intro w' hSw; (try dsimp only at hSw); go_simp; try with_reducible rfl)
          (try simp only [Act.put, List.setIfInBounds_toArray, List.set_cons_zero, List.set_cons_succ])
          refine' wpAnyT_take (i := 5) (oi := ?oir6) (v := ?vr6) ?hir6 (by kernel_rfl) (by kernel_rfl) ?hqr6 ?hyr6 hHeld ?restr6
          case hir6 => (simp only [List.getElem?_toArray, List.getElem?_cons_zero, List.getElem?_cons_succ]; rfl)
          case hqr6 => exact fun _ _ _ h => h
          case hyr6 => (refine Or.inl ⟨by rfl, ?_⟩; intro w' hSw; (try dsimp only at hSw); go_simp; try with_reducible rfl)
          (try simp only [Act.put, List.setIfInBounds_toArray, List.set_cons_zero, List.set_cons_succ])
          refine' wpAnyT_take (i := 6) (oi := ?oir7) (v := ?vr7) ?hir7 (by kernel_rfl) (by kernel_rfl) ?hqr7 ?hyr7 hHeld ?restr7
          case hir7 => (simp only [List.getElem?_toArray, List.getElem?_cons_zero, List.getElem?_cons_succ]; rfl)
          case hqr7 => exact fun _ _ _ h => h
          case hyr7 => (refine Or.inl ⟨by rfl, ?_⟩; intro w' hSw; (try dsimp only at hSw); go_simp; try with_reducible rfl)
          (try simp only [Act.put, List.setIfInBounds_toArray, List.set_cons_zero, List.set_cons_succ])
          refine wpAnyT_all (l := [7, 11]) (by kernel_rfl) (by decide) ?_
          intro i hi
          simp only [List.mem_cons, List.not_mem_nil, or_false] at hi
          rcases hi with rfl | rfl
          · refine ⟨_, by (simp only [List.getElem?_toArray, List.getElem?_cons_zero, List.getElem?_cons_succ]; rfl), fun K hK => ?_⟩
            go_simp
            go_at_call 10
            (with_reducible refine (HS2.out X0).mono ?_)
            rintro e Yr54 ⟨rfl, hbb54⟩
            clear hHeld
            have hHeld := HK.out Yr54 (below_both hB0 hbb54)
            refine hK.out _ _ (fun _ => hHeld) ?_
            clear hK K
            (try simp only [Act.put, List.setIfInBounds_toArray, List.set_cons_zero, List.set_cons_succ])
            refine' wpAnyT_take (i := 8) (oi := ?oir8) (v := ?vr8) ?hir8 (by kernel_rfl) (by kernel_rfl) ?hqr8 ?hyr8 hHeld ?restr8
            case hir8 => (simp only [List.getElem?_toArray, List.getElem?_cons_zero, List.getElem?_cons_succ]; rfl)
            case hqr8 => exact fun _ _ _ h => h
            case hyr8 => (refine Or.inl ⟨by rfl, ?_⟩; intro w' hSw; (try dsimp only at hSw); go_simp; try with_reducible rfl)
            (try simp only [Act.put, List.setIfInBounds_toArray, List.set_cons_zero, List.set_cons_succ])
            refine' wpAnyT_take (i := 9) (oi := ?oir9) (v := ?vr9) ?hir9 (by kernel_rfl) (by kernel_rfl) ?hqr9 ?hyr9 hHeld ?restr9
            case hir9 => (simp only [List.getElem?_toArray, List.getElem?_cons_zero, List.getElem?_cons_succ]; rfl)
            case hqr9 => exact fun _ _ _ h => h
            case hyr9 => (refine Or.inl ⟨by rfl, ?_⟩; intro w' hSw; (try dsimp only at hSw); go_simp; try with_reducible rfl)
            (try simp only [Act.put, List.setIfInBounds_toArray, List.set_cons_zero, List.set_cons_succ])
            refine' wpAnyT_take (i := 10) (oi := ?oir10) (v := ?vr10) ?hir10 (by kernel_rfl) (by kernel_rfl) ?hqr10 ?hyr10 hHeld ?restr10
            case hir10 => (simp only [List.getElem?_toArray, List.getElem?_cons_zero, List.getElem?_cons_succ]; rfl)
            case hqr10 => exact fun _ _ _ h => h
            case hyr10 => (refine Or.inl ⟨by rfl, ?_⟩; intro w' hSw; (try dsimp only at hSw); go_simp; try with_reducible rfl)
            (try simp only [Act.put, List.setIfInBounds_toArray, List.set_cons_zero, List.set_cons_succ])
            refine' wpAnyT_one (i := 11) (o := ?oir11) (by kernel_rfl) ?hir11 (fun K hK => ?str11)
            case hir11 => (simp only [List.getElem?_toArray, List.getElem?_cons_zero, List.getElem?_cons_succ]; rfl)
            go_simp
            obtain ⟨Yr10, hY⟩ : ∃ X, Yr54.alloc (.cells #[.int .i64 0, .int .i64 0, .int .i64 0, .int .i64 0] 23) = X := ⟨_, rfl⟩
            obtain ⟨px, hh⟩ : ∃ h, Yr54.heap.size = h := ⟨_, rfl⟩
            have hbb10 : Below Yr54.heap.size Yr54 Yr10 := by rw [← hY]; exact al1 _ _
            have HZpx : Hid (Yr10.heap[px]? = some (.cells #[.int .i64 0, .int .i64 0, .int .i64 0, .int .i64 0] 23)) := hid (by rw [← hY, ← hh]; exact heap_alloc_new _ _)
            have HPW : Hid (V1.heap.size ≤ px) := hid (by rw [← hh]; exact (below_both hB0 hbb54).size)
            rw [hY, hh]
            clear hY hh
            clear hHeld
            have hHeld := HK.out Yr10 (below_both hB0 (below_both hbb54 hbb10))
            refine hK.out _ _ (fun _ => hHeld) ?_
            clear hK K
            (try simp only [Act.put, List.setIfInBounds_toArray, List.set_cons_zero, List.set_cons_succ])
            refine' wpAnyT_one (i := 12) (o := ?oir12) (by kernel_rfl) ?hir12 (fun K hK => ?str12)
            case hir12 => (simp only [List.getElem?_toArray, List.getElem?_cons_zero, List.getElem?_cons_succ]; rfl)
            have hp15 : Yr10.heap[px]? = some (.cells (cE z4) 23) := (((Below.refl _ _).block _ (box_lt HZpx.out)).trans HZpx.out)
            obtain ⟨q0, q1, q2, q3⟩ := load4 hp15
            simp only [z4] at q0 q1 q2 q3
            have fp0 := box_fr hp15 0
            have fp1 := box_fr hp15 1
            have fp2 := box_fr hp15 2
            have fp3 := box_fr hp15 3
            go_simp
            obtain ⟨YrN12, hY⟩ : ∃ X, set4 Yr10 px ⟨n', s', v', b'⟩ = X := ⟨_, rfl⟩
            have HP15 : Hid (YrN12.heap[px]? = some (.cells (cE ⟨n', s', v', b'⟩) 23)) := hid (by rw [← hY]; exact set4h ⟨n', s', v', b'⟩ hp15)
            have hbbnone12 : Below V1.heap.size V1 YrN12 := by rw [← hY]; exact set4b ⟨n', s', v', b'⟩ (below_both hB0 (below_both hbb54 hbb10)) HPW.out
            simp only [set4] at hY
            rw [hY]
            clear hY hp15 q0 q1 q2 q3 fp0 fp1 fp2 fp3
            clear hHeld
            have hHeld := HK.out YrN12 hbbnone12
            refine hK.out _ _ (fun _ => hHeld) ?_
            clear hK K
            refine' wpAnyT_one (i := 13) (o := ?oir13) (by kernel_rfl) ?hir13 (fun K hK => ?str13)
            case hir13 => (simp only [List.getElem?_toArray, List.getElem?_cons_zero, List.getElem?_cons_succ]; rfl)
            go_simp
            refine hK.out _ _ (fun h => absurd h (by decide)) ?_
            clear hK K
            (try simp only [Act.put, List.setIfInBounds_toArray, List.set_cons_zero, List.set_cons_succ])
            refine wpAnyT_done (by kernel_rfl) ?_ _
            exact HC.out YrN12 px ⟨hbbnone12, HPW.out, HP15.out⟩
          · refine ⟨_, by (simp only [List.getElem?_toArray, List.getElem?_cons_zero, List.getElem?_cons_succ]; rfl), fun K hK => ?_⟩
            go_simp
            obtain ⟨Yr10, hY⟩ : ∃ X, X0.alloc (.cells #[.int .i64 0, .int .i64 0, .int .i64 0, .int .i64 0] 23) = X := ⟨_, rfl⟩
            obtain ⟨px, hh⟩ : ∃ h, X0.heap.size = h := ⟨_, rfl⟩
            have hbb10 : Below X0.heap.size X0 Yr10 := by rw [← hY]; exact al1 _ _
            have HZpx : Hid (Yr10.heap[px]? = some (.cells #[.int .i64 0, .int .i64 0, .int .i64 0, .int .i64 0] 23)) := hid (by rw [← hY, ← hh]; exact heap_alloc_new _ _)
            have HPW : Hid (V1.heap.size ≤ px) := hid (by rw [← hh]; exact hB0.size)
            rw [hY, hh]
            clear hY hh
            clear hHeld
            have hHeld := HK.out Yr10 (below_both hB0 hbb10)
            refine hK.out _ _ (fun _ => hHeld) ?_
            clear hK K
            (try simp only [Act.put, List.setIfInBounds_toArray, List.set_cons_zero, List.set_cons_succ])
            refine' wpAnyT_one (i := 7) (o := ?oir14) (by kernel_rfl) ?hir14 (fun K hK => ?str14)
            case hir14 => (simp only [List.getElem?_toArray, List.getElem?_cons_zero, List.getElem?_cons_succ]; rfl)
            go_simp
            go_at_call 10
            (with_reducible refine (HS2.out Yr10).mono ?_)
            rintro e Yr54 ⟨rfl, hbb54⟩
            clear hHeld
            have hHeld := HK.out Yr54 (below_both hB0 (below_both hbb10 hbb54))
            refine hK.out _ _ (fun _ => hHeld) ?_
            clear hK K
            (try simp only [Act.put, List.setIfInBounds_toArray, List.set_cons_zero, List.set_cons_succ])
            refine' wpAnyT_take (i := 8) (oi := ?oir15) (v := ?vr15) ?hir15 (by kernel_rfl) (by kernel_rfl) ?hqr15 ?hyr15 hHeld ?restr15
            case hir15 => (simp only [List.getElem?_toArray, List.getElem?_cons_zero, List.getElem?_cons_succ]; rfl)
            case hqr15 => exact fun _ _ _ h => h
            case hyr15 => (refine Or.inl ⟨by rfl, ?_⟩; intro w' hSw; (try dsimp only at hSw); go_simp; try with_reducible rfl)
            (try simp only [Act.put, List.setIfInBounds_toArray, List.set_cons_zero, List.set_cons_succ])
            refine' wpAnyT_take (i := 9) (oi := ?oir16) (v := ?vr16) ?hir16 (by kernel_rfl) (by kernel_rfl) ?hqr16 ?hyr16 hHeld ?restr16
            case hir16 => (simp only [List.getElem?_toArray, List.getElem?_cons_zero, List.getElem?_cons_succ]; rfl)
            case hqr16 => exact fun _ _ _ h => h
            case hyr16 => (refine Or.inl ⟨by rfl, ?_⟩; intro w' hSw; (try dsimp only at hSw); go_simp; try with_reducible rfl)
            (try simp only [Act.put, List.setIfInBounds_toArray, List.set_cons_zero, List.set_cons_succ])
            refine' wpAnyT_take (i := 10) (oi := ?oir17) (v := ?vr17) ?hir17 (by kernel_rfl) (by kernel_rfl) ?hqr17 ?hyr17 hHeld ?restr17
            case hir17 => (simp only [List.getElem?_toArray, List.getElem?_cons_zero, List.getElem?_cons_succ]; rfl)
            case hqr17 => exact fun _ _ _ h => h
            case hyr17 => (refine Or.inl ⟨by rfl, ?_⟩; intro w' hSw; (try dsimp only at hSw); go_simp; try with_reducible rfl)
            (try simp only [Act.put, List.setIfInBounds_toArray, List.set_cons_zero, List.set_cons_succ])
            refine' wpAnyT_one (i := 12) (o := ?oir18) (by kernel_rfl) ?hir18 (fun K hK => ?str18)
            case hir18 => (simp only [List.getElem?_toArray, List.getElem?_cons_zero, List.getElem?_cons_succ]; rfl)
            have hp15 : Yr54.heap[px]? = some (.cells (cE z4) 23) := ((hbb54.block _ (box_lt HZpx.out)).trans HZpx.out)
            obtain ⟨q0, q1, q2, q3⟩ := load4 hp15
            simp only [z4] at q0 q1 q2 q3
            have fp0 := box_fr hp15 0
            have fp1 := box_fr hp15 1
            have fp2 := box_fr hp15 2
            have fp3 := box_fr hp15 3
            go_simp
            obtain ⟨YrN12, hY⟩ : ∃ X, set4 Yr54 px ⟨n', s', v', b'⟩ = X := ⟨_, rfl⟩
            have HP15 : Hid (YrN12.heap[px]? = some (.cells (cE ⟨n', s', v', b'⟩) 23)) := hid (by rw [← hY]; exact set4h ⟨n', s', v', b'⟩ hp15)
            have hbbnone12 : Below V1.heap.size V1 YrN12 := by rw [← hY]; exact set4b ⟨n', s', v', b'⟩ (below_both hB0 (below_both hbb10 hbb54)) HPW.out
            simp only [set4] at hY
            rw [hY]
            clear hY hp15 q0 q1 q2 q3 fp0 fp1 fp2 fp3
            clear hHeld
            have hHeld := HK.out YrN12 hbbnone12
            refine hK.out _ _ (fun _ => hHeld) ?_
            clear hK K
            refine' wpAnyT_one (i := 13) (o := ?oir19) (by kernel_rfl) ?hir19 (fun K hK => ?str19)
            case hir19 => (simp only [List.getElem?_toArray, List.getElem?_cons_zero, List.getElem?_cons_succ]; rfl)
            go_simp
            refine hK.out _ _ (fun h => absurd h (by decide)) ?_
            clear hK K
            (try simp only [Act.put, List.setIfInBounds_toArray, List.set_cons_zero, List.set_cons_succ])
            refine wpAnyT_done (by kernel_rfl) ?_ _
            exact HC.out YrN12 px ⟨hbbnone12, HPW.out, HP15.out⟩
        intro V2 p2 ⟨hB, hpw, hpx⟩
        have HP2 := hid hpx
        have HPL2 := hid hpw
        have HP1' : Hid (V2.heap[p1]? = some (.cells (cE ⟨n', s', v', b'⟩) 23)) := hid ((hB.block _ (box_lt HP1.out)).trans HP1.out)
        have K6 : Hid (V2.heap[g]? = some (.cells (cE ⟨n, s, v, bb⟩) 23)) := hid ((hB.block _ (box_lt K5.out)).trans K5.out)
        have F6 : Hid (V2.heap[g + 1]? = some (.cells (cE ⟨kn, ks, kv, kb⟩) 23)) := hid ((hB.block _ (box_lt F5.out)).trans F5.out)
        have HB6 : Hid (Below g0 w V2) := hid (HB4.out.trans (hB.mono HLV.out))
        have HQ1 : Hid (g + 1 < p1) := hid (Nat.lt_of_lt_of_le (box_lt HF0.out) HPL1.out)
        have HQ2 : Hid (p1 < p2) := hid (Nat.lt_of_lt_of_le (box_lt HP1.out) HPL2.out)
        clear hB hpw hpx
        go_upto_region 13 with fail
        obtain ⟨X0, hX0⟩ : ∃ X, V2.drew = X := ⟨_, rfl⟩
        have j1 : X0.heap[p1]? = some (.cells (cE ⟨n', s', v', b'⟩) 23) := by rw [← hX0]; exact HP1'.out
        have j2 : X0.heap[p2]? = some (.cells (cE ⟨n', s', v', b'⟩) 23) := by rw [← hX0]; exact HP2.out
        have j3 : X0.heap[g]? = some (.cells (cE ⟨n, s, v, bb⟩) 23) := by rw [← hX0]; exact K6.out
        have j4 : X0.heap[g + 1]? = some (.cells (cE ⟨kn, ks, kv, kb⟩) 23) := by rw [← hX0]; exact F6.out
        have HB8 : Hid (Below g0 w X0) := hid (by rw [← hX0]; exact below_drew HB6.out)
        have HHE : ∀ X : World, X.heap[p1]? = some (.cells (cE ⟨n', s', v', b'⟩) 23) → X.heap[p2]? = some (.cells (cE ⟨n', s', v', b'⟩) 23) → X.cell? ⟨p1, 0, none⟩ = some (.int .i64 n') ∧ X.cell? ⟨p1, 1, none⟩ = some (.int .i64 s') ∧ X.cell? ⟨p1, 2, none⟩ = some (.int .i64 v') ∧ X.cell? ⟨p1, 3, none⟩ = some (.int .i64 b') ∧ X.cell? ⟨p2, 0, none⟩ = some (.int .i64 n') ∧ X.cell? ⟨p2, 1, none⟩ = some (.int .i64 s') ∧ X.cell? ⟨p2, 2, none⟩ = some (.int .i64 v') ∧ X.cell? ⟨p2, 3, none⟩ = some (.int .i64 b') := fun X h1 h2 => by
          have a1 := load4 h1
          have a2 := load4 h2
          simp only at a1 a2
          exact ⟨a1.1, a1.2.1, a1.2.2.1, a1.2.2.2, a2.1, a2.2.1, a2.2.2.1, a2.2.2.2⟩
        have HHD := hid HHE
        have hHeld := HHD.out X0 j1 j2
        have J1 := hid j1
        have J2 := hid j2
        have J3 := hid j3
        have J4 := hid j4
        have HX0 := hid hX0
        clear hX0 j1 j2 j3 j4 HHE
        refine region_tail 3 (fun X => X.cell? ⟨p1, 0, none⟩ = some (.int .i64 n') ∧ X.cell? ⟨p1, 1, none⟩ = some (.int .i64 s') ∧ X.cell? ⟨p1, 2, none⟩ = some (.int .i64 v') ∧ X.cell? ⟨p1, 3, none⟩ = some (.int .i64 b') ∧ X.cell? ⟨p2, 0, none⟩ = some (.int .i64 n') ∧ X.cell? ⟨p2, 1, none⟩ = some (.int .i64 s') ∧ X.cell? ⟨p2, 2, none⟩ = some (.int .i64 v') ∧ X.cell? ⟨p2, 3, none⟩ = some (.int .i64 b')) (by kernel_rfl) ?_
        rw [HX0.out]
        refine' wpAnyT_take (i := 0) (oi := ?oiz0) (v := ?vz0) ?hiz0 (by kernel_rfl) (by kernel_rfl) ?hqz0 ?hyz0 hHeld ?restz0
        case hiz0 => (simp only [List.getElem?_toArray, List.getElem?_cons_zero]; rfl)
        case hqz0 => exact fun _ _ _ h => h
        case hyz0 => (refine Or.inl ⟨by rfl, ?_⟩; intro w' hSw; (try dsimp only at hSw); go_simp; try with_reducible rfl)
        (try simp only [Act.put, List.setIfInBounds_toArray, List.set_cons_zero, List.set_cons_succ])
        refine' wpAnyT_take (i := 1) (oi := ?oiz1) (v := ?vz1) ?hiz1 (by kernel_rfl) (by kernel_rfl) ?hqz1 ?hyz1 hHeld ?restz1
        case hiz1 => (simp only [List.getElem?_toArray, List.getElem?_cons_zero, List.getElem?_cons_succ]; rfl)
        case hqz1 => exact fun _ _ _ h => h
        case hyz1 => (refine Or.inl ⟨by rfl, ?_⟩; intro w' hSw; (try dsimp only at hSw); go_simp; try with_reducible rfl)
        (try simp only [Act.put, List.setIfInBounds_toArray, List.set_cons_zero, List.set_cons_succ])
        refine' wpAnyT_one (i := 2) (o := ?oiz2) (by kernel_rfl) ?hiz2 (fun K hK => ?stz2)
        case hiz2 => (simp only [List.getElem?_toArray, List.getElem?_cons_zero, List.getElem?_cons_succ]; rfl)
        obtain ⟨i0, i1, i2, i3⟩ := load4 J3.out
        simp only at i0 i1 i2 i3
        have ff := box_fr J3.out
        go_simp
        obtain ⟨Y1, hY1⟩ : ∃ X, set4 X0 g ⟨n', s', v', b'⟩ = X := ⟨_, rfl⟩
        have HY1G : Hid (Y1.heap[g]? = some (.cells (cE ⟨n', s', v', b'⟩) 23)) := hid (by rw [← hY1]; exact set4h ⟨n', s', v', b'⟩ J3.out)
        have HY1F : Hid (Y1.heap[g + 1]? = some (.cells (cE ⟨kn, ks, kv, kb⟩) 23)) := hid (by rw [← hY1]; exact keep_set1 (keep_set1 (keep_set1 (keep_set1 J4.out 0 _) 1 _) 2 _) 3 _)
        have HBY1 : Hid (Below g0 w Y1) := hid (by rw [← hY1]; exact set4b ⟨n', s', v', b'⟩ HB8.out HGG.out)
        have hHeld := HHD.out Y1 (by rw [← hY1]; exact keep_setn (keep_setn (keep_setn (keep_setn J1.out (by have := HQ1.out; omega) 0 _) (by have := HQ1.out; omega) 1 _) (by have := HQ1.out; omega) 2 _) (by have := HQ1.out; omega) 3 _) (by rw [← hY1]; exact keep_setn (keep_setn (keep_setn (keep_setn J2.out (by have := HQ1.out; have := HQ2.out; omega) 0 _) (by have := HQ1.out; have := HQ2.out; omega) 1 _) (by have := HQ1.out; have := HQ2.out; omega) 2 _) (by have := HQ1.out; have := HQ2.out; omega) 3 _)
        simp only [set4] at hY1
        rw [hY1]
        clear hY1 i0 i1 i2 i3 ff
        refine hK.out _ _ (fun _ => hHeld) ?_
        clear hK K
        (try simp only [Act.put, List.setIfInBounds_toArray, List.set_cons_zero, List.set_cons_succ])
        refine' wpAnyT_one (i := 3) (o := ?oiz3) (by kernel_rfl) ?hiz3 (fun K hK => ?stz3)
        case hiz3 => (simp only [List.getElem?_toArray, List.getElem?_cons_zero, List.getElem?_cons_succ]; rfl)
        obtain ⟨i0, i1, i2, i3⟩ := load4 HY1F.out
        simp only at i0 i1 i2 i3
        have ff := box_fr HY1F.out
        go_simp
        obtain ⟨Y2, hY2⟩ : ∃ X, set4 Y1 (g + 1) ⟨n', s', v', b'⟩ = X := ⟨_, rfl⟩
        have HY2 := hid hY2
        simp only [set4] at hY2
        rw [hY2]
        clear hY2 i0 i1 i2 i3 ff
        refine hK.out _ _ (fun h => absurd h (by decide)) ?_
        clear hK K
        (try simp only [Act.put, List.setIfInBounds_toArray, List.set_cons_zero, List.set_cons_succ])
        refine wpAnyT_done (by kernel_rfl) ?_ _
        have HRES1 : Hid (Y2.heap[g]? = some (.cells (cE ⟨n', s', v', b'⟩) 23)) := hid (by rw [← HY2.out]; exact keep_setn (keep_setn (keep_setn (keep_setn HY1G.out (by omega) 0 _) (by omega) 1 _) (by omega) 2 _) (by omega) 3 _)
        have HRES2 : Hid (Y2.heap[g + 1]? = some (.cells (cE ⟨n', s', v', b'⟩) 23)) := hid (by rw [← HY2.out]; exact set4h ⟨n', s', v', b'⟩ HY1F.out)
        have HBR : Hid (Below g0 w Y2) := hid (by rw [← HY2.out]; exact set4b ⟨n', s', v', b'⟩ HBY1.out (by have := HGG.out; omega))
        go_wp2_with fail
        go_roundw
        case rel => exact ⟨k + 1, _, _, by omega, by go_num, HOK, HRES1, HRES2, HBR⟩
        case measure => simp [RowKit.intOf]; omega
      · obtain ⟨⟨n', s', v', b'⟩, hE'⟩ : ∃ E, exq ⟨n, s, v, bb⟩ = E := ⟨_, rfl⟩
        have HS := hid (fun W => expired_any ⟨n, s, v, bb⟩ W)
        rw [hE'] at HS
        have HOK : Hid (Same ⟨n', s', v', b'⟩ ⟨kn, ks, kv, kb⟩) := hid (by rw [← hE']; exact same_exq HOK0.out)
        simp only [ev] at HS
        clear hE' hbl htt
        go_wp2_with (go_at_call 21; (with_reducible refine (HS.out _).mono ?_); rintro _ w7 ⟨rfl, hb⟩; have hk7 := (hb.block _ (box_lt HK0.out)).trans HK0.out; have hf7 := (hb.block _ (box_lt HF0.out)).trans HF0.out; have HB3 := hid (HB0.out.trans (hb.mono HLW.out)); have K3 := hid hk7; have F3 := hid hf7; obtain ⟨p0, p1, p2, p3⟩ := load4 hk7; simp only at p0 p1 p2 p3; have fr7 := box_fr hk7; clear hb hk7 hf7)
        have HB5 : Hid (Below g0 w (set4 w7 g ⟨n', s', v', b'⟩)) := hid (set4b ⟨n', s', v', b'⟩ HB3.out HGG.out)
        have K6 : Hid ((set4 w7 g ⟨n', s', v', b'⟩).heap[g]? = some (.cells (cE ⟨n', s', v', b'⟩) 23)) := hid (set4h ⟨n', s', v', b'⟩ K3.out)
        have F6 : Hid ((set4 w7 g ⟨n', s', v', b'⟩).heap[g + 1]? = some (.cells (cE ⟨kn, ks, kv, kb⟩) 23)) := hid (keep_set1 (keep_set1 (keep_set1 (keep_set1 F3.out 0 _) 1 _) 2 _) 3 _)
        go_roundw
        case rel => exact ⟨k + 1, _, _, by omega, by go_num, HOK, K6, F6, HB5⟩
        case measure => simp [RowKit.intOf]; omega
    · obtain rfl : k = N := by omega
      have hlt' : decide ((k : Int) < (k : Int)) = false := decide_eq_false (by omega)
      obtain ⟨n, s, v, bb⟩ := E
      obtain ⟨kn, ks, kv, kb⟩ := F
      obtain ⟨h0, h1⟩ := htm
      have hwt : wrap64 tm = tm := w64 (by omega) (by omega)
      have hsm := smp_ok5 HOK0.out.1 h0 h1
      have hsm2 := smp_ok5 HOK0.out.2.1 h0 h1
      rw [← same_eq HOK0.out] at hsm2
      obtain ⟨⟨n', s', v', b'⟩, hE'⟩ : ∃ E, nxt ⟨n, s, v, bb⟩ tm = E := ⟨_, rfl⟩
      rw [hE'] at hsm hsm2
      have HS := hid (fun W => sample_n hsm W)
      have HS2 := hid (fun W => sample_n hsm2 W)
      have HT := hid (fun W => timeout_any ⟨n', s', v', b'⟩ W)
      obtain ⟨T, hT⟩ : ∃ T, tmo ⟨n', s', v', b'⟩ = T := ⟨_, rfl⟩
      rw [hT] at HT
      simp only [ev] at HS HS2 HT
      obtain ⟨x0, x1, x2, x3⟩ := load4 HK0.out
      simp only at x0 x1 x2 x3
      clear hsm hsm2 hE' hT
      go_upto_region 15 with (go_at_call 10; (with_reducible refine (HS.out _).mono ?_); rintro _ w3 ⟨rfl, hb⟩; have HB3 := hid (HB0.out.trans (hb.mono HLW.out)); have hk3 := (hb.block _ (box_lt HF0.out)).trans HF0.out; have F3 := hid hk3; clear hb hk3)
      obtain ⟨p1, hp1⟩ : ∃ h, w3.heap.size = h := ⟨_, rfl⟩
      obtain ⟨W3, hW3⟩ : ∃ X, w3.alloc (.cells (cE ⟨n', s', v', b'⟩) 23) = X := ⟨_, rfl⟩
      have k3 : W3.heap[p1]? = some (.cells (cE ⟨n', s', v', b'⟩) 23) := by rw [← hW3, ← hp1]; exact heap_alloc_new _ _
      have k4 : W3.heap[g + 1]? = some (.cells (cE ⟨kn, ks, kv, kb⟩) 23) := by rw [← hW3]; exact old_alloc F3.out _
      have HB4 : Hid (Below g0 w W3) := hid (by rw [← hW3]; exact HB3.out.alloc (by have := box_lt F3.out; have := HGG.out; omega) _)
      have P3 := hid k3
      have F4 := hid k4
      have HP1 := hid hp1
      have HW3 := hid hW3
      obtain ⟨y0, y1, y2, y3⟩ := load4 k4
      simp only [cE] at HW3
      simp only at y0 y1 y2 y3
      clear k3 k4 hp1 hW3 x0 x1 x2 x3
      rw [HP1.out, HW3.out]
      go_upto_region 16 with (go_at_call 10; (with_reducible refine (HS2.out _).mono ?_); rintro _ w5 ⟨rfl, hb⟩; have HB5 := hid (HB4.out.trans (hb.mono (by have := box_lt F4.out; have := HGG.out; omega))); have hk3 := (hb.block _ (box_lt P3.out)).trans P3.out; have P5 := hid hk3; clear hb hk3)
      obtain ⟨p2, hp2⟩ : ∃ h, w5.heap.size = h := ⟨_, rfl⟩
      obtain ⟨X0, hX0⟩ : ∃ X, (w5.alloc (.cells (cE ⟨n', s', v', b'⟩) 23)).drew = X := ⟨_, rfl⟩
      have k5 : X0.heap[p2]? = some (.cells (cE ⟨n', s', v', b'⟩) 23) := by rw [← hX0, ← hp2]; exact heap_alloc_new _ _
      have k6 : X0.heap[p1]? = some (.cells (cE ⟨n', s', v', b'⟩) 23) := by rw [← hX0]; exact old_alloc P5.out _
      have HLP : Hid (g0 ≤ w5.heap.size) := hid (by have := HB5.out.size; have := HG0.out; omega)
      have HB6 : Hid (Below g0 w X0) := hid (by rw [← hX0]; exact below_drew (HB5.out.alloc HLP.out _))
      have HLX : Hid (g0 ≤ X0.heap.size) := hid (by have := HB6.out.size; have := HG0.out; omega)
      have HK : Hid (∀ X, Below X0.heap.size X0 X → X.cell? ⟨p1, 0, none⟩ = some (.int .i64 n') ∧ X.cell? ⟨p1, 1, none⟩ = some (.int .i64 s') ∧ X.cell? ⟨p1, 2, none⟩ = some (.int .i64 v') ∧ X.cell? ⟨p1, 3, none⟩ = some (.int .i64 b') ∧ X.cell? ⟨p2, 0, none⟩ = some (.int .i64 n') ∧ X.cell? ⟨p2, 1, none⟩ = some (.int .i64 s') ∧ X.cell? ⟨p2, 2, none⟩ = some (.int .i64 v') ∧ X.cell? ⟨p2, 3, none⟩ = some (.int .i64 b')) := hid (fun X hX => by
        have a1 := load4 ((hX.block _ (box_lt k6)).trans k6)
        have a2 := load4 ((hX.block _ (box_lt k5)).trans k5)
        simp only at a1 a2
        exact ⟨a1.1, a1.2.1, a1.2.2.1, a1.2.2.2, a2.1, a2.2.1, a2.2.2.1, a2.2.2.2⟩)
      have HB := hid (Below.refl X0.heap.size X0)
      have hHeld := HK.out X0 HB.out
      have HP2 := hid hp2
      have HX0 := hid hX0
      simp only [cE] at HX0
      have q2 : (T == T) = true := beq_self_eq_true T
      have q3 : (n' == n') = true := beq_self_eq_true n'
      have q4 : (s' == s') = true := beq_self_eq_true s'
      have q5 : (v' == v') = true := beq_self_eq_true v'
      have q6 : (b' == b') = true := beq_self_eq_true b'
      clear k5 k6 hp2 hX0 y0 y1 y2 y3
      refine region_tail 21 (fun X => X.cell? ⟨p1, 0, none⟩ = some (.int .i64 n') ∧ X.cell? ⟨p1, 1, none⟩ = some (.int .i64 s') ∧ X.cell? ⟨p1, 2, none⟩ = some (.int .i64 v') ∧ X.cell? ⟨p1, 3, none⟩ = some (.int .i64 b') ∧ X.cell? ⟨p2, 0, none⟩ = some (.int .i64 n') ∧ X.cell? ⟨p2, 1, none⟩ = some (.int .i64 s') ∧ X.cell? ⟨p2, 2, none⟩ = some (.int .i64 v') ∧ X.cell? ⟨p2, 3, none⟩ = some (.int .i64 b')) (by kernel_rfl) ?_
      rw [HP2.out, HX0.out]
      refine' wpAnyT_one (i := 0) (o := ?oiu0) (by kernel_rfl) ?hiu0 (fun K hK => ?stu0)
      case hiu0 => (simp only [List.getElem?_toArray, List.getElem?_cons_zero]; rfl)
      go_simp
      go_at_call 12
      (with_reducible refine (awake_any _).mono ?_)
      rintro _ X8 ⟨rfl, hb⟩
      have HB := hid (HB.out.trans (hb.mono HB.out.size))
      have hHeld := HK.out X8 HB.out
      clear hb
      refine hK.out _ _ (fun _ => hHeld) ?_
      clear hK K
      (try simp only [Act.put, List.setIfInBounds_toArray, List.set_cons_zero, List.set_cons_succ])
      refine' wpAnyT_take (i := 1) (oi := ?oiu1) (v := ?vu1) ?hiu1 (by kernel_rfl) (by kernel_rfl) ?hqu1 ?hyu1 hHeld ?restu1
      case hiu1 => (simp only [List.getElem?_toArray, List.getElem?_cons_zero, List.getElem?_cons_succ]; rfl)
      case hqu1 => exact fun _ _ _ h => h
      case hyu1 => (refine Or.inl ⟨by rfl, ?_⟩; intro w' hSw; (try dsimp only at hSw); go_simp; try with_reducible rfl)
      (try simp only [Act.put, List.setIfInBounds_toArray, List.set_cons_zero, List.set_cons_succ])
      refine' wpAnyT_take (i := 2) (oi := ?oiu2) (v := ?vu2) ?hiu2 (by kernel_rfl) (by kernel_rfl) ?hqu2 ?hyu2 hHeld ?restu2
      case hiu2 => (simp only [List.getElem?_toArray, List.getElem?_cons_zero, List.getElem?_cons_succ]; rfl)
      case hqu2 => exact fun _ _ _ h => h
      case hyu2 => (refine Or.inl ⟨by rfl, ?_⟩; intro w' hSw; (try dsimp only at hSw); go_simp; try with_reducible rfl)
      (try simp only [Act.put, List.setIfInBounds_toArray, List.set_cons_zero, List.set_cons_succ])
      refine' wpAnyT_take (i := 3) (oi := ?oiu3) (v := ?vu3) ?hiu3 (by kernel_rfl) (by kernel_rfl) ?hqu3 ?hyu3 hHeld ?restu3
      case hiu3 => (simp only [List.getElem?_toArray, List.getElem?_cons_zero, List.getElem?_cons_succ]; rfl)
      case hqu3 => exact fun _ _ _ h => h
      case hyu3 => (refine Or.inl ⟨by rfl, ?_⟩; intro w' hSw; (try dsimp only at hSw); go_simp; try with_reducible rfl)
      (try simp only [Act.put, List.setIfInBounds_toArray, List.set_cons_zero, List.set_cons_succ])
      refine' wpAnyT_take (i := 4) (oi := ?oiu4) (v := ?vu4) ?hiu4 (by kernel_rfl) (by kernel_rfl) ?hqu4 ?hyu4 hHeld ?restu4
      case hiu4 => (simp only [List.getElem?_toArray, List.getElem?_cons_zero, List.getElem?_cons_succ]; rfl)
      case hqu4 => exact fun _ _ _ h => h
      case hyu4 => (refine Or.inl ⟨by rfl, ?_⟩; intro w' hSw; (try dsimp only at hSw); go_simp; try with_reducible rfl)
      (try simp only [Act.put, List.setIfInBounds_toArray, List.set_cons_zero, List.set_cons_succ])
      refine' wpAnyT_take (i := 5) (oi := ?oiu5) (v := ?vu5) ?hiu5 (by kernel_rfl) (by kernel_rfl) ?hqu5 ?hyu5 hHeld ?restu5
      case hiu5 => (simp only [List.getElem?_toArray, List.getElem?_cons_zero, List.getElem?_cons_succ]; rfl)
      case hqu5 => exact fun _ _ _ h => h
      case hyu5 => (refine Or.inl ⟨by rfl, ?_⟩; intro w' hSw; (try dsimp only at hSw); go_simp; try with_reducible rfl)
      (try simp only [Act.put, List.setIfInBounds_toArray, List.set_cons_zero, List.set_cons_succ])
      refine' wpAnyT_take (i := 6) (oi := ?oiu6) (v := ?vu6) ?hiu6 (by kernel_rfl) (by kernel_rfl) ?hqu6 ?hyu6 hHeld ?restu6
      case hiu6 => (simp only [List.getElem?_toArray, List.getElem?_cons_zero, List.getElem?_cons_succ]; rfl)
      case hqu6 => exact fun _ _ _ h => h
      case hyu6 => (refine Or.inl ⟨by rfl, ?_⟩; intro w' hSw; (try dsimp only at hSw); go_simp; try with_reducible rfl)
      (try simp only [Act.put, List.setIfInBounds_toArray, List.set_cons_zero, List.set_cons_succ])
      refine' wpAnyT_take (i := 7) (oi := ?oiu7) (v := ?vu7) ?hiu7 (by kernel_rfl) (by kernel_rfl) ?hqu7 ?hyu7 hHeld ?restu7
      case hiu7 => (simp only [List.getElem?_toArray, List.getElem?_cons_zero, List.getElem?_cons_succ]; rfl)
      case hqu7 => exact fun _ _ _ h => h
      case hyu7 => (refine Or.inl ⟨by rfl, ?_⟩; intro w' hSw; (try dsimp only at hSw); go_simp; try with_reducible rfl)
      (try simp only [Act.put, List.setIfInBounds_toArray, List.set_cons_zero, List.set_cons_succ])
      refine' wpAnyT_take (i := 8) (oi := ?oiu8) (v := ?vu8) ?hiu8 (by kernel_rfl) (by kernel_rfl) ?hqu8 ?hyu8 hHeld ?restu8
      case hiu8 => (simp only [List.getElem?_toArray, List.getElem?_cons_zero, List.getElem?_cons_succ]; rfl)
      case hqu8 => exact fun _ _ _ h => h
      case hyu8 => (refine Or.inl ⟨by rfl, ?_⟩; intro w' hSw; (try dsimp only at hSw); go_simp; try with_reducible rfl)
      (try simp only [Act.put, List.setIfInBounds_toArray, List.set_cons_zero, List.set_cons_succ])
      refine' wpAnyT_take (i := 9) (oi := ?oiu9) (v := ?vu9) ?hiu9 (by kernel_rfl) (by kernel_rfl) ?hqu9 ?hyu9 hHeld ?restu9
      case hiu9 => (simp only [List.getElem?_toArray, List.getElem?_cons_zero, List.getElem?_cons_succ]; rfl)
      case hqu9 => exact fun _ _ _ h => h
      case hyu9 => (refine Or.inl ⟨by rfl, ?_⟩; intro w' hSw; (try dsimp only at hSw); go_simp; try with_reducible rfl)
      (try simp only [Act.put, List.setIfInBounds_toArray, List.set_cons_zero, List.set_cons_succ])
      refine' wpAnyT_take (i := 10) (oi := ?oiu10) (v := ?vu10) ?hiu10 (by kernel_rfl) (by kernel_rfl) ?hqu10 ?hyu10 hHeld ?restu10
      case hiu10 => (simp only [List.getElem?_toArray, List.getElem?_cons_zero, List.getElem?_cons_succ]; rfl)
      case hqu10 => exact fun _ _ _ h => h
      case hyu10 => (refine Or.inl ⟨by rfl, ?_⟩; intro w' hSw; (try dsimp only at hSw); go_simp; try with_reducible rfl)
      (try simp only [Act.put, List.setIfInBounds_toArray, List.set_cons_zero, List.set_cons_succ])
      refine' wpAnyT_take (i := 11) (oi := ?oiu11) (v := ?vu11) ?hiu11 (by kernel_rfl) (by kernel_rfl) ?hqu11 ?hyu11 hHeld ?restu11
      case hiu11 => (simp only [List.getElem?_toArray, List.getElem?_cons_zero, List.getElem?_cons_succ]; rfl)
      case hqu11 => exact fun _ _ _ h => h
      case hyu11 => (refine Or.inl ⟨by rfl, ?_⟩; intro w' hSw; (try dsimp only at hSw); go_simp; try with_reducible rfl)
      (try simp only [Act.put, List.setIfInBounds_toArray, List.set_cons_zero, List.set_cons_succ])
      refine' wpAnyT_take (i := 12) (oi := ?oiu12) (v := ?vu12) ?hiu12 (by kernel_rfl) (by kernel_rfl) ?hqu12 ?hyu12 hHeld ?restu12
      case hiu12 => (simp only [List.getElem?_toArray, List.getElem?_cons_zero, List.getElem?_cons_succ]; rfl)
      case hqu12 => exact fun _ _ _ h => h
      case hyu12 => (refine Or.inl ⟨by rfl, ?_⟩; intro w' hSw; (try dsimp only at hSw); go_simp; try with_reducible rfl)
      (try simp only [Act.put, List.setIfInBounds_toArray, List.set_cons_zero, List.set_cons_succ])
      refine' wpAnyT_take (i := 13) (oi := ?oiu13) (v := ?vu13) ?hiu13 (by kernel_rfl) (by kernel_rfl) ?hqu13 ?hyu13 hHeld ?restu13
      case hiu13 => (simp only [List.getElem?_toArray, List.getElem?_cons_zero, List.getElem?_cons_succ]; rfl)
      case hqu13 => exact fun _ _ _ h => h
      case hyu13 => (refine Or.inl ⟨by rfl, ?_⟩; intro w' hSw; (try dsimp only at hSw); go_simp; try with_reducible rfl)
      (try simp only [Act.put, List.setIfInBounds_toArray, List.set_cons_zero, List.set_cons_succ])
      refine' wpAnyT_take (i := 14) (oi := ?oiu14) (v := ?vu14) ?hiu14 (by kernel_rfl) (by kernel_rfl) ?hqu14 ?hyu14 hHeld ?restu14
      case hiu14 => (simp only [List.getElem?_toArray, List.getElem?_cons_zero, List.getElem?_cons_succ]; rfl)
      case hqu14 => exact fun _ _ _ h => h
      case hyu14 => (refine Or.inl ⟨by rfl, ?_⟩; intro w' hSw; (try dsimp only at hSw); go_simp; try with_reducible rfl)
      (try simp only [Act.put, List.setIfInBounds_toArray, List.set_cons_zero, List.set_cons_succ])
      refine' wpAnyT_take (i := 15) (oi := ?oiu15) (v := ?vu15) ?hiu15 (by kernel_rfl) (by kernel_rfl) ?hqu15 ?hyu15 hHeld ?restu15
      case hiu15 => (simp only [List.getElem?_toArray, List.getElem?_cons_zero, List.getElem?_cons_succ]; rfl)
      case hqu15 => exact fun _ _ _ h => h
      case hyu15 => (refine Or.inl ⟨by rfl, ?_⟩; intro w' hSw; (try dsimp only at hSw); go_simp; try with_reducible rfl)
      (try simp only [Act.put, List.setIfInBounds_toArray, List.set_cons_zero, List.set_cons_succ])
      refine' wpAnyT_take (i := 17) (oi := ?oiu17) (v := ?vu17) ?hiu17 (by kernel_rfl) (by kernel_rfl) ?hqu17 ?hyu17 hHeld ?restu17
      case hiu17 => (simp only [List.getElem?_toArray, List.getElem?_cons_zero, List.getElem?_cons_succ]; rfl)
      case hqu17 => exact fun _ _ _ h => h
      case hyu17 => (refine Or.inl ⟨by rfl, ?_⟩; intro w' hSw; (try dsimp only at hSw); go_simp; try with_reducible rfl)
      (try simp only [Act.put, List.setIfInBounds_toArray, List.set_cons_zero, List.set_cons_succ])
      refine' wpAnyT_one (i := 16) (o := ?oiu16) (by kernel_rfl) ?hiu16 (fun K hK => ?stu16)
      case hiu16 => (simp only [List.getElem?_toArray, List.getElem?_cons_zero, List.getElem?_cons_succ]; rfl)
      go_simp
      go_at_call 17
      (with_reducible refine (HT.out _).mono ?_)
      rintro _ X9 ⟨rfl, hb⟩
      have HB := hid (HB.out.trans (hb.mono HB.out.size))
      have hHeld := HK.out X9 HB.out
      clear hb
      refine hK.out _ _ (fun _ => hHeld) ?_
      clear hK K
      (try simp only [Act.put, List.setIfInBounds_toArray, List.set_cons_zero, List.set_cons_succ])
      refine' wpAnyT_one (i := 18) (o := ?oiu18) (by kernel_rfl) ?hiu18 (fun K hK => ?stu18)
      case hiu18 => (simp only [List.getElem?_toArray, List.getElem?_cons_zero, List.getElem?_cons_succ]; rfl)
      go_simp
      go_at_call 17
      (with_reducible refine (HT.out _).mono ?_)
      rintro _ X10 ⟨rfl, hb⟩
      have HB := hid (HB.out.trans (hb.mono HB.out.size))
      have hHeld := HK.out X10 HB.out
      clear hb
      refine hK.out _ _ (fun _ => hHeld) ?_
      clear hK K
      (try simp only [Act.put, List.setIfInBounds_toArray, List.set_cons_zero, List.set_cons_succ])
      refine' wpAnyT_take (i := 19) (oi := ?oiu19) (v := ?vu19) ?hiu19 (by kernel_rfl) (by kernel_rfl) ?hqu19 ?hyu19 hHeld ?restu19
      case hiu19 => (simp only [List.getElem?_toArray, List.getElem?_cons_zero, List.getElem?_cons_succ]; rfl)
      case hqu19 => exact fun _ _ _ h => h
      case hyu19 => (refine Or.inl ⟨by rfl, ?_⟩; intro w' hSw; (try dsimp only at hSw); go_simp; try with_reducible rfl)
      (try simp only [Act.put, List.setIfInBounds_toArray, List.set_cons_zero, List.set_cons_succ])
      refine' wpAnyT_take (i := 20) (oi := ?oiu20) (v := ?vu20) ?hiu20 (by kernel_rfl) (by kernel_rfl) ?hqu20 ?hyu20 hHeld ?restu20
      case hiu20 => (simp only [List.getElem?_toArray, List.getElem?_cons_zero, List.getElem?_cons_succ]; rfl)
      case hqu20 => exact fun _ _ _ h => h
      case hyu20 => (refine Or.inl ⟨by rfl, ?_⟩; intro w' hSw; (try dsimp only at hSw); go_simp; try with_reducible rfl)
      (try simp only [Act.put, List.setIfInBounds_toArray, List.set_cons_zero, List.set_cons_succ])
      refine' wpAnyT_one (i := 21) (o := ?oiu21) (by kernel_rfl) ?hiu21 (fun K hK => ?stu21)
      case hiu21 => (simp only [List.getElem?_toArray, List.getElem?_cons_zero, List.getElem?_cons_succ]; rfl)
      go_simp
      refine hK.out _ _ (fun h => absurd h (by decide)) ?_
      clear hK K
      (try simp only [Act.put, List.setIfInBounds_toArray, List.set_cons_zero, List.set_cons_succ])
      refine wpAnyT_done (by kernel_rfl) ?_ _
      go_wp2_with fail
      go_ret
      exact ⟨rfl, by rw [HG0.out]; exact HB6.out.trans (HB.out.mono HLX.out)⟩
end Go.Proofs.Ytlbcidgmdfcamaa
