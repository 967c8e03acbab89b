/- SameMessage, SameMessages of equal messages. -/
import Derived.Test.YtkdladacmjkdoaaN
namespace Go.Proofs.Ytkdladacmjkdoaa
open Go.RowKit Go.Lib
theorem conv_nil (W : World) : (convert 45 9 (.slice none 0 0)).run Try.prog W = .ok (.string ByteArray.empty) W := by kernel_rfl
theorem neq_empty (W : World) : (binOp .neq 9 (.string ByteArray.empty) (.string ByteArray.empty)).run Try.prog W = .ok (.bool false) W := by kernel_rfl
set_option maxHeartbeats 4000000 in
set_option maxRecDepth 100000 in
theorem sameMessage_eq (m : Mes) (w : World) : Calls Try.prog 36 #[mv m 0 none 0 0 none 0 0, mv m 0 none 0 0 none 0 0] w fun e w' => e = .returned (.bool true) ∧ Below w.heap.size w w' := by
  obtain ⟨k, f, t, n, e⟩ := m
  unfold mv
  simp only
  have HB := hid (fun (x y : Obj) => below_both (al1 w x) (al1 (w.alloc x) y))
  have hcv := conv_nil
  have hne := neq_empty
  go_enter Try.func36, Try.ntmps36
  go_wp2_with fail
  go_loop [5] (fun i => i = .int .i64 0) (fun _ => 0)
  case atStart => rfl
  case round =>
    subst hrel
    go_wp2_with fail
    go_ret
    exact ⟨rfl, HB.out _ _⟩
theorem cell8 {w : World} {b : Nat} {m : Mes} {T : TypeId} (h : w.heap[b]? = some (.cells (cM m).toArray T)) : w.cell? ⟨b, 0, none⟩ = some (.int .i64 m.k) ∧ w.cell? ⟨b, 1, none⟩ = some (.int .i64 m.f) ∧ w.cell? ⟨b, 2, none⟩ = some (.int .i64 m.t) ∧ w.cell? ⟨b, 3, none⟩ = some (.int .i64 m.n) ∧ w.cell? ⟨b, 4, none⟩ = some (.int .i64 0) ∧ w.cell? ⟨b, 5, none⟩ = some (.int .i64 m.e) ∧ w.cell? ⟨b, 6, none⟩ = some (.slice none 0 0) ∧ w.cell? ⟨b, 7, none⟩ = some (.slice none 0 0) :=
  ⟨cell_of_row _ _ 0 _ _ _ h, cell_of_row _ _ 1 _ _ _ h, cell_of_row _ _ 2 _ _ _ h, cell_of_row _ _ 3 _ _ _ h, cell_of_row _ _ 4 _ _ _ h, cell_of_row _ _ 5 _ _ _ h, cell_of_row _ _ 6 _ _ _ h, cell_of_row _ _ 7 _ _ _ h⟩
set_option maxHeartbeats 4000000 in
set_option maxRecDepth 100000 in
theorem sameMessages_eq {B C : Nat} (l : List Mes) (u v : Value) (w : World) (hu : MsgQ B w u l) (hv : MsgQ C w v l) : Calls Try.prog 19 #[u, v] w fun e w' => e = .returned (.bool true) ∧ Below w.heap.size w w' := by
  rcases hu with ⟨rfl, rfl⟩ | ⟨b1, m, rfl, rfl, _, h1⟩
  · rcases hv with ⟨rfl, _⟩ | ⟨b2, m2, _, h, _⟩
    · have HB := hid (Below.refl w.heap.size w)
      go_enter Try.func19, Try.ntmps19
      go_wp2_with fail
      go_loop [5] (fun i => i = .int .i64 0) (fun _ => 0)
      case atStart => rfl
      case round =>
        subst hrel
        go_wp2_with fail
        go_ret
        exact ⟨rfl, HB.out⟩
    · cases h
  · rcases hv with ⟨_, h⟩ | ⟨b2, m2, rfl, h, _, h2⟩
    · cases h
    · injection h with h _
      subst h
      have HSM := hid (fun W => sameMessage_eq m W)
      obtain ⟨k, f, t, n, e⟩ := m
      have HK : Hid (∀ X, Below w.heap.size w X → X.cell? ⟨b1, 0, none⟩ = some (.int .i64 k) ∧ X.cell? ⟨b1, 1, none⟩ = some (.int .i64 f) ∧ X.cell? ⟨b1, 2, none⟩ = some (.int .i64 t) ∧ X.cell? ⟨b1, 3, none⟩ = some (.int .i64 n) ∧ X.cell? ⟨b1, 4, none⟩ = some (.int .i64 0) ∧ X.cell? ⟨b1, 5, none⟩ = some (.int .i64 e) ∧ X.cell? ⟨b1, 6, none⟩ = some (.slice none 0 0) ∧ X.cell? ⟨b1, 7, none⟩ = some (.slice none 0 0) ∧ X.cell? ⟨b2, 0, none⟩ = some (.int .i64 k) ∧ X.cell? ⟨b2, 1, none⟩ = some (.int .i64 f) ∧ X.cell? ⟨b2, 2, none⟩ = some (.int .i64 t) ∧ X.cell? ⟨b2, 3, none⟩ = some (.int .i64 n) ∧ X.cell? ⟨b2, 4, none⟩ = some (.int .i64 0) ∧ X.cell? ⟨b2, 5, none⟩ = some (.int .i64 e) ∧ X.cell? ⟨b2, 6, none⟩ = some (.slice none 0 0) ∧ X.cell? ⟨b2, 7, none⟩ = some (.slice none 0 0)) := hid (fun X hX => by
        have a1 := cell8 ((hX.block _ (box_lt h1)).trans h1)
        have a2 := cell8 ((hX.block _ (box_lt h2)).trans h2)
        simp only at a1 a2
        obtain ⟨c0, c1, c2, c3, c4, c5, c6, c7⟩ := a1
        exact ⟨c0, c1, c2, c3, c4, c5, c6, c7, a2⟩)
      simp only [mv] at HSM
      clear h1 h2
      go_enter Try.func19, Try.ntmps19
      go_wp2_with fail
      go_loopw [5] (fun iv wr => ∃ i : Nat, i ≤ 1 ∧ iv = .int .i64 (i : Int) ∧ Hid (Below w.heap.size w wr)) (fun iv _ => 1 - (RowKit.intOf iv).toNat)
      case atStart => exact ⟨0, by omega, rfl, hid (Below.refl _ _)⟩
      case round =>
        obtain ⟨i, hi, rfl, HB0⟩ := hrel
        rcases Nat.eq_zero_or_pos i with h0 | h0
        · subst h0
          go_upto_region 6 with fail
          obtain ⟨X0, hX0⟩ : ∃ X, wr.drew = X := ⟨_, rfl⟩
          have HB := hid (show Below w.heap.size w X0 by rw [← hX0]; exact below_drew HB0.out)
          have hHeld := HK.out X0 HB.out
          have HX0 := hid hX0
          clear hX0
          refine region_tail 9 (fun X => X.cell? ⟨b1, 0, none⟩ = some (.int .i64 k) ∧ X.cell? ⟨b1, 1, none⟩ = some (.int .i64 f) ∧ X.cell? ⟨b1, 2, none⟩ = some (.int .i64 t) ∧ X.cell? ⟨b1, 3, none⟩ = some (.int .i64 n) ∧ X.cell? ⟨b1, 4, none⟩ = some (.int .i64 0) ∧ X.cell? ⟨b1, 5, none⟩ = some (.int .i64 e) ∧ X.cell? ⟨b1, 6, none⟩ = some (.slice none 0 0) ∧ X.cell? ⟨b1, 7, none⟩ = some (.slice none 0 0) ∧ X.cell? ⟨b2, 0, none⟩ = some (.int .i64 k) ∧ X.cell? ⟨b2, 1, none⟩ = some (.int .i64 f) ∧ X.cell? ⟨b2, 2, none⟩ = some (.int .i64 t) ∧ X.cell? ⟨b2, 3, none⟩ = some (.int .i64 n) ∧ X.cell? ⟨b2, 4, none⟩ = some (.int .i64 0) ∧ X.cell? ⟨b2, 5, none⟩ = some (.int .i64 e) ∧ X.cell? ⟨b2, 6, none⟩ = some (.slice none 0 0) ∧ X.cell? ⟨b2, 7, none⟩ = some (.slice none 0 0)) (by kernel_rfl) ?_
          rw [HX0.out]
          refine' wpAnyT_take (i := 0) (oi := ?oix0) (v := ?vx0) ?hix0 (by kernel_rfl) (by kernel_rfl) ?hqx0 ?hyx0 hHeld ?restx0
          case hix0 => (simp only [List.getElem?_toArray, List.getElem?_cons_zero]; rfl)
          case hqx0 => exact fun _ _ _ h => h
          case hyx0 => (refine Or.inl ⟨by rfl, ?_⟩; intro w' hSw; (try dsimp only at hSw); go_simp; try with_reducible rfl)
          (try simp only [Act.put, List.setIfInBounds_toArray, List.set_cons_zero, List.set_cons_succ])
          refine' wpAnyT_take (i := 1) (oi := ?oix1) (v := ?vx1) ?hix1 (by kernel_rfl) (by kernel_rfl) ?hqx1 ?hyx1 hHeld ?restx1
          case hix1 => (simp only [List.getElem?_toArray, List.getElem?_cons_zero, List.getElem?_cons_succ]; rfl)
          case hqx1 => exact fun _ _ _ h => h
          case hyx1 => (refine Or.inl ⟨by rfl, ?_⟩; intro w' hSw; (try dsimp only at hSw); go_simp; try with_reducible rfl)
          (try simp only [Act.put, List.setIfInBounds_toArray, List.set_cons_zero, List.set_cons_succ])
          refine' wpAnyT_take (i := 2) (oi := ?oix2) (v := ?vx2) ?hix2 (by kernel_rfl) (by kernel_rfl) ?hqx2 ?hyx2 hHeld ?restx2
          case hix2 => (simp only [List.getElem?_toArray, List.getElem?_cons_zero, List.getElem?_cons_succ]; rfl)
          case hqx2 => exact fun _ _ _ h => h
          case hyx2 => (refine Or.inl ⟨by rfl, ?_⟩; intro w' hSw; (try dsimp only at hSw); go_simp; try with_reducible rfl)
          (try simp only [Act.put, List.setIfInBounds_toArray, List.set_cons_zero, List.set_cons_succ])
          refine' wpAnyT_take (i := 3) (oi := ?oix3) (v := ?vx3) ?hix3 (by kernel_rfl) (by kernel_rfl) ?hqx3 ?hyx3 hHeld ?restx3
          case hix3 => (simp only [List.getElem?_toArray, List.getElem?_cons_zero, List.getElem?_cons_succ]; rfl)
          case hqx3 => exact fun _ _ _ h => h
          case hyx3 => (refine Or.inl ⟨by rfl, ?_⟩; intro w' hSw; (try dsimp only at hSw); go_simp; try with_reducible rfl)
          (try simp only [Act.put, List.setIfInBounds_toArray, List.set_cons_zero, List.set_cons_succ])
          refine' wpAnyT_take (i := 4) (oi := ?oix4) (v := ?vx4) ?hix4 (by kernel_rfl) (by kernel_rfl) ?hqx4 ?hyx4 hHeld ?restx4
          case hix4 => (simp only [List.getElem?_toArray, List.getElem?_cons_zero, List.getElem?_cons_succ]; rfl)
          case hqx4 => exact fun _ _ _ h => h
          case hyx4 => (refine Or.inl ⟨by rfl, ?_⟩; intro w' hSw; (try dsimp only at hSw); go_simp; try with_reducible rfl)
          (try simp only [Act.put, List.setIfInBounds_toArray, List.set_cons_zero, List.set_cons_succ])
          refine' wpAnyT_take (i := 5) (oi := ?oix5) (v := ?vx5) ?hix5 (by kernel_rfl) (by kernel_rfl) ?hqx5 ?hyx5 hHeld ?restx5
          case hix5 => (simp only [List.getElem?_toArray, List.getElem?_cons_zero, List.getElem?_cons_succ]; rfl)
          case hqx5 => exact fun _ _ _ h => h
          case hyx5 => (refine Or.inl ⟨by rfl, ?_⟩; intro w' hSw; (try dsimp only at hSw); go_simp; try with_reducible rfl)
          (try simp only [Act.put, List.setIfInBounds_toArray, List.set_cons_zero, List.set_cons_succ])
          refine' wpAnyT_take (i := 6) (oi := ?oix6) (v := ?vx6) ?hix6 (by kernel_rfl) (by kernel_rfl) ?hqx6 ?hyx6 hHeld ?restx6
          case hix6 => (simp only [List.getElem?_toArray, List.getElem?_cons_zero, List.getElem?_cons_succ]; rfl)
          case hqx6 => exact fun _ _ _ h => h
          case hyx6 => (refine Or.inl ⟨by rfl, ?_⟩; intro w' hSw; (try dsimp only at hSw); go_simp; try with_reducible rfl)
          (try simp only [Act.put, List.setIfInBounds_toArray, List.set_cons_zero, List.set_cons_succ])
          refine' wpAnyT_take (i := 7) (oi := ?oix7) (v := ?vx7) ?hix7 (by kernel_rfl) (by kernel_rfl) ?hqx7 ?hyx7 hHeld ?restx7
          case hix7 => (simp only [List.getElem?_toArray, List.getElem?_cons_zero, List.getElem?_cons_succ]; rfl)
          case hqx7 => exact fun _ _ _ h => h
          case hyx7 => (refine Or.inl ⟨by rfl, ?_⟩; intro w' hSw; (try dsimp only at hSw); go_simp; try with_reducible rfl)
          (try simp only [Act.put, List.setIfInBounds_toArray, List.set_cons_zero, List.set_cons_succ])
          refine' wpAnyT_one (i := 8) (o := ?oix8) (by kernel_rfl) ?hix8 (fun K hK => ?stx8)
          case hix8 => (simp only [List.getElem?_toArray, List.getElem?_cons_zero, List.getElem?_cons_succ]; rfl)
          go_simp
          go_at_call 36
          (with_reducible refine (HSM.out _).mono ?_)
          rintro _ X1 ⟨rfl, hb⟩
          have HB := hid (HB.out.trans (hb.mono HB.out.size))
          have hHeld := HK.out X1 HB.out
          clear hb
          refine hK.out _ _ (fun _ => hHeld) ?_
          clear hK K
          (try simp only [Act.put, List.setIfInBounds_toArray, List.set_cons_zero, List.set_cons_succ])
          refine' wpAnyT_one (i := 9) (o := ?oix9) (by kernel_rfl) ?hix9 (fun K hK => ?stx9)
          case hix9 => (simp only [List.getElem?_toArray, List.getElem?_cons_zero, List.getElem?_cons_succ]; rfl)
          go_simp
          refine hK.out _ _ (fun h => absurd h (by decide)) ?_
          clear hK K
          (try simp only [Act.put, List.setIfInBounds_toArray, List.set_cons_zero, List.set_cons_succ])
          refine wpAnyT_done (by kernel_rfl) ?_ _
          go_wp2_with fail
          go_roundw
          case rel => exact ⟨1, by omega, by go_num, HB⟩
          case measure => simp [RowKit.intOf]
        · obtain rfl : i = 1 := by omega
          go_wp2_with fail
          go_ret
          exact ⟨rfl, HB0.out⟩
end Go.Proofs.Ytkdladacmjkdoaa
