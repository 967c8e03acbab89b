/- Superblock: valid 47. -/
import Derived.Test.YtnocgfhcamnjdaaAh
namespace Go.Proofs.Ytnocgfhcamnjdaa
open Go.RowKit Go.Lib

theorem byt_of_own {w : World} {base : Nat} {u : Value} {p : List Nat} (h : w.ownsRow base 5 1 u p.length (p.map byteV)) (h8 : B8 p) : Byt w u p := by
  refine ⟨h8, own_nilOkE h, arr_of_own (E := 5) (n := p.length) (base := base) ?_ (by rw [List.length_map]) (fun r hr => by obtain ⟨x, _, rfl⟩ := List.mem_map.1 hr; rfl)⟩
  have e : (p.map fun x => [byteV x]).flatten = p.map byteV := by
    clear h h8
    induction p with
    | nil => rfl
    | cons a p ih => rw [List.map_cons, List.flatten_cons, ih]; rfl
  rw [e]
  exact h
theorem payL_b8 {c : List Nat} (h : B8 c) : B8 (payL c) := fun x hx => h x (List.mem_of_mem_drop (List.mem_of_mem_take hx))
theorem payL_le {c : List Nat} (h : c.length = 32) : (payL c).length ≤ 31 := by
  unfold payL
  rw [List.length_take, List.length_drop]
  omega
theorem exec_load {P : Program} {w : World} {o : Oper} {a : Act} (ty : TypeId) (x : Operand) (ho : o.op = .load ty x) (u v : Value) (hx : a.eval x = u) (hr : (Instr.loadAt ty u).run P w = .ok v w) : (execOp a.eval o).run P w = .ok (.value v) w := by
  unfold execOp
  simp only [ho, hx, hr, Result.andThen_ok, Sem.run_bind, Sem.run_pure]
set_option maxHeartbeats 4000000 in
set_option maxRecDepth 100000 in
theorem valid_any (C : List Nat) (w : World) (hC : C.length = 32) (h8 : B8 C) :
    Calls Try.prog 47 #[.agg (C.map byteV).toArray] w fun e w' => e = .returned (.bool (valB C)) ∧ Below w.heap.size w w' := by
  obtain ⟨m, hmm⟩ : ∃ m, C.getD 0 0 = m := ⟨_, rfl⟩
  have hc0 : C[0]? = some m := by
    rw [List.getElem?_eq_getElem (by omega), ← hmm, List.getD_eq_getElem?_getD, List.getElem?_eq_getElem (by omega)]
    rfl
  obtain ⟨CB, hCB⟩ : ∃ l, C.map byteV = l := ⟨_, rfl⟩
  obtain ⟨DB, hDB⟩ : ∃ l, (conL (payL C)).map byteV = l := ⟨_, rfl⟩
  have HLD : Hid (CB.length = 32) := hid (by rw [← hCB, List.length_map]; exact hC)
  have HEQ : Hid (∀ W, (Op.equalIn 10000 67 (.agg CB.toArray) (.agg DB.toArray)).run Try.prog W = .ok (decide (C = conL (payL C))) W) := hid (fun W => by
    have h := eql_bytes 67 32 Try.underlying67 C (conL (payL C)) h8 (conL_b8 (payL_le hC) (payL_b8 h8)) hC (conL_len (payL_le hC)) W
    have e : (C == conL (payL C)) = decide (C = conL (payL C)) := by rw [Bool.eq_iff_iff]; simp
    rw [e, hCB, hDB] at h
    exact h)
  have HV : Hid (valB C = (decide (m ≤ 31) && decide (C = conL (payL C)))) := hid (by unfold valB; rw [hmm])
  have HP27 : Hid (∀ u X, Byt X u (payL C) → Calls Try.prog 27 #[u] X fun e w' => e = .returned (.agg DB.toArray) ∧ Below X.heap.size X w') := hid (fun u X h => by
    have h := contentOf_any (payL C) u X h (payL_le hC)
    rw [hDB] at h
    exact h)
  have HP35 : Hid (m ≤ 31 → ∀ X, Calls Try.prog 35 #[.agg CB.toArray] X fun e w' => ∃ u, e = .returned u ∧ Hid (Byt w' u (payL C)) ∧ Below X.heap.size X w') := hid (fun hm X => by
    have h := payload_any C X hC h8 (by rw [hmm]; exact hm)
    rw [hCB] at h
    refine h.mono ?_
    rintro e w' ⟨u, he, ho, hb⟩
    exact ⟨u, he, hid (byt_of_own ho (payL_b8 h8)), hb⟩)
  obtain ⟨g, hg⟩ : ∃ g, w.heap.size = g := ⟨_, rfl⟩
  obtain ⟨W1, hW1⟩ : ∃ X, w.alloc (.cells CB.toArray 67) = X := ⟨_, rfl⟩
  have hb1 : Below w.heap.size w W1 := by rw [← hW1]; exact al1 _ _
  have hx1 : W1.heap[g]? = some (.cells CB.toArray 67) := by rw [← hW1, ← hg]; exact heap_alloc_new _ _
  have hgl : g < W1.heap.size := box_lt hx1
  have HK : Hid (∀ X, Below W1.heap.size W1 X → X.heap[g]? = some (.cells CB.toArray 67) ∧ X.cell? ⟨g, 0, none⟩ = some (.int .u8 (m : Int))) := hid (fun X hX => by
    have hx : X.heap[g]? = some (.cells CB.toArray 67) := (hX.block g hgl).trans hx1
    refine ⟨hx, ?_⟩
    rw [cell_of_row _ _ _ _ _ _ hx, List.getElem?_toArray, ← hCB, List.getElem?_map, hc0]
    rfl)
  have HB1 := hid hb1
  have HW1 := hid hW1
  have HG := hid hg
  rw [hCB]
  clear hb1 hx1 hW1 hg hc0 hmm hCB hDB hgl hC h8
  go_enter Try.func47, Try.ntmps47
  go_upto_region 1 with fail
  rw [HW1.out, HG.out]
  refine region_tail 10 (fun X => X.heap[g]? = some (.cells CB.toArray 67) ∧ X.cell? ⟨g, 0, none⟩ = some (.int .u8 (m : Int))) (by kernel_rfl) ?_
  obtain ⟨X0, hX0⟩ : ∃ X, W1.drew = X := ⟨_, rfl⟩
  have hBX0' : Below W1.heap.size W1 X0 := by rw [← hX0]; exact (Below.refl W1.heap.size W1).drew
  rw [hX0]
  clear hX0
  by_cases hm : m ≤ 31
  · have HP35 := hid (HP35.out hm)
    have d31 : decide ((m : Int) ≤ 31) = true := decide_eq_true (by omega)
    have hHeld := HK.out X0 hBX0'
    have hBX0 := hBX0'
    refine' wpAnyT_take (i := 0) (oi := ?oix0) (v := ?vx0) ?hix0 (by kernel_rfl) (by kernel_rfl) ?hqx0 ?hyx0 hHeld ?restx0
    case hix0 => (simp only [List.getElem?_toArray, List.getElem?_cons_zero]; rfl)
    case hqx0 => exact fun _ _ _ h => h
    case hyx0 => (refine Or.inl ⟨by rfl, ?_⟩; intro w' hSw; (try dsimp only at hSw); go_simp; try with_reducible rfl)
    (try simp only [Act.put, List.setIfInBounds_toArray, List.set_cons_zero, List.set_cons_succ])
    refine' wpAnyT_take (i := 1) (oi := ?oix1) (v := ?vx1) ?hix1 (by kernel_rfl) (by kernel_rfl) ?hqx1 ?hyx1 hHeld ?restx1
    case hix1 => (simp only [List.getElem?_toArray, List.getElem?_cons_zero, List.getElem?_cons_succ]; rfl)
    case hqx1 => exact fun _ _ _ h => h
    case hyx1 => (refine Or.inl ⟨by rfl, ?_⟩; intro w' hSw; (try dsimp only at hSw); go_simp; try with_reducible rfl)
    (try simp only [Act.put, List.setIfInBounds_toArray, List.set_cons_zero, List.set_cons_succ])
    refine' wpAnyT_take (i := 2) (oi := ?oix2) (v := ?vx2) ?hix2 (by kernel_rfl) (by kernel_rfl) ?hqx2 ?hyx2 hHeld ?restx2
    case hix2 => (simp only [List.getElem?_toArray, List.getElem?_cons_zero, List.getElem?_cons_succ]; rfl)
    case hqx2 => exact fun _ _ _ h => h
    case hyx2 => (refine Or.inl ⟨by rfl, ?_⟩; intro w' hSw; (try dsimp only at hSw); go_simp; try with_reducible rfl)
    (try simp only [Act.put, List.setIfInBounds_toArray, List.set_cons_zero, List.set_cons_succ])
    refine' wpAnyT_take (i := 3) (oi := ?oix3) (v := ?vx3) ?hix3 (by kernel_rfl) (by kernel_rfl) ?hqx3 ?hyx3 hHeld ?restx3
    case hix3 => (simp only [List.getElem?_toArray, List.getElem?_cons_zero, List.getElem?_cons_succ]; rfl)
    case hqx3 => exact fun _ _ _ h => h
    case hyx3 => (refine Or.inl ⟨by rfl, ?_⟩; intro w' hSw; (try dsimp only at hSw); go_simp; try with_reducible rfl)
    (try simp only [Act.put, List.setIfInBounds_toArray, List.set_cons_zero, List.set_cons_succ])
    refine' wpAnyT_take (i := 4) (oi := ?oix4) (v := ?vx4) ?hix4 (by kernel_rfl) (by kernel_rfl) ?hqx4 ?hyx4 hHeld ?restx4
    case hix4 => (simp only [List.getElem?_toArray, List.getElem?_cons_zero, List.getElem?_cons_succ]; rfl)
    case hqx4 => exact fun _ _ _ h => h
    case hyx4 => (refine Or.inl ⟨by rfl, ?_⟩; intro w' hSw; refine exec_load 67 (.tmp 1) ?_ (.pointer (some ⟨g, 0, none⟩)) (.agg CB.toArray) ?_ (run_loadAt67 w' g CB HLD.out hSw.1) <;> rfl)
    (try simp only [Act.put, List.setIfInBounds_toArray, List.set_cons_zero, List.set_cons_succ])
    refine' wpAnyT_take (i := 5) (oi := ?oix5) (v := ?vx5) ?hix5 (by kernel_rfl) (by kernel_rfl) ?hqx5 ?hyx5 hHeld ?restx5
    case hix5 => (simp only [List.getElem?_toArray, List.getElem?_cons_zero, List.getElem?_cons_succ]; rfl)
    case hqx5 => exact fun _ _ _ h => h
    case hyx5 => (refine Or.inl ⟨by rfl, ?_⟩; intro w' hSw; refine exec_load 67 (.tmp 1) ?_ (.pointer (some ⟨g, 0, none⟩)) (.agg CB.toArray) ?_ (run_loadAt67 w' g CB HLD.out hSw.1) <;> rfl)
    (try simp only [Act.put, List.setIfInBounds_toArray, List.set_cons_zero, List.set_cons_succ])
    refine' wpAnyT_one (i := 6) (o := ?oix6) (by kernel_rfl) ?hix6 (fun K hK => ?stx6)
    case hix6 => (simp only [List.getElem?_toArray, List.getElem?_cons_zero, List.getElem?_cons_succ]; rfl)
    go_simp
    go_at_call 35
    refine (HP35.out X0).mono ?_
    rintro e X1 ⟨u, rfl, HBY, hbx⟩
    have hBX1 : Below W1.heap.size W1 X1 := hBX0.trans (hbx.mono hBX0.size)
    clear hHeld hbx
    have hHeld := HK.out X1 hBX1
    refine hK.out _ _ (fun _ => hHeld) ?_
    clear hK K
    (try simp only [Act.put, List.setIfInBounds_toArray, List.set_cons_zero, List.set_cons_succ])
    refine' wpAnyT_one (i := 7) (o := ?oix7) (by kernel_rfl) ?hix7 (fun K hK => ?stx7)
    case hix7 => (simp only [List.getElem?_toArray, List.getElem?_cons_zero, List.getElem?_cons_succ]; rfl)
    go_simp
    go_at_call 27
    refine (HP27.out u X1 HBY.out).mono ?_
    rintro e X2 ⟨rfl, hbx⟩
    have hBX2 : Below W1.heap.size W1 X2 := hBX1.trans (hbx.mono hBX1.size)
    clear hHeld hbx
    have hHeld := HK.out X2 hBX2
    have heq := HEQ.out
    refine hK.out _ _ (fun _ => hHeld) ?_
    clear hK K
    (try simp only [Act.put, List.setIfInBounds_toArray, List.set_cons_zero, List.set_cons_succ])
    refine' wpAnyT_take (i := 8) (oi := ?oix8) (v := ?vx8) ?hix8 (by kernel_rfl) (by kernel_rfl) ?hqx8 ?hyx8 hHeld ?restx8
    case hix8 => (simp only [List.getElem?_toArray, List.getElem?_cons_zero, List.getElem?_cons_succ]; rfl)
    case hqx8 => exact fun _ _ _ h => h
    case hyx8 => (refine Or.inl ⟨by rfl, ?_⟩; intro w' hSw; (try dsimp only at hSw); go_simp; try with_reducible rfl)
    (try simp only [Act.put, List.setIfInBounds_toArray, List.set_cons_zero, List.set_cons_succ])
    refine' wpAnyT_take (i := 9) (oi := ?oix9) (v := ?vx9) ?hix9 (by kernel_rfl) (by kernel_rfl) ?hqx9 ?hyx9 hHeld ?restx9
    case hix9 => (simp only [List.getElem?_toArray, List.getElem?_cons_zero, List.getElem?_cons_succ]; rfl)
    case hqx9 => exact fun _ _ _ h => h
    case hyx9 => (refine Or.inl ⟨by rfl, ?_⟩; intro w' hSw; (try dsimp only at hSw); go_simp; try with_reducible rfl)
    (try simp only [Act.put, List.setIfInBounds_toArray, List.set_cons_zero, List.set_cons_succ])
    refine' wpAnyT_one (i := 10) (o := ?oix10) (by kernel_rfl) ?hix10 (fun K hK => ?stx10)
    case hix10 => (simp only [List.getElem?_toArray, List.getElem?_cons_zero, List.getElem?_cons_succ]; rfl)
    go_simp
    refine hK.out _ _ (fun h => absurd h (by decide)) ?_
    clear hK K
    (try simp only [Act.put, List.setIfInBounds_toArray, List.set_cons_zero, List.set_cons_succ])
    refine wpAnyT_done (by kernel_rfl) ?_ _
    go_wp2_with fail
    go_ret
    refine ⟨by rw [HV.out, decide_eq_true (p := m ≤ 31) hm]; rfl, HB1.out.trans (hBX2.mono HB1.out.size)⟩
  · have d31 : decide ((m : Int) ≤ 31) = false := decide_eq_false (by omega)
    have hHeld := HK.out X0 hBX0'
    refine' wpAnyT_take (i := 0) (oi := ?oiy0) (v := ?vy0) ?hiy0 (by kernel_rfl) (by kernel_rfl) ?hqy0 ?hyy0 hHeld ?resty0
    case hiy0 => (simp only [List.getElem?_toArray, List.getElem?_cons_zero]; rfl)
    case hqy0 => exact fun _ _ _ h => h
    case hyy0 => (refine Or.inl ⟨by rfl, ?_⟩; intro w' hSw; (try dsimp only at hSw); go_simp; try with_reducible rfl)
    (try simp only [Act.put, List.setIfInBounds_toArray, List.set_cons_zero, List.set_cons_succ])
    refine' wpAnyT_take (i := 1) (oi := ?oiy1) (v := ?vy1) ?hiy1 (by kernel_rfl) (by kernel_rfl) ?hqy1 ?hyy1 hHeld ?resty1
    case hiy1 => (simp only [List.getElem?_toArray, List.getElem?_cons_zero, List.getElem?_cons_succ]; rfl)
    case hqy1 => exact fun _ _ _ h => h
    case hyy1 => (refine Or.inl ⟨by rfl, ?_⟩; intro w' hSw; (try dsimp only at hSw); go_simp; try with_reducible rfl)
    (try simp only [Act.put, List.setIfInBounds_toArray, List.set_cons_zero, List.set_cons_succ])
    refine' wpAnyT_take (i := 2) (oi := ?oiy2) (v := ?vy2) ?hiy2 (by kernel_rfl) (by kernel_rfl) ?hqy2 ?hyy2 hHeld ?resty2
    case hiy2 => (simp only [List.getElem?_toArray, List.getElem?_cons_zero, List.getElem?_cons_succ]; rfl)
    case hqy2 => exact fun _ _ _ h => h
    case hyy2 => (refine Or.inl ⟨by rfl, ?_⟩; intro w' hSw; (try dsimp only at hSw); go_simp; try with_reducible rfl)
    (try simp only [Act.put, List.setIfInBounds_toArray, List.set_cons_zero, List.set_cons_succ])
    refine' wpAnyT_take (i := 3) (oi := ?oiy3) (v := ?vy3) ?hiy3 (by kernel_rfl) (by kernel_rfl) ?hqy3 ?hyy3 hHeld ?resty3
    case hiy3 => (simp only [List.getElem?_toArray, List.getElem?_cons_zero, List.getElem?_cons_succ]; rfl)
    case hqy3 => exact fun _ _ _ h => h
    case hyy3 => (refine Or.inl ⟨by rfl, ?_⟩; intro w' hSw; (try dsimp only at hSw); go_simp; try with_reducible rfl)
    (try simp only [Act.put, List.setIfInBounds_toArray, List.set_cons_zero, List.set_cons_succ])
    refine' wpAnyT_take (i := 4) (oi := ?oiy4) (v := undef) ?hiy4 (by kernel_rfl) (by kernel_rfl) ?hqy4 ?hyy4 hHeld ?resty4
    case hiy4 => (simp only [List.getElem?_toArray, List.getElem?_cons_zero, List.getElem?_cons_succ]; rfl)
    case hqy4 => exact fun _ _ _ h => h
    case hyy4 => exact Or.inr ⟨by rfl, rfl⟩
    (try simp only [Act.put, List.setIfInBounds_toArray, List.set_cons_zero, List.set_cons_succ])
    refine' wpAnyT_take (i := 5) (oi := ?oiy5) (v := undef) ?hiy5 (by kernel_rfl) (by kernel_rfl) ?hqy5 ?hyy5 hHeld ?resty5
    case hiy5 => (simp only [List.getElem?_toArray, List.getElem?_cons_zero, List.getElem?_cons_succ]; rfl)
    case hqy5 => exact fun _ _ _ h => h
    case hyy5 => exact Or.inr ⟨by rfl, rfl⟩
    (try simp only [Act.put, List.setIfInBounds_toArray, List.set_cons_zero, List.set_cons_succ])
    refine' wpAnyT_take (i := 6) (oi := ?oiy6) (v := undef) ?hiy6 (by kernel_rfl) (by kernel_rfl) ?hqy6 ?hyy6 hHeld ?resty6
    case hiy6 => (simp only [List.getElem?_toArray, List.getElem?_cons_zero, List.getElem?_cons_succ]; rfl)
    case hqy6 => exact fun _ _ _ h => h
    case hyy6 => exact Or.inr ⟨by rfl, rfl⟩
    (try simp only [Act.put, List.setIfInBounds_toArray, List.set_cons_zero, List.set_cons_succ])
    refine' wpAnyT_take (i := 7) (oi := ?oiy7) (v := undef) ?hiy7 (by kernel_rfl) (by kernel_rfl) ?hqy7 ?hyy7 hHeld ?resty7
    case hiy7 => (simp only [List.getElem?_toArray, List.getElem?_cons_zero, List.getElem?_cons_succ]; rfl)
    case hqy7 => exact fun _ _ _ h => h
    case hyy7 => exact Or.inr ⟨by rfl, rfl⟩
    (try simp only [Act.put, List.setIfInBounds_toArray, List.set_cons_zero, List.set_cons_succ])
    refine' wpAnyT_take (i := 8) (oi := ?oiy8) (v := undef) ?hiy8 (by kernel_rfl) (by kernel_rfl) ?hqy8 ?hyy8 hHeld ?resty8
    case hiy8 => (simp only [List.getElem?_toArray, List.getElem?_cons_zero, List.getElem?_cons_succ]; rfl)
    case hqy8 => exact fun _ _ _ h => h
    case hyy8 => exact Or.inr ⟨by rfl, rfl⟩
    (try simp only [Act.put, List.setIfInBounds_toArray, List.set_cons_zero, List.set_cons_succ])
    refine' wpAnyT_take (i := 9) (oi := ?oiy9) (v := ?vy9) ?hiy9 (by kernel_rfl) (by kernel_rfl) ?hqy9 ?hyy9 hHeld ?resty9
    case hiy9 => (simp only [List.getElem?_toArray, List.getElem?_cons_zero, List.getElem?_cons_succ]; rfl)
    case hqy9 => exact fun _ _ _ h => h
    case hyy9 => (refine Or.inl ⟨by rfl, ?_⟩; intro w' hSw; (try dsimp only at hSw); go_simp; try with_reducible rfl)
    (try simp only [Act.put, List.setIfInBounds_toArray, List.set_cons_zero, List.set_cons_succ])
    refine' wpAnyT_one (i := 10) (o := ?oiy10) (by kernel_rfl) ?hiy10 (fun K hK => ?sty10)
    case hiy10 => (simp only [List.getElem?_toArray, List.getElem?_cons_zero, List.getElem?_cons_succ]; rfl)
    go_simp
    refine hK.out _ _ (fun h => absurd h (by decide)) ?_
    clear hK K
    (try simp only [Act.put, List.setIfInBounds_toArray, List.set_cons_zero, List.set_cons_succ])
    refine wpAnyT_done (by kernel_rfl) ?_ _
    go_wp2_with fail
    go_ret
    refine ⟨by rw [HV.out, decide_eq_false (p := m ≤ 31) hm]; rfl, HB1.out.trans (hBX0'.mono HB1.out.size)⟩
end Go.Proofs.Ytnocgfhcamnjdaa
