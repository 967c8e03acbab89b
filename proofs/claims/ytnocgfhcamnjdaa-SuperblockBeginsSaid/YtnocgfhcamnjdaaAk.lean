/- Superblock: SameOps 13 of operations that are the same. -/
import Derived.Test.YtnocgfhcamnjdaaAj
namespace Go.Proofs.Ytnocgfhcamnjdaa
open Go.RowKit Go.Lib

/-- What SameOps looks at. -/
def opC (x : OpT) : Int × Int × List Sect := (x.k, x.a, x.l)
set_option maxHeartbeats 4000000 in
set_option maxRecDepth 100000 in
theorem sameOps_eq (l l' : List OpT) (v u : Value) (w : World) (h1 : OpsA w v l) (h2 : OpsA w u l') (he : l.map opC = l'.map opC) (hl : l.length ≤ 1000000) :
    Calls Try.prog 13 #[v, u] w (TrueQ w) := by
  have hll : l'.length = l.length := by have := congrArg List.length he; rw [List.length_map, List.length_map] at this; exact this.symm
  obtain ⟨A, c, rfl⟩ := ops_form h1
  obtain ⟨B, d, rfl⟩ := ops_form h2
  rw [hll] at h2 ⊢
  obtain ⟨n, hn⟩ : ∃ n, l.length = n := ⟨_, rfl⟩
  rw [hn] at h1 h2 hl hll ⊢
  have H1 := hid h1
  have H2 := hid h2
  have HE := hid he
  have HN := hid hn
  have HN2 := hid hll
  have dnn : ((n : Int) != (n : Int)) = false := by simp
  clear h1 h2 he hn hll
  go_enter Try.func13, Try.ntmps13
  go_upto_region 4 with fail
  clear dnn
  go_loopw [5] (fun iv wr => ∃ i : Nat, i ≤ n ∧ iv = .int .i64 (i : Int) ∧ Hid (Below w.heap.size w wr)) (fun iv _ => n - (Go.RowKit.intOf iv).toNat)
  case atStart => exact ⟨0, Nat.zero_le _, rfl, hid (Below.refl _ _)⟩
  case round =>
    obtain ⟨i, hi, rfl, HB⟩ := hrel
    by_cases hin : i < n
    · have d0 : decide ((i : Int) < (n : Int)) = true := decide_eq_true (by omega)
      have hin' : (i : Int) < (n : Int) := by omega
      have hv := H1.out.below HB.out
      have hu := H2.out.below HB.out
      obtain ⟨b, off, rfl, hbl, hc⟩ := ops_at hv (by rw [HN.out]; omega)
      obtain ⟨b', off', rfl, hbl', hc'⟩ := ops_at hu (by rw [HN2.out]; omega)
      obtain ⟨x, hx⟩ : ∃ s, l[i]? = some s := ⟨l[i]'(by rw [HN.out]; exact hin), List.getElem?_eq_getElem _⟩
      obtain ⟨y, hy⟩ : ∃ s, l'[i]? = some s := ⟨l'[i]'(by rw [HN2.out]; exact hin), List.getElem?_eq_getElem _⟩
      have hxy : opC x = opC y := by
        have h := congrArg (fun z => z[i]?) HE.out
        have h : (l.map opC)[i]? = (l'.map opC)[i]? := h
        rw [List.getElem?_map, List.getElem?_map, hx, hy] at h
        injection h
      have hxs := hv.1 x (List.mem_of_getElem? hx)
      have hys := hu.1 y (List.mem_of_getElem? hy)
      obtain ⟨k, a, dv, dl⟩ := x
      obtain ⟨k', a', dv', dl'⟩ := y
      unfold opC at hxy
      injection hxy with e1 e2
      injection e2 with e2 e3
      dsimp only at e1 e2 e3
      subst e1 e2 e3
      dsimp only at hxs hys
      have q0 := hc i _ hx 0 (.int .i64 k) rfl
      have q1 := hc i _ hx 1 (.int .i64 a) rfl
      have q2 := hc i _ hx 2 dv rfl
      have r0 := hc' i _ hy 0 (.int .i64 k) rfl
      have r1 := hc' i _ hy 1 (.int .i64 a) rfl
      have r2 := hc' i _ hy 2 dv' rfl
      rw [Nat.add_zero] at q0 r0
      have HSS := hid (fun X (hX : Below wr.heap.size wr X) => (by
        have h := eqSame_any dl dl _ _ X (hxs.1.2.below hX) (hys.1.2.below hX) hxs.1.1 hys.1.1
        rw [decide_eq_true rfl] at h
        exact h : Calls Try.prog 32 #[dv, dv'] X (SaysQ true X)))
      have f1 : (k != k) = false := by simp
      have f2 : (a != a) = false := by simp
      have HK := hid (fun (X : World) (hX : Below wr.heap.size wr X) => (show X.cell? ⟨b, off + i * 3, none⟩ = some (.int .i64 k) ∧ X.cell? ⟨b, off + i * 3 + 1, none⟩ = some (.int .i64 a) ∧ X.cell? ⟨b, off + i * 3 + 2, none⟩ = some dv ∧ X.cell? ⟨b', off' + i * 3, none⟩ = some (.int .i64 k) ∧ X.cell? ⟨b', off' + i * 3 + 1, none⟩ = some (.int .i64 a) ∧ X.cell? ⟨b', off' + i * 3 + 2, none⟩ = some dv' from (by
        have cc := fun (t : Nat) (u : Value) (hu : (cOp ⟨k, a, dv, dl⟩)[t]? = some u) => (by
          have h := hc i _ hx t u hu
          unfold World.cell? at h ⊢
          rw [hX.block b hbl]
          exact h : X.cell? ⟨b, off + i * 3 + t, none⟩ = some u)
        have cc' := fun (t : Nat) (u : Value) (hu : (cOp ⟨k, a, dv', dl⟩)[t]? = some u) => (by
          have h := hc' i _ hy t u hu
          unfold World.cell? at h ⊢
          rw [hX.block b' hbl']
          exact h : X.cell? ⟨b', off' + i * 3 + t, none⟩ = some u)
        exact ⟨cc 0 _ rfl, cc 1 _ rfl, cc 2 _ rfl, cc' 0 _ rfl, cc' 1 _ rfl, cc' 2 _ rfl⟩)))
      clear hv hu hc hc' hx hy hxs hys q0 q1 q2 r0 r1 r2 hbl hbl'
      go_upto_region 6 with fail
      refine region_tail 37 (fun X => X.cell? ⟨b, off + i * 3, none⟩ = some (.int .i64 k) ∧ X.cell? ⟨b, off + i * 3 + 1, none⟩ = some (.int .i64 a) ∧ X.cell? ⟨b, off + i * 3 + 2, none⟩ = some dv ∧ X.cell? ⟨b', off' + i * 3, none⟩ = some (.int .i64 k) ∧ X.cell? ⟨b', off' + i * 3 + 1, none⟩ = some (.int .i64 a) ∧ X.cell? ⟨b', off' + i * 3 + 2, none⟩ = some dv') (by kernel_rfl) ?_
      obtain ⟨X0, hX0⟩ : ∃ X, wr.drew = X := ⟨_, rfl⟩
      have hBX0 : Below wr.heap.size wr X0 := by rw [← hX0]; exact (Below.refl wr.heap.size wr).drew
      have hHeld := HK.out X0 hBX0
      rw [hX0]
      clear hX0
      refine' wpAnyT_take (i := 0) (oi := ?oix0) (v := ?vx0) ?hix0 (by kernel_rfl) (by kernel_rfl) ?hqx0 ?hyx0 hHeld ?restx0
      case hix0 => (simp only [List.getElem?_toArray, List.getElem?_cons_zero]; rfl)
      case hqx0 => exact fun _ _ _ h => h
      case hyx0 => (refine Or.inl ⟨by rfl, ?_⟩; intro w' hSw; (try dsimp only at hSw); go_simp; try with_reducible rfl)
      (try simp only [Act.put, List.setIfInBounds_toArray, List.set_cons_zero, List.set_cons_succ])
      refine' wpAnyT_take (i := 1) (oi := ?oix1) (v := ?vx1) ?hix1 (by kernel_rfl) (by kernel_rfl) ?hqx1 ?hyx1 hHeld ?restx1
      case hix1 => (simp only [List.getElem?_toArray, List.getElem?_cons_zero, List.getElem?_cons_succ]; rfl)
      case hqx1 => exact fun _ _ _ h => h
      case hyx1 => (refine Or.inl ⟨by rfl, ?_⟩; intro w' hSw; (try dsimp only at hSw); go_simp; try with_reducible rfl)
      (try simp only [Act.put, List.setIfInBounds_toArray, List.set_cons_zero, List.set_cons_succ])
      refine' wpAnyT_take (i := 2) (oi := ?oix2) (v := ?vx2) ?hix2 (by kernel_rfl) (by kernel_rfl) ?hqx2 ?hyx2 hHeld ?restx2
      case hix2 => (simp only [List.getElem?_toArray, List.getElem?_cons_zero, List.getElem?_cons_succ]; rfl)
      case hqx2 => exact fun _ _ _ h => h
      case hyx2 => (refine Or.inl ⟨by rfl, ?_⟩; intro w' hSw; (try dsimp only at hSw); go_simp; try with_reducible rfl)
      (try simp only [Act.put, List.setIfInBounds_toArray, List.set_cons_zero, List.set_cons_succ])
      refine' wpAnyT_take (i := 3) (oi := ?oix3) (v := ?vx3) ?hix3 (by kernel_rfl) (by kernel_rfl) ?hqx3 ?hyx3 hHeld ?restx3
      case hix3 => (simp only [List.getElem?_toArray, List.getElem?_cons_zero, List.getElem?_cons_succ]; rfl)
      case hqx3 => exact fun _ _ _ h => h
      case hyx3 => (refine Or.inl ⟨by rfl, ?_⟩; intro w' hSw; (try dsimp only at hSw); go_simp; try with_reducible rfl)
      (try simp only [Act.put, List.setIfInBounds_toArray, List.set_cons_zero, List.set_cons_succ])
      refine' wpAnyT_take (i := 4) (oi := ?oix4) (v := ?vx4) ?hix4 (by kernel_rfl) (by kernel_rfl) ?hqx4 ?hyx4 hHeld ?restx4
      case hix4 => (simp only [List.getElem?_toArray, List.getElem?_cons_zero, List.getElem?_cons_succ]; rfl)
      case hqx4 => exact fun _ _ _ h => h
      case hyx4 => (refine Or.inl ⟨by rfl, ?_⟩; intro w' hSw; (try dsimp only at hSw); go_simp; try with_reducible rfl)
      (try simp only [Act.put, List.setIfInBounds_toArray, List.set_cons_zero, List.set_cons_succ])
      refine' wpAnyT_take (i := 5) (oi := ?oix5) (v := ?vx5) ?hix5 (by kernel_rfl) (by kernel_rfl) ?hqx5 ?hyx5 hHeld ?restx5
      case hix5 => (simp only [List.getElem?_toArray, List.getElem?_cons_zero, List.getElem?_cons_succ]; rfl)
      case hqx5 => exact fun _ _ _ h => h
      case hyx5 => (refine Or.inl ⟨by rfl, ?_⟩; intro w' hSw; (try dsimp only at hSw); go_simp; try with_reducible rfl)
      (try simp only [Act.put, List.setIfInBounds_toArray, List.set_cons_zero, List.set_cons_succ])
      refine' wpAnyT_take (i := 6) (oi := ?oix6) (v := ?vx6) ?hix6 (by kernel_rfl) (by kernel_rfl) ?hqx6 ?hyx6 hHeld ?restx6
      case hix6 => (simp only [List.getElem?_toArray, List.getElem?_cons_zero, List.getElem?_cons_succ]; rfl)
      case hqx6 => exact fun _ _ _ h => h
      case hyx6 => (refine Or.inl ⟨by rfl, ?_⟩; intro w' hSw; (try dsimp only at hSw); go_simp; try with_reducible rfl)
      (try simp only [Act.put, List.setIfInBounds_toArray, List.set_cons_zero, List.set_cons_succ])
      refine' wpAnyT_take (i := 7) (oi := ?oix7) (v := ?vx7) ?hix7 (by kernel_rfl) (by kernel_rfl) ?hqx7 ?hyx7 hHeld ?restx7
      case hix7 => (simp only [List.getElem?_toArray, List.getElem?_cons_zero, List.getElem?_cons_succ]; rfl)
      case hqx7 => exact fun _ _ _ h => h
      case hyx7 => (refine Or.inl ⟨by rfl, ?_⟩; intro w' hSw; (try dsimp only at hSw); go_simp; try with_reducible rfl)
      (try simp only [Act.put, List.setIfInBounds_toArray, List.set_cons_zero, List.set_cons_succ])
      refine' wpAnyT_take (i := 8) (oi := ?oix8) (v := ?vx8) ?hix8 (by kernel_rfl) (by kernel_rfl) ?hqx8 ?hyx8 hHeld ?restx8
      case hix8 => (simp only [List.getElem?_toArray, List.getElem?_cons_zero, List.getElem?_cons_succ]; rfl)
      case hqx8 => exact fun _ _ _ h => h
      case hyx8 => (refine Or.inl ⟨by rfl, ?_⟩; intro w' hSw; (try dsimp only at hSw); go_simp; try with_reducible rfl)
      (try simp only [Act.put, List.setIfInBounds_toArray, List.set_cons_zero, List.set_cons_succ])
      refine' wpAnyT_take (i := 9) (oi := ?oix9) (v := ?vx9) ?hix9 (by kernel_rfl) (by kernel_rfl) ?hqx9 ?hyx9 hHeld ?restx9
      case hix9 => (simp only [List.getElem?_toArray, List.getElem?_cons_zero, List.getElem?_cons_succ]; rfl)
      case hqx9 => exact fun _ _ _ h => h
      case hyx9 => (refine Or.inl ⟨by rfl, ?_⟩; intro w' hSw; (try dsimp only at hSw); go_simp; try with_reducible rfl)
      (try simp only [Act.put, List.setIfInBounds_toArray, List.set_cons_zero, List.set_cons_succ])
      refine' wpAnyT_take (i := 10) (oi := ?oix10) (v := ?vx10) ?hix10 (by kernel_rfl) (by kernel_rfl) ?hqx10 ?hyx10 hHeld ?restx10
      case hix10 => (simp only [List.getElem?_toArray, List.getElem?_cons_zero, List.getElem?_cons_succ]; rfl)
      case hqx10 => exact fun _ _ _ h => h
      case hyx10 => (refine Or.inl ⟨by rfl, ?_⟩; intro w' hSw; (try dsimp only at hSw); go_simp; try with_reducible rfl)
      (try simp only [Act.put, List.setIfInBounds_toArray, List.set_cons_zero, List.set_cons_succ])
      refine' wpAnyT_take (i := 11) (oi := ?oix11) (v := ?vx11) ?hix11 (by kernel_rfl) (by kernel_rfl) ?hqx11 ?hyx11 hHeld ?restx11
      case hix11 => (simp only [List.getElem?_toArray, List.getElem?_cons_zero, List.getElem?_cons_succ]; rfl)
      case hqx11 => exact fun _ _ _ h => h
      case hyx11 => (refine Or.inl ⟨by rfl, ?_⟩; intro w' hSw; (try dsimp only at hSw); go_simp; try with_reducible rfl)
      (try simp only [Act.put, List.setIfInBounds_toArray, List.set_cons_zero, List.set_cons_succ])
      refine' wpAnyT_take (i := 12) (oi := ?oix12) (v := ?vx12) ?hix12 (by kernel_rfl) (by kernel_rfl) ?hqx12 ?hyx12 hHeld ?restx12
      case hix12 => (simp only [List.getElem?_toArray, List.getElem?_cons_zero, List.getElem?_cons_succ]; rfl)
      case hqx12 => exact fun _ _ _ h => h
      case hyx12 => (refine Or.inl ⟨by rfl, ?_⟩; intro w' hSw; (try dsimp only at hSw); go_simp; try with_reducible rfl)
      (try simp only [Act.put, List.setIfInBounds_toArray, List.set_cons_zero, List.set_cons_succ])
      refine' wpAnyT_take (i := 13) (oi := ?oix13) (v := ?vx13) ?hix13 (by kernel_rfl) (by kernel_rfl) ?hqx13 ?hyx13 hHeld ?restx13
      case hix13 => (simp only [List.getElem?_toArray, List.getElem?_cons_zero, List.getElem?_cons_succ]; rfl)
      case hqx13 => exact fun _ _ _ h => h
      case hyx13 => (refine Or.inl ⟨by rfl, ?_⟩; intro w' hSw; (try dsimp only at hSw); go_simp; try with_reducible rfl)
      (try simp only [Act.put, List.setIfInBounds_toArray, List.set_cons_zero, List.set_cons_succ])
      refine' wpAnyT_take (i := 14) (oi := ?oix14) (v := ?vx14) ?hix14 (by kernel_rfl) (by kernel_rfl) ?hqx14 ?hyx14 hHeld ?restx14
      case hix14 => (simp only [List.getElem?_toArray, List.getElem?_cons_zero, List.getElem?_cons_succ]; rfl)
      case hqx14 => exact fun _ _ _ h => h
      case hyx14 => (refine Or.inl ⟨by rfl, ?_⟩; intro w' hSw; (try dsimp only at hSw); go_simp; try with_reducible rfl)
      (try simp only [Act.put, List.setIfInBounds_toArray, List.set_cons_zero, List.set_cons_succ])
      refine' wpAnyT_take (i := 15) (oi := ?oix15) (v := ?vx15) ?hix15 (by kernel_rfl) (by kernel_rfl) ?hqx15 ?hyx15 hHeld ?restx15
      case hix15 => (simp only [List.getElem?_toArray, List.getElem?_cons_zero, List.getElem?_cons_succ]; rfl)
      case hqx15 => exact fun _ _ _ h => h
      case hyx15 => (refine Or.inl ⟨by rfl, ?_⟩; intro w' hSw; (try dsimp only at hSw); go_simp; try with_reducible rfl)
      (try simp only [Act.put, List.setIfInBounds_toArray, List.set_cons_zero, List.set_cons_succ])
      refine' wpAnyT_take (i := 16) (oi := ?oix16) (v := ?vx16) ?hix16 (by kernel_rfl) (by kernel_rfl) ?hqx16 ?hyx16 hHeld ?restx16
      case hix16 => (simp only [List.getElem?_toArray, List.getElem?_cons_zero, List.getElem?_cons_succ]; rfl)
      case hqx16 => exact fun _ _ _ h => h
      case hyx16 => (refine Or.inl ⟨by rfl, ?_⟩; intro w' hSw; (try dsimp only at hSw); go_simp; try with_reducible rfl)
      (try simp only [Act.put, List.setIfInBounds_toArray, List.set_cons_zero, List.set_cons_succ])
      refine' wpAnyT_take (i := 17) (oi := ?oix17) (v := ?vx17) ?hix17 (by kernel_rfl) (by kernel_rfl) ?hqx17 ?hyx17 hHeld ?restx17
      case hix17 => (simp only [List.getElem?_toArray, List.getElem?_cons_zero, List.getElem?_cons_succ]; rfl)
      case hqx17 => exact fun _ _ _ h => h
      case hyx17 => (refine Or.inl ⟨by rfl, ?_⟩; intro w' hSw; (try dsimp only at hSw); go_simp; try with_reducible rfl)
      (try simp only [Act.put, List.setIfInBounds_toArray, List.set_cons_zero, List.set_cons_succ])
      refine' wpAnyT_take (i := 18) (oi := ?oix18) (v := ?vx18) ?hix18 (by kernel_rfl) (by kernel_rfl) ?hqx18 ?hyx18 hHeld ?restx18
      case hix18 => (simp only [List.getElem?_toArray, List.getElem?_cons_zero, List.getElem?_cons_succ]; rfl)
      case hqx18 => exact fun _ _ _ h => h
      case hyx18 => (refine Or.inl ⟨by rfl, ?_⟩; intro w' hSw; (try dsimp only at hSw); go_simp; try with_reducible rfl)
      (try simp only [Act.put, List.setIfInBounds_toArray, List.set_cons_zero, List.set_cons_succ])
      refine' wpAnyT_take (i := 19) (oi := ?oix19) (v := ?vx19) ?hix19 (by kernel_rfl) (by kernel_rfl) ?hqx19 ?hyx19 hHeld ?restx19
      case hix19 => (simp only [List.getElem?_toArray, List.getElem?_cons_zero, List.getElem?_cons_succ]; rfl)
      case hqx19 => exact fun _ _ _ h => h
      case hyx19 => (refine Or.inl ⟨by rfl, ?_⟩; intro w' hSw; (try dsimp only at hSw); go_simp; try with_reducible rfl)
      (try simp only [Act.put, List.setIfInBounds_toArray, List.set_cons_zero, List.set_cons_succ])
      refine' wpAnyT_take (i := 20) (oi := ?oix20) (v := ?vx20) ?hix20 (by kernel_rfl) (by kernel_rfl) ?hqx20 ?hyx20 hHeld ?restx20
      case hix20 => (simp only [List.getElem?_toArray, List.getElem?_cons_zero, List.getElem?_cons_succ]; rfl)
      case hqx20 => exact fun _ _ _ h => h
      case hyx20 => (refine Or.inl ⟨by rfl, ?_⟩; intro w' hSw; (try dsimp only at hSw); go_simp; try with_reducible rfl)
      (try simp only [Act.put, List.setIfInBounds_toArray, List.set_cons_zero, List.set_cons_succ])
      refine' wpAnyT_take (i := 21) (oi := ?oix21) (v := ?vx21) ?hix21 (by kernel_rfl) (by kernel_rfl) ?hqx21 ?hyx21 hHeld ?restx21
      case hix21 => (simp only [List.getElem?_toArray, List.getElem?_cons_zero, List.getElem?_cons_succ]; rfl)
      case hqx21 => exact fun _ _ _ h => h
      case hyx21 => (refine Or.inl ⟨by rfl, ?_⟩; intro w' hSw; (try dsimp only at hSw); go_simp; try with_reducible rfl)
      (try simp only [Act.put, List.setIfInBounds_toArray, List.set_cons_zero, List.set_cons_succ])
      refine' wpAnyT_take (i := 22) (oi := ?oix22) (v := ?vx22) ?hix22 (by kernel_rfl) (by kernel_rfl) ?hqx22 ?hyx22 hHeld ?restx22
      case hix22 => (simp only [List.getElem?_toArray, List.getElem?_cons_zero, List.getElem?_cons_succ]; rfl)
      case hqx22 => exact fun _ _ _ h => h
      case hyx22 => (refine Or.inl ⟨by rfl, ?_⟩; intro w' hSw; (try dsimp only at hSw); go_simp; try with_reducible rfl)
      (try simp only [Act.put, List.setIfInBounds_toArray, List.set_cons_zero, List.set_cons_succ])
      refine' wpAnyT_take (i := 23) (oi := ?oix23) (v := ?vx23) ?hix23 (by kernel_rfl) (by kernel_rfl) ?hqx23 ?hyx23 hHeld ?restx23
      case hix23 => (simp only [List.getElem?_toArray, List.getElem?_cons_zero, List.getElem?_cons_succ]; rfl)
      case hqx23 => exact fun _ _ _ h => h
      case hyx23 => (refine Or.inl ⟨by rfl, ?_⟩; intro w' hSw; (try dsimp only at hSw); go_simp; try with_reducible rfl)
      (try simp only [Act.put, List.setIfInBounds_toArray, List.set_cons_zero, List.set_cons_succ])
      refine' wpAnyT_take (i := 24) (oi := ?oix24) (v := ?vx24) ?hix24 (by kernel_rfl) (by kernel_rfl) ?hqx24 ?hyx24 hHeld ?restx24
      case hix24 => (simp only [List.getElem?_toArray, List.getElem?_cons_zero, List.getElem?_cons_succ]; rfl)
      case hqx24 => exact fun _ _ _ h => h
      case hyx24 => (refine Or.inl ⟨by rfl, ?_⟩; intro w' hSw; (try dsimp only at hSw); go_simp; try with_reducible rfl)
      (try simp only [Act.put, List.setIfInBounds_toArray, List.set_cons_zero, List.set_cons_succ])
      refine' wpAnyT_take (i := 25) (oi := ?oix25) (v := ?vx25) ?hix25 (by kernel_rfl) (by kernel_rfl) ?hqx25 ?hyx25 hHeld ?restx25
      case hix25 => (simp only [List.getElem?_toArray, List.getElem?_cons_zero, List.getElem?_cons_succ]; rfl)
      case hqx25 => exact fun _ _ _ h => h
      case hyx25 => (refine Or.inl ⟨by rfl, ?_⟩; intro w' hSw; (try dsimp only at hSw); go_simp; try with_reducible rfl)
      (try simp only [Act.put, List.setIfInBounds_toArray, List.set_cons_zero, List.set_cons_succ])
      refine' wpAnyT_take (i := 26) (oi := ?oix26) (v := ?vx26) ?hix26 (by kernel_rfl) (by kernel_rfl) ?hqx26 ?hyx26 hHeld ?restx26
      case hix26 => (simp only [List.getElem?_toArray, List.getElem?_cons_zero, List.getElem?_cons_succ]; rfl)
      case hqx26 => exact fun _ _ _ h => h
      case hyx26 => (refine Or.inl ⟨by rfl, ?_⟩; intro w' hSw; (try dsimp only at hSw); go_simp; try with_reducible rfl)
      (try simp only [Act.put, List.setIfInBounds_toArray, List.set_cons_zero, List.set_cons_succ])
      refine' wpAnyT_take (i := 27) (oi := ?oix27) (v := ?vx27) ?hix27 (by kernel_rfl) (by kernel_rfl) ?hqx27 ?hyx27 hHeld ?restx27
      case hix27 => (simp only [List.getElem?_toArray, List.getElem?_cons_zero, List.getElem?_cons_succ]; rfl)
      case hqx27 => exact fun _ _ _ h => h
      case hyx27 => (refine Or.inl ⟨by rfl, ?_⟩; intro w' hSw; (try dsimp only at hSw); go_simp; try with_reducible rfl)
      (try simp only [Act.put, List.setIfInBounds_toArray, List.set_cons_zero, List.set_cons_succ])
      refine' wpAnyT_take (i := 28) (oi := ?oix28) (v := ?vx28) ?hix28 (by kernel_rfl) (by kernel_rfl) ?hqx28 ?hyx28 hHeld ?restx28
      case hix28 => (simp only [List.getElem?_toArray, List.getElem?_cons_zero, List.getElem?_cons_succ]; rfl)
      case hqx28 => exact fun _ _ _ h => h
      case hyx28 => (refine Or.inl ⟨by rfl, ?_⟩; intro w' hSw; (try dsimp only at hSw); go_simp; try with_reducible rfl)
      (try simp only [Act.put, List.setIfInBounds_toArray, List.set_cons_zero, List.set_cons_succ])
      refine' wpAnyT_take (i := 29) (oi := ?oix29) (v := ?vx29) ?hix29 (by kernel_rfl) (by kernel_rfl) ?hqx29 ?hyx29 hHeld ?restx29
      case hix29 => (simp only [List.getElem?_toArray, List.getElem?_cons_zero, List.getElem?_cons_succ]; rfl)
      case hqx29 => exact fun _ _ _ h => h
      case hyx29 => (refine Or.inl ⟨by rfl, ?_⟩; intro w' hSw; (try dsimp only at hSw); go_simp; try with_reducible rfl)
      (try simp only [Act.put, List.setIfInBounds_toArray, List.set_cons_zero, List.set_cons_succ])
      refine' wpAnyT_take (i := 30) (oi := ?oix30) (v := ?vx30) ?hix30 (by kernel_rfl) (by kernel_rfl) ?hqx30 ?hyx30 hHeld ?restx30
      case hix30 => (simp only [List.getElem?_toArray, List.getElem?_cons_zero, List.getElem?_cons_succ]; rfl)
      case hqx30 => exact fun _ _ _ h => h
      case hyx30 => (refine Or.inl ⟨by rfl, ?_⟩; intro w' hSw; (try dsimp only at hSw); go_simp; try with_reducible rfl)
      (try simp only [Act.put, List.setIfInBounds_toArray, List.set_cons_zero, List.set_cons_succ])
      refine' wpAnyT_take (i := 31) (oi := ?oix31) (v := ?vx31) ?hix31 (by kernel_rfl) (by kernel_rfl) ?hqx31 ?hyx31 hHeld ?restx31
      case hix31 => (simp only [List.getElem?_toArray, List.getElem?_cons_zero, List.getElem?_cons_succ]; rfl)
      case hqx31 => exact fun _ _ _ h => h
      case hyx31 => (refine Or.inl ⟨by rfl, ?_⟩; intro w' hSw; (try dsimp only at hSw); go_simp; try with_reducible rfl)
      (try simp only [Act.put, List.setIfInBounds_toArray, List.set_cons_zero, List.set_cons_succ])
      refine' wpAnyT_take (i := 32) (oi := ?oix32) (v := ?vx32) ?hix32 (by kernel_rfl) (by kernel_rfl) ?hqx32 ?hyx32 hHeld ?restx32
      case hix32 => (simp only [List.getElem?_toArray, List.getElem?_cons_zero, List.getElem?_cons_succ]; rfl)
      case hqx32 => exact fun _ _ _ h => h
      case hyx32 => (refine Or.inl ⟨by rfl, ?_⟩; intro w' hSw; (try dsimp only at hSw); go_simp; try with_reducible rfl)
      (try simp only [Act.put, List.setIfInBounds_toArray, List.set_cons_zero, List.set_cons_succ])
      refine' wpAnyT_take (i := 33) (oi := ?oix33) (v := ?vx33) ?hix33 (by kernel_rfl) (by kernel_rfl) ?hqx33 ?hyx33 hHeld ?restx33
      case hix33 => (simp only [List.getElem?_toArray, List.getElem?_cons_zero, List.getElem?_cons_succ]; rfl)
      case hqx33 => exact fun _ _ _ h => h
      case hyx33 => (refine Or.inl ⟨by rfl, ?_⟩; intro w' hSw; (try dsimp only at hSw); go_simp; try with_reducible rfl)
      (try simp only [Act.put, List.setIfInBounds_toArray, List.set_cons_zero, List.set_cons_succ])
      refine' wpAnyT_take (i := 34) (oi := ?oix34) (v := ?vx34) ?hix34 (by kernel_rfl) (by kernel_rfl) ?hqx34 ?hyx34 hHeld ?restx34
      case hix34 => (simp only [List.getElem?_toArray, List.getElem?_cons_zero, List.getElem?_cons_succ]; rfl)
      case hqx34 => exact fun _ _ _ h => h
      case hyx34 => (refine Or.inl ⟨by rfl, ?_⟩; intro w' hSw; (try dsimp only at hSw); go_simp; try with_reducible rfl)
      (try simp only [Act.put, List.setIfInBounds_toArray, List.set_cons_zero, List.set_cons_succ])
      refine' wpAnyT_one (i := 35) (o := ?oix35) (by kernel_rfl) ?hix35 (fun K hK => ?stx35)
      case hix35 => (simp only [List.getElem?_toArray, List.getElem?_cons_zero, List.getElem?_cons_succ]; rfl)
      go_simp
      go_at_call 32
      refine (HSS.out X0 hBX0).mono ?_
      rintro e X1 ⟨rfl, nn, hnn⟩
      have hBX1 : Below wr.heap.size wr X1 := by rw [hnn]; exact ⟨hBX0.os, hBX0.tape, hBX0.output, hBX0.size, hBX0.block⟩
      clear hHeld hnn
      have hHeld := HK.out X1 hBX1
      refine hK.out _ _ (fun _ => hHeld) ?_
      clear hK K
      (try simp only [Act.put, List.setIfInBounds_toArray, List.set_cons_zero, List.set_cons_succ])
      refine' wpAnyT_take (i := 36) (oi := ?oix36) (v := ?vx36) ?hix36 (by kernel_rfl) (by kernel_rfl) ?hqx36 ?hyx36 hHeld ?restx36
      case hix36 => (simp only [List.getElem?_toArray, List.getElem?_cons_zero, List.getElem?_cons_succ]; rfl)
      case hqx36 => exact fun _ _ _ h => h
      case hyx36 => (refine Or.inl ⟨by rfl, ?_⟩; intro w' hSw; (try dsimp only at hSw); go_simp; try with_reducible rfl)
      (try simp only [Act.put, List.setIfInBounds_toArray, List.set_cons_zero, List.set_cons_succ])
      refine' wpAnyT_one (i := 37) (o := ?oix37) (by kernel_rfl) ?hix37 (fun K hK => ?stx37)
      case hix37 => (simp only [List.getElem?_toArray, List.getElem?_cons_zero, List.getElem?_cons_succ]; rfl)
      go_simp
      refine hK.out _ _ (fun h => absurd h (by decide)) ?_
      clear hK K
      (try simp only [Act.put, List.setIfInBounds_toArray, List.set_cons_zero, List.set_cons_succ])
      refine wpAnyT_done (by kernel_rfl) ?_ _
      go_wp2_with fail
      go_roundw
      case rel => exact ⟨i + 1, by omega, by go_num, hid (HB.out.trans (hBX1.mono HB.out.size))⟩
      case measure => simp [Go.RowKit.intOf]; omega
    · obtain rfl : n = i := by omega
      have d0 : decide ((n : Int) < (n : Int)) = false := decide_eq_false (by omega)
      go_wp2_with fail
      go_ret
      exact ⟨rfl, HB.out⟩
end Go.Proofs.Ytnocgfhcamnjdaa
