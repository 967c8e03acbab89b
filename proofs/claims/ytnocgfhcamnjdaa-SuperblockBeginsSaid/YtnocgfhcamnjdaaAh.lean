/- Superblock: bytes as arguments; contentOf 27. -/
import Derived.Test.YtnocgfhcamnjdaaAi
namespace Go.Proofs.Ytnocgfhcamnjdaa
open Go.RowKit Go.Lib

/-- Bytes. -/
def Byt (w : World) (v : Value) (p : List Nat) : Prop := B8 p ∧ NilOk v ∧ Arr w v 1 (p.map fun x => [byteV x])
theorem Byt.below {w w' : World} {v : Value} {p : List Nat} (h : Byt w v p) (hb : Below w.heap.size w w') : Byt w' v p := ⟨h.1, h.2.1, h.2.2.below hb⟩
theorem byt_form {w : World} {v : Value} {p : List Nat} (h : Byt w v p) : ∃ A c, v = .slice A p.length c := by
  obtain ⟨A, c, e⟩ := arr_form h.2.2
  rw [List.length_map] at e
  exact ⟨A, c, e⟩
theorem byt_cells {w : World} {A : Option Addr} {n c : Nat} {p : List Nat} (h : Byt w (.slice A n c) p) (hp : 0 < p.length) : ∃ b off, A = some ⟨b, off, none⟩ ∧ b < w.heap.size ∧ ∀ (i x : Nat), p[i]? = some x → w.cell? ⟨b, off + i, none⟩ = some (.int .u8 (x : Int)) := by
  obtain ⟨b, off, hA, hb, hc⟩ := arr_at1 h.2.2 (by rw [List.length_map]; exact hp)
  refine ⟨b, off, hA, hb, fun i x hx => ?_⟩
  have := hc i [byteV x] (by rw [List.getElem?_map, hx]; rfl) 0 (byteV x) rfl
  rwa [Nat.mul_one, Nat.add_zero] at this
theorem run_sliceAt67f (g : Nat) (W : World) : (Instr.sliceAt 67 (.pointer (some ⟨g, 0, none⟩)) (some (.int .i64 1)) none none).run Try.prog W = .ok (.slice (some ⟨g, 1, none⟩) 31 31) W := by
  simp [Instr.sliceAt, Instr.sureAddr, run_underlying Try.underlying67, Instr.sliceBounds, Sem.run_bind, run_sliceBound_if]
  rw [add_at]
theorem size5o : (Try.prog.info? 5).map (·.size) = some 1 := by kernel_rfl
theorem splice_con {p : List Nat} (_h : p.length ≤ 31) : splice (Value.int .u8 (p.length : Int) :: List.replicate 31 (Value.int .u8 0)) 1 (p.map byteV) = (conL p).map byteV := by
  unfold splice conL
  rw [List.take_succ_cons, List.take_zero, List.length_map, Nat.add_comm 1, List.drop_succ_cons, List.drop_replicate, List.map_append, List.map_cons, List.map_replicate]
  rfl
set_option maxHeartbeats 4000000 in
set_option maxRecDepth 100000 in
theorem contentOf_any (p : List Nat) (v : Value) (w : World) (hv : Byt w v p) (hl : p.length ≤ 31) :
    Calls Try.prog 27 #[v] w fun e w' => e = .returned (.agg ((conL p).map byteV).toArray) ∧ Below w.heap.size w w' := by
  obtain ⟨A, c, rfl⟩ := byt_form hv
  have HCL := hid (conL_len hl)
  have hsc := splice_con hl
  obtain ⟨m, hm⟩ : ∃ m, p.length = m := ⟨_, rfl⟩
  have HV := hid hv
  rw [hm] at HV hl hsc ⊢
  have HM := hid hm
  clear hv hm
  have hconv : IntKind.u8.wrap (m : Int) = (m : Int) := by rw [IntKind.wrap_u8]; omega
  obtain ⟨R, hR⟩ : ∃ R, Value.int .u8 (m : Int) :: List.replicate 31 (Value.int .u8 0) = R := ⟨_, rfl⟩
  obtain ⟨PB, hPB⟩ : ∃ R, p.map byteV = R := ⟨_, rfl⟩
  obtain ⟨CB, hCB⟩ : ∃ R, (conL p).map byteV = R := ⟨_, rfl⟩
  obtain ⟨Z, hZ⟩ : ∃ R, z32 = R := ⟨_, rfl⟩
  have HZL : Hid (Z.length = 32) := hid (by rw [← hZ]; unfold z32; simp)
  have HRL : Hid (R.length = 32) := hid (by rw [← hR]; simp)
  have HPL : Hid (PB.length = m) := hid (by rw [← hPB, List.length_map, HM.out])
  have HCL2 : Hid (CB.length = 32) := hid (by rw [← hCB, List.length_map]; exact HCL.out)
  have HR1 : Hid (∀ v ∈ R, v.oneCell' = true) := hid (fun u hu => by
    rw [← hR] at hu
    rcases List.mem_cons.1 hu with rfl | hu
    · rfl
    · rw [List.eq_of_mem_replicate hu]; rfl)
  have HP1 : Hid (∀ v ∈ PB, v.oneCell' = true) := hid (by rw [← hPB]; exact byteV_one _)
  have HC1 : Hid (∀ v ∈ CB, v.oneCell' = true) := hid (by rw [← hCB]; exact byteV_one _)
  have HSC : Hid (splice R 1 PB = CB) := hid (by rw [← hR, ← hPB, ← hCB]; exact hsc)
  have HBD : Hid (∀ W, (Instr.build 67 #[(0, .int .u8 (m : Int))]).run Try.prog W = .ok (.agg R.toArray) W) := hid (fun W => by rw [← hR]; exact run_build67 W m)
  have HAL : Hid (∀ W, (Instr.alloc 67 true (.tuple #[])).run Try.prog W = .ok (.pointer (some ⟨W.heap.size, 0, none⟩)) (W.alloc (.cells Z.toArray 67))) := hid (fun W => by rw [← hZ]; exact run_alloc67 W)
  obtain ⟨W1, hW1⟩ : ∃ X, w.alloc (.cells Z.toArray 67) = X := ⟨_, rfl⟩
  obtain ⟨p2, hp2⟩ : ∃ q, w.heap.size = q := ⟨_, rfl⟩
  obtain ⟨W2, hW2⟩ : ∃ X, W1.alloc (.cells Z.toArray 67) = X := ⟨_, rfl⟩
  obtain ⟨p3, hp3⟩ : ∃ q, W1.heap.size = q := ⟨_, rfl⟩
  have hb1 : Below w.heap.size w W1 := by rw [← hW1]; exact al1 _ _
  have hb2 : Below W1.heap.size W1 W2 := by rw [← hW2]; exact al1 _ _
  have hx1 : W1.heap[p2]? = some (.cells Z.toArray 67) := by rw [← hW1, ← hp2]; exact heap_alloc_new _ _
  have hx2 : W2.heap[p2]? = some (.cells Z.toArray 67) := (hb2.block _ (box_lt hx1)).trans hx1
  have hx3 : W2.heap[p3]? = some (.cells Z.toArray 67) := by rw [← hW2, ← hp3]; exact heap_alloc_new _ _
  have hlt : p2 < p3 := by have := box_lt hx1; omega
  have hg2 : w.heap.size ≤ p2 := Nat.le_of_eq hp2
  have hg3 : w.heap.size ≤ p3 := by rw [← hp3]; exact hb1.size
  have hb12 := hb1.trans (hb2.mono hb1.size)
  obtain ⟨W3, hr3, hx33, ho3, hbw3⟩ := set_row67 (cs := R) hx3 HRL.out HZL.out HR1.out
  have hb3 := hbw3 _ _ hb12 hg3
  have hx23 : W3.heap[p2]? = some (.cells Z.toArray 67) := (ho3 p2 (by omega)).trans hx2
  have HA1 := hid (show (Instr.alloc 67 true (.tuple #[])).run Try.prog w = .ok (.pointer (some ⟨p2, 0, none⟩)) W1 from by rw [← hW1, ← hp2]; exact HAL.out w)
  have HA2 := hid (show (Instr.alloc 67 true (.tuple #[])).run Try.prog W1 = .ok (.pointer (some ⟨p3, 0, none⟩)) W2 from by rw [← hW2, ← hp3]; exact HAL.out W1)
  have HB := hid (HV.out.below hb3)
  obtain ⟨LW, hLW⟩ : ∃ q, w.heap.size = q := ⟨_, rfl⟩
  have HPOS : Hid (0 < PB.length → ∃ ad, A = some ad ∧ ∀ j v, PB[j]? = some v → W3.cell? (ad.add j) = some v) := hid (fun hp => by
    rw [← hPB, List.length_map] at hp
    obtain ⟨b, off, hA, _, hc⟩ := byt_cells HB.out hp
    refine ⟨⟨b, off, none⟩, hA, fun j u hu => ?_⟩
    rw [← hPB, List.getElem?_map] at hu
    cases hq : p[j]? with
    | none => rw [hq] at hu; cases hu
    | some x =>
      rw [hq] at hu
      injection hu with hu
      subst hu
      rw [add_at]
      exact hc j x hq)
  have HR3 := hid hr3
  have HX33 := hid hx33
  have HX23 := hid hx23
  have HB3 := hid hb3
  have HLT := hid hlt
  have HG2 := hid hg2
  have HG3 := hid hg3
  have HEC := hid hCB
  have hsa := run_sliceAt67f p3
  clear hW1 hp2 hW2 hp3 hb1 hb2 hx1 hx2 hx3 hlt hg2 hg3 hb12 hr3 hx33 ho3 hbw3 hb3 hx23 hR hPB hCB hZ hsc hLW
  go_enter Try.func27, Try.ntmps27
  go_wp2_with (first
    | (refine wpl_alloc rfl 67 rfl _ HA2.out ?_)
    | (refine wpl_alloc rfl 67 rfl _ HA1.out ?_)
    | (refine wpl_build rfl 67 (.tmp 6) rfl (.int .u8 (m : Int)) _ rfl (HBD.out _) ?_)
    | (refine wpl_store rfl 67 (.tmp 3) (.tmp 7) rfl _ _ rfl rfl HR3.out ?_)
    | (refine wpList_copy_splice rfl (.tmp 8) (.tmp 9) 22 22 rfl 5 Try.underlying22 size5o _ _ 31 31 m c rfl rfl p3 1 R 67 HX33.out PB (by rw [HPL.out]; exact (Nat.min_eq_left hl).symm) (fun hp => ⟨rfl, HPOS.out hp⟩) (by rw [HPL.out, HRL.out]; omega) HP1.out p3 W3 (Below.refl _ _) (Nat.le_refl _) ?_; intro W4 hx4 hb4; have HX4 : Hid (W4.heap[p3]? = some (.cells CB.toArray 67)) := hid (by rw [← HSC.out]; exact hx4.out); have HB4 : Hid (Below w.heap.size w W4) := hid (HB3.out.trans (hb4.mono HG3.out)); have hx24 : W4.heap[p2]? = some (.cells Z.toArray 67) := (hb4.block p2 HLT.out).trans HX23.out; obtain ⟨W5, hr5, hx5, _, hbw5⟩ := set_row67 (cs := CB) hx24 HCL2.out HZL.out HC1.out; have HR5 := hid hr5; have HX5 := hid hx5; have HB5 : Hid (Below w.heap.size w W5) := hid (hbw5 _ _ HB4.out HG2.out); clear hx4 hb4 hx24 hr5 hx5 hbw5)
    | (refine wpl_load rfl 67 (.tmp 3) rfl _ _ rfl (run_loadAt67 _ p3 CB HCL2.out HX4.out) ?_)
    | (refine wpl_store rfl 67 (.tmp 2) (.tmp 11) rfl _ _ rfl rfl HR5.out ?_)
    | fail)
  refine bodyPost_ret (results_c rfl _ _ p2 _ rfl (run_loadVar67 _ _ _ HCL2.out HX5.out)) rfl ?_
  exact ⟨by rw [HEC.out], HB5.out⟩
end Go.Proofs.Ytnocgfhcamnjdaa
