/- advance over any iterator of bytes. -/
import Derived.Test.YtgkcdmbhniipdaaS
import Derived.Sort.QuietIn
namespace Go.Proofs.Ytgkcdmbhniipdaa
open Go.RowKit Go.Lib Go.Shelf
attribute [local go_sem] Oper.semAt_some

variable {P : Program}
theorem wpListIn_store_row {F : Fence} {n : Nat} {ops : Array Oper} {rest : List Oper} {o : Oper} {a : Act} {w : World} {Q : Exit → Act → World → Prop} (hgd : o.guard = none) (ty : TypeId) (x y : Operand) (ho : o.op = .store ty x y)
    (g : Nat) (cells : Array Value) (hx : a.eval x = .pointer (some ⟨g, 0, none⟩)) (hy : a.eval y = .agg cells)
    (t : TypeId) (old : Array Value) (hg : w.heap[g]? = some (.cells old t (0, 0))) (hi : (P.info? ty).map (·.size) = some cells.size)
    (hold : old.size = cells.size) (h1 : cells.all (·.oneCell') = true)
    (h : wpListIn F n P ops Q rest (a.put o.dst undef) (w.setRow g cells)) : wpListIn F n P ops Q (o :: rest) a w := by
  refine wpListIn_plain hgd fun K hK => ?_
  unfold Oper.wpIn
  refine ⟨by simp [Oper.about, ho], ?_⟩
  rw [Oper.semAt_plain F _ _ (by rw [ho]; intro c hc; cases hc)]
  simp only [execOp, ho, hx, hy, Instr.storeAt, Instr.sureAddr, Sem.run_bind, Sem.run_pure, Result.andThen_ok, run_storeVar_row w g t ty old cells hg hi hold h1]
  exact hK _ _ h

theorem fold_C (pre : List (Fin 256)) (x : Fin 256) (r : Nat) : crc r ((pre ++ [x]).map (·.val)) = stepC (crc r (pre.map (·.val))) x.val := by
  rw [List.map_append, List.map_cons, List.map_nil, crc_snoc]
theorem fins_B8 (l : List (Fin 256)) : B8 (l.map (·.val)) := fun x hx => by
  obtain ⟨y, _, rfl⟩ := List.mem_map.1 hx
  exact y.isLt

set_option maxRecDepth 100000 in
set_option maxHeartbeats 4000000 in
theorem advance_any (r gf : Nat) (lb : Array Value) (n₀ : Nat) (l : List Nat) (w : World) (hr : r < 4294967296) (hS : Streams 2 gf lb n₀ l w) (hn₀ : n₀ ≤ w.heap.size) (he : ∀ args w, (callFunc gf args).run Try.prog w = .ok (.enter gf args) w) :
    Calls Try.prog 25 #[.int .u32 (r : Int), .func (.func gf) #[] lb] w fun e W' => e = .returned (.int .u32 (crc r l : Nat)) ∧ Below w.heap.size w W' := by
  refine (callsIn_wide (n := 3)).1 ?_
  obtain ⟨Z, hz⟩ : ∃ Z, zero256 = Z := ⟨_, rfl⟩
  have hzr := zero_run
  have hzs := zero256_size
  rw [hz] at hzr hzs
  have HZS := hid hzs
  clear hz hzs
  refine callsIn_of_wp_marks Try.func25 rfl trivial ?_ rfl
  simp only [Try.ntmps25, List.size_toArray, List.length_cons, List.length_nil, Nat.reduceAdd, Nat.reduceSub, Array.replicate_succ, Array.replicate_zero, List.push_toArray, List.append_toArray, List.nil_append, List.cons_append]
  gi_wp2_with (first | (refine ⟨trivial, ?_⟩; gi_at_call 33; refine (callsIn_wide.2 (singles_any _)).mono ?_; rintro e w2 ⟨A, rfl, hA, hb2⟩; have HA := hid hA; have HB2 := hid hb2; clear hA hb2) | (refine wpListIn_store_row rfl 59 (.tmp 5) (.tmp 7) rfl w2.heap.size A rfl rfl 59 Z (heap_alloc_new _ _) (by rw [HA.out.1]; exact size59) (by rw [HA.out.1]; exact HZS.out) HA.out.one ?_))
  obtain ⟨W0, hW0⟩ : ∃ W0, (w2.alloc (.cells Z 59)).setRow w2.heap.size A = W0 := ⟨_, rfl⟩
  have hb2 := HB2.out
  have hsz2 : w.heap.size + 1 ≤ w2.heap.size := by have := hb2.size; simp at this; omega
  have hsz0 : W0.heap.size = w2.heap.size + 1 := by rw [← hW0]; simp [World.setRow]
  have hbox : Boxed w2 w.heap.size 24 (.int .u32 (r : Int)) := (hb2.block _ (by simp)).trans (Boxed.new w 24 (.int .u32 (r : Int)))
  have hbox0 : Boxed W0 w.heap.size 24 (.int .u32 (r : Int)) := by
    rw [← hW0]
    exact (setRow_other _ _ _ _ (by omega)).trans (hbox.alloc _)
  have hrow0 : W0.heap[w2.heap.size]? = some (.cells A 59 (0, 0)) := by
    rw [← hW0]
    exact setRow_heap _ _ Z A 59 (0, 0) (heap_alloc_new _ _)
  have hB0 : Below w.heap.size w W0 := by
    rw [← hW0]
    exact below_setRow ((((Below.refl _ w).alloc (Nat.le_refl _) _).trans (hb2.mono (by simp))).alloc (by omega) _) (by omega) A
  rw [hW0]
  clear hW0 hb2 HB2 hbox hzr HZS
  refine wpIn_rangeFunc_ownG rfl (by decide) (gf := gf) (lb := lb) rfl trivial he hS belowK_t (belowK_b (n₀ := n₀) (by omega)) hB0 (fun _ => rfl)
    (fun pre W => (W.cell? ⟨w.heap.size, 0, none⟩ = some (.int .u32 (crc r (pre.map (·.val)) : Nat)) ∧ W.frozen? ⟨w.heap.size, 0, none⟩ = false ∧ (∀ j : Nat, j < 256 → W.cell? ⟨w2.heap.size, j, none⟩ = some (.int .u32 (shn 8 j : Nat)))) ∧ Below w.heap.size w W)
    (fun _ _ _ => False)
    (OwnFrom.and (Own.from (fun s A B row hs hg hr => ⟨cell_kept hs.1 hg hr, (frozen_kept hs.1 hg hr).trans hs.2.1, fun j hj => cell_kept (hs.2.2 j hj) hg hr⟩) _) (ownFrom_below (Nat.le_refl _) (by omega)))
    (fun _ _ _ _ _ hs _ _ => hs)
    ⟨⟨hbox0.cell, hbox0.frozen, fun j hj => by rw [cell_of_row _ _ _ _ _ _ hrow0]; exact HA.out.2 j hj⟩, hB0⟩
    (fun x => { tmps := #[.int .u32 (r : Int), .func (.func gf) #[] lb, .pointer (some ⟨w.heap.size, 0, none⟩), undef, .int .u32 0, .pointer (some ⟨w2.heap.size, 0, none⟩), .int .u8 (x.val : Int), .agg A, .func (.func gf) #[] lb, .int .u8 (x.val : Int), undef, undef, undef, undef, undef, undef, undef, undef, undef, undef], defers := [] }) ?assign ?body ?done ?stop
  case assign =>
    intro l x W K hK
    gi_wp2
    exact hK
  case body =>
    rintro l pre x W ⟨⟨hc, hf, ht⟩, hB⟩ _
    have HF := hid (fold_C pre x r)
    have hyl := crc_lt hr (fins_B8 pre)
    obtain ⟨y, hy⟩ : ∃ y, crc r (pre.map (·.val)) = y := ⟨_, rfl⟩
    rw [hy] at hc hyl HF
    have hxl := x.isLt
    obtain ⟨j, hj⟩ : ∃ j, (y % 256) ^^^ x.val = j := ⟨_, rfl⟩
    have hjl : j < 256 := by rw [← hj]; exact Nat.xor_lt_two_pow (n := 8) (show y % 256 < 2 ^ 8 by omega) hxl
    have hx8 : bits .xor .u8 (IntKind.u8.wrap (y : Int)) (x.val : Int) = (j : Int) := by
      have h := u8_xor_nat (y % 256) x.val (by omega) hxl
      rw [hj] at h
      rw [IntKind.wrap_u8']
      exact h
    have hst : bits .xor .u32 ((shn 8 j : Nat) : Int) ((y : Int) / 256) = ((stepC y x.val : Nat) : Int) := by
      have h := u32_xor_nat (shn 8 j) (y / 256) (shn_lt (by omega)) (by omega)
      rw [← hj, ← step_table y x.val hxl, hj] at h
      exact h
    have htj := ht j hjl
    have HT := hid ht
    clear hy hj ht
    have hji : (j : Int) < 256 := by omega
    have hj0 : (0 : Int) ≤ (j : Int) := by omega
    gi_wp2
    refine round_still_tail 9 (by kernel_rfl) (by kernel_rfl) (by rintro ⟨_, _, h⟩; exact h) (by kernel_rfl) ?_
    simp only [List.take_succ_cons, List.take_zero, List.drop_succ_cons, List.drop_zero]
    repeat still_step
    refine wpStill_nil ?_
    obtain ⟨W4, hW4⟩ : ∃ W4 : World, ({ heap := W.heap, tape := W.tape, drawn := W.drawn + 1, os := W.os, output := W.output } : World) = W4 := ⟨_, rfl⟩
    have hc4 : W4.cell? ⟨w.heap.size, 0, none⟩ = some (.int .u32 (y : Int)) := by rw [← hW4]; exact hc
    have hf4 : W4.frozen? ⟨w.heap.size, 0, none⟩ = false := by rw [← hW4]; exact hf
    have HK : Hid (KeepsFrom W0.heap.size W W4 ∧ Below n₀ W W4 ∧ Below w.heap.size W W4) := by rw [← hW4]; exact hid ⟨⟨Nat.le_refl _, fun k o _ h _ => h⟩, ⟨rfl, rfl, rfl, Nat.le_refl _, fun _ _ => rfl⟩, ⟨rfl, rfl, rfl, Nat.le_refl _, fun _ _ => rfl⟩⟩
    have HT4 : Hid (∀ j : Nat, j < 256 → W4.cell? ⟨w2.heap.size, j, none⟩ = some (.int .u32 (shn 8 j : Nat))) := by rw [← hW4]; exact hid HT.out
    rw [hW4]
    clear hW4 hc hf htj HT hx8
    go_wp2
    obtain ⟨k1, k2, k3⟩ := HK.out
    exact ⟨k1.trans ((KeepsOthers.setCell _ _ _).from _), k2.trans ((Below.refl n₀ W4).setCell (p := ⟨w.heap.size, 0, none⟩) hn₀ _), ⟨by rw [HF.out]; exact World.cell?_setCell_same' _ _ _ (by rw [hc4]; rfl), by rw [World.frozen?_setCell]; exact hf4, fun i hi => (World.cell?_setCell_other W4 _ _ _ (by intro e; injection e with e _; omega)).trans (HT4.out i hi)⟩, (hB.trans k3).setCell (p := ⟨w.heap.size, 0, none⟩) (Nat.le_refl _) _⟩
  case done =>
    rintro D ys W hD hys ⟨⟨hc, _, _⟩, hB⟩ hK
    rw [hys] at hc
    gi_wp2
    refine ⟨by simp, .inl ⟨_, _, rfl, run_takeDeferred hK, ?_⟩⟩
    exact ⟨_, results_tmp rfl _ _ _, rfl, hB.trans (belowK_b (w := w) (Nat.le_refl _) W D _ _ (by omega) hK rfl rfl)⟩
  case stop =>
    rintro D c pre W _ _ h _
    exact h.elim
end Go.Proofs.Ytgkcdmbhniipdaa
