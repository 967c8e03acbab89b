/- zeros; the makers of the iterators; digest and advance over any iterator of bytes. -/
import Derived.Test.YtgkcdmbhniipdaaF
namespace Go.Proofs.Ytgkcdmbhniipdaa
open Go.RowKit Go.Lib Go.Shelf
attribute [local go_sem] Oper.semAt_some

theorem values_any (v : Value) (w : World) (a : Option Addr) (len cap : Nat) (hv : v = .slice a len cap) :
    Calls Try.prog 26 #[v] w fun e w' => e = .returned (.func (.func 34) #[] #[.pointer (some ⟨w.heap.size, 0, none⟩)]) ∧ w.alloc (.cells #[v] 22) = w' := by
  subst hv
  go_enter Try.func26, Try.ntmps26
  go_wp2
  go_ret
  exact ⟨rfl, rfl⟩
theorem zeros_any (n : Int) (w : World) :
    Calls Try.prog 28 #[.int .i64 n] w fun e w' => e = .returned (.func (.func 35) #[] #[.pointer (some ⟨w.heap.size, 0, none⟩)]) ∧ w.alloc (.cells #[.int .i64 n] 3) = w' := by
  go_enter Try.func28, Try.ntmps28
  go_wp2
  go_ret
  exact ⟨rfl, rfl⟩

theorem rep_take {k m : Nat} (h : k ≤ m) : (List.replicate m (0 : Nat)).take k = List.replicate k 0 := by
  rw [List.take_replicate]; congr 1; omega

set_option maxHeartbeats 2000000 in
set_option maxRecDepth 100000 in
theorem zeros_streams (n Bs m n₀ : Nat) (w : World) (hn : 1 ≤ n) (hm : m ≤ 65536) (hb : Bs < n₀) (hn₀ : n₀ ≤ w.heap.size) (hc0 : w.cell? ⟨Bs, 0, none⟩ = some (.int .i64 (m : Int))) :
    Streams n 35 #[.pointer (some ⟨Bs, 0, none⟩)] n₀ (List.replicate m 0) w := by
  intro l0 J Jx W hW hJ hJx hY h0
  have hBs := (hW.cell (p := ⟨Bs, 0, none⟩) (show Bs < w.heap.size by omega)).trans hc0
  have HY := hid hY
  clear hY hJ hJx hW hc0
  refine callsIn_of_wp Try.func35 rfl trivial ?_ rfl
  simp only [Try.ntmps35, List.size_toArray, List.length_cons, List.length_nil, Nat.reduceAdd, Nat.reduceSub, Array.replicate_succ, Array.replicate_zero, List.push_toArray, List.append_toArray, List.nil_append, List.cons_append]
  gi_wp2
  gi_loopw [4] (fun i wr => ∃ (k : Nat) (pre : List (Fin 256)), k ≤ m ∧ i = .int .i64 (k : Int) ∧ Hid (pre.map (·.val) = (List.replicate m 0).take k) ∧ Hid (J pre wr)) (fun i _ => m - (intOf i).toNat)
  case atStart => exact ⟨0, [], Nat.zero_le _, rfl, hid rfl, hid h0⟩
  case round =>
    clear h0 hBs
    obtain ⟨k, pre, hk, rfl, HP, HJ⟩ := hrel
    by_cases hkl : k < m
    · have hx : (List.replicate m 0)[k]? = some 0 := by rw [List.getElem?_replicate, if_pos hkl]
      have HP2 := hid (take_map (show 0 < 256 by decide) HP.out hx)
      clear hx
      obtain ⟨fn, tmps, assign, body, hy, hR⟩ := HY.out pre ⟨0, by decide⟩ wr HJ.out (pre_short HP.out (by simpa using hkl))
      dsimp only at hy
      rw [show (((0 : Nat)) : Int) = 0 from rfl] at hy
      have HR := hid hR
      clear hR
      gi_wp2
      refine HR.out.mono ?_
      rintro e W3 (⟨rfl, hJ3, hk3⟩ | ⟨rfl, hJx3⟩)
      · have HJ3 := hid hJ3
        clear hJ3 hk3
        gi_wp2
        go_roundw
        case rel => exact ⟨k + 1, _, by omega, by go_num, HP2, HJ3⟩
        case measure => simp [intOf]; omega
      · gi_wp2
        refine bodyPost_ret (results_none rfl _ _ _) rfl ?_
        exact ⟨⟨_, rfl⟩, .inr ⟨_, trivial, hJx3⟩⟩
    · obtain rfl : k = m := by omega
      gi_wp2
      go_end0
      exact ⟨⟨_, rfl⟩, .inl ⟨_, by rw [HP.out, List.take_of_length_le (by simp)], HJ.out⟩⟩

theorem fold_D (pre : List (Fin 256)) (x : Fin 256) (h : Nat) : dig0 h ((pre ++ [x]).map (·.val)) = stepD (dig0 h (pre.map (·.val))) x.val := by
  rw [List.map_append, List.map_cons, List.map_nil, dig0_snoc]

theorem step_wrap (y x : Nat) : IntKind.u64.wrap (((y ^^^ x : Nat) : Int) * 1099511628211) = ((stepD y x : Nat) : Int) := by
  have e : ∀ a : Int, IntKind.u64.wrap a = a % 18446744073709551616 := fun a => by simp [IntKind.wrap, IntKind.bits, IntKind.signed]
  rw [e]
  unfold stepD M64 prime
  rw [Int.natCast_emod, Int.natCast_mul]
  rfl

set_option maxRecDepth 100000 in
set_option maxHeartbeats 2000000 in
theorem digest_any (gf : Nat) (lb : Array Value) (n₀ : Nat) (l : List Nat) (w : World) (hS : Streams 2 gf lb n₀ l w) (hn₀ : n₀ ≤ w.heap.size) (he : ∀ args w, (callFunc gf args).run Try.prog w = .ok (.enter gf args) w) :
    Calls Try.prog 29 #[.func (.func gf) #[] lb] w fun e W' => e = .returned (.int .u64 (dig l : Nat)) ∧ Below w.heap.size w W' := by
  refine (callsIn_wide (n := 3)).1 ?_
  refine callsIn_of_wp_marks Try.func29 rfl trivial ?_ rfl
  simp only [Try.ntmps29, List.size_toArray, List.length_cons, List.length_nil, Nat.reduceAdd, Nat.reduceSub, Array.replicate_succ, Array.replicate_zero, List.push_toArray, List.append_toArray, List.nil_append, List.cons_append]
  gi_wp2
  obtain ⟨s0, hs0⟩ : ∃ s0 : Nat, 14695981039346656037 = s0 := ⟨_, rfl⟩
  have hsl : s0 < M64 := by rw [← hs0]; exact start_lt
  have hse : (14695981039346656037 : Int) = (s0 : Int) := by rw [← hs0]; rfl
  have HD : Hid (dig l = fin (dig0 s0 l)) := hid (by unfold dig; rw [hs0])
  rw [hse]
  clear hs0 hse
  have bS := Boxed.new w 32 (.int .u64 (s0 : Int))
  have hB0 : Below w.heap.size w (w.alloc (.cells #[.int .u64 (s0 : Int)] 32)) := (Below.refl _ w).alloc (Nat.le_refl _) _
  refine wpIn_rangeFunc_ownG rfl (by decide) (gf := gf) (lb := lb) rfl trivial he hS belowK_t (belowK_b (n₀ := n₀) (by simp; omega)) hB0 (fun _ => rfl)
    (fun pre W => (W.cell? ⟨w.heap.size, 0, none⟩ = some (.int .u64 (dig0 s0 (pre.map (·.val)) : Nat)) ∧ W.frozen? ⟨w.heap.size, 0, none⟩ = false) ∧ Below w.heap.size w W)
    (fun _ _ _ => False)
    (OwnFrom.and (Own.from (fun s A B row hs hg hr => ⟨cell_kept hs.1 hg hr, (frozen_kept hs.1 hg hr).trans hs.2⟩) _) (ownFrom_below (Nat.le_refl _) (by simp)))
    (fun _ _ _ _ _ hs _ _ => hs)
    ⟨⟨by rw [List.map_nil, dig0_nil]; exact bS.cell, bS.frozen⟩, hB0⟩
    (fun x => { tmps := #[.func (.func gf) #[] lb, undef, .int .u64 0, .pointer (some ⟨w.heap.size, 0, none⟩), .int .u8 (x.val : Int), .func (.func gf) #[] lb, .int .u8 (x.val : Int), undef, undef, undef, undef, undef, undef, undef, undef, undef], defers := [] }) ?assign ?body ?done ?stop
  case assign =>
    intro l x W K hK
    gi_wp2
    exact hK
  case body =>
    rintro l pre x W ⟨⟨hc, hf⟩, hB⟩ _
    have HF := hid (fold_D pre x s0)
    have hyl := dig0_lt (l := pre.map (·.val)) hsl
    obtain ⟨y, hy⟩ : ∃ y, dig0 s0 (pre.map (·.val)) = y := ⟨_, rfl⟩
    rw [hy] at hc hyl HF
    have hxl := x.isLt
    have hxo := u64_xor_nat y x.val hyl (by omega)
    clear hy
    gi_wp2
    exact ⟨(KeepsOthers.setCell _ _ _).from _, (Below.refl n₀ W).setCell (p := ⟨w.heap.size, 0, none⟩) hn₀ _, ⟨by rw [HF.out, step_wrap]; exact World.cell?_setCell_same' _ _ _ (by rw [hc]; rfl), by rw [World.frozen?_setCell]; exact hf⟩, hB.setCell (p := ⟨w.heap.size, 0, none⟩) (Nat.le_refl _) _⟩
  case done =>
    rintro D ys W hD hys ⟨⟨hc, _⟩, hB⟩ hK
    have hyl := dig0_lt (l := ys.map (·.val)) hsl
    rw [hys] at hc hyl
    obtain ⟨y, hy⟩ : ∃ y, dig0 s0 l = y := ⟨_, rfl⟩
    rw [hy] at hc hyl HD
    have hxo : bits .xor .u64 (y : Int) ((y : Int) / 4294967296) = ((fin y : Nat) : Int) := u64_xor_nat y (y / 4294967296) hyl (Nat.lt_of_le_of_lt (Nat.div_le_self _ _) hyl)
    clear hy hys
    gi_wp2
    refine ⟨by simp, .inl ⟨_, _, rfl, run_takeDeferred hK, ?_⟩⟩
    exact ⟨_, results_tmp rfl _ _ _, by rw [HD.out]; rfl, hB.trans (belowK_b (w := w) (Nat.le_refl _) W D _ _ (by simp at hD; omega) hK rfl rfl)⟩
  case stop =>
    rintro D c pre W _ _ h _
    exact h.elim
end Go.Proofs.Ytgkcdmbhniipdaa
