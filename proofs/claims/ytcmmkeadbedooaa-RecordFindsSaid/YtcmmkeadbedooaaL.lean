/- Data. -/
import Derived.Test.YtcmmkeadbedooaaK
namespace Go.Proofs.Ytcmmkeadbedooaa
open Go.RowKit Go.Lib

theorem make_cap (M : Nat) (W : World) (hM : M ≤ 1000000) : ∃ W', (Instr.makeSlice 25 (.int .i64 0) (.int .i64 (M : Int))).run Try.prog W = .ok (.slice (some ⟨W.heap.size, 0, none⟩) 0 M) W' ∧ W'.ownsRow W.heap.size 5 1 (.slice (some ⟨W.heap.size, 0, none⟩) 0 M) 0 (([] : List Nat).map byteV) ∧ Below W.heap.size W W' := by
  obtain ⟨i0, hi, hz0, hz1, hz2⟩ := info_parts info5
  have h := run_make (P := Try.prog) W 25 5 i0 _ Try.underlying25 hi hz0 .i64 .i64 0 (M : Int) (by omega) (by omega) (by rw [hz2]; omega) (by omega)
  rw [hz1, Int.toNat_natCast] at h
  refine ⟨_, h, ⟨rfl, .inr ⟨W.heap.size, M, _, rfl, Nat.le_refl _, heap_alloc_new _ _, Nat.zero_le _, by unfold maxLen; omega, ?_, rfl⟩⟩, al1 _ _⟩
  unfold madeCells
  simp
theorem dts_take {l : List Sect} {k : Nat} {s : Sect} (h : l[k]? = some s) : dts (l.take (k + 1)) = dts (l.take k) ++ s.drop 4 := by
  unfold dts
  rw [List.take_add_one, h, List.map_append, List.flatten_append]
  simp
theorem dts_len {l : List Sect} (h : Secs l) : (dts l).length = 4 * l.length := by
  induction l with
  | nil => rfl
  | cons a l ih =>
    have hl := (h a (List.mem_cons_self ..)).1
    have := ih (fun s hs => h s (List.mem_cons_of_mem _ hs))
    unfold dts at this ⊢
    rw [List.map_cons, List.flatten_cons, List.length_append, this, List.length_drop, List.length_cons]
    omega
theorem dts_b8 {l : List Sect} (h : Secs l) : B8 (dts l) := fun x hx => by
  obtain ⟨y, hy, hx⟩ := List.mem_flatten.1 hx
  obtain ⟨s, hs, rfl⟩ := List.mem_map.1 hy
  exact b8_drop (h s hs).2 4 x hx
theorem secs_take {l : List Sect} (h : Secs l) (n : Nat) : Secs (l.take n) := fun s hs => h s (List.mem_of_mem_take hs)

set_option maxHeartbeats 2000000 in
set_option maxRecDepth 100000 in
theorem data_any (l : List Sect) (v : Value) (w : World) (hv : Sec w v l) (hl : l.length ≤ 100000) :
    Calls Try.prog 40 #[v] w (MadeO w (dts l)) := by
  have hS := hv.1
  obtain ⟨A, c, rfl⟩ := sec_form hv
  obtain ⟨n, hn⟩ : ∃ n, l.length = n := ⟨_, rfl⟩
  obtain ⟨M, hM⟩ : ∃ M, 4 * n = M := ⟨_, rfl⟩
  have hwM : IntKind.i64.wrap ((n : Int) * 4) = (M : Int) := by rw [show (n : Int) * 4 = (M : Int) by omega]; exact wrap64_nat (by omega)
  obtain ⟨W1, hmk, ho1, hb1⟩ := make_cap M w (by omega)
  have HV := hid hv
  have HS := hid hS
  have HO1 := hid ho1
  have HB1 := hid hb1
  have HNN := hid hn
  rw [hn] at HV hl ⊢
  clear hv hS ho1 hb1 hn
  go_enter Try.func40, Try.ntmps40
  go_wp2_with fail
  go_loopw [3, 12] (fun lv i wr => ∃ (k : Nat) (av : Option Addr) (cv : Nat), k ≤ n ∧ i = .int .i64 (k : Int) ∧ lv = .slice av (4 * k) cv ∧ Hid (wr.ownsRow w.heap.size 5 1 (.slice av (4 * k) cv) (4 * k) ((dts (l.take k)).map byteV)) ∧ Hid (Below w.heap.size w wr)) (fun _ i _ => n - (RowKit.intOf i).toNat)
  case atStart => exact ⟨0, _, M, by omega, rfl, rfl, hid (by rw [List.take_zero]; exact HO1.out), HB1⟩
  case round =>
    clear HO1 HB1 hmk
    obtain ⟨k, av, cv, hk, rfl, rfl, HO, HB⟩ := hrel
    by_cases hkn : k < n
    · obtain ⟨s, hs⟩ : ∃ s, l[k]? = some s := ⟨l[k]'(by rw [HNN.out]; exact hkn), List.getElem?_eq_getElem _⟩
      obtain ⟨hs8, hsb⟩ := HS.out s (List.mem_of_getElem? hs)
      obtain ⟨b, off, cap, he, _, _, hbl, hsc⟩ := sec_at (by rw [← HNN.out] at HV; exact HV.out) (by intro h; subst h; cases hs)
      injection he with he1 he2 he3
      subst he1
      have hsc' := (hsc k s hs).below hbl HB.out
      have HDT := hid (dts_take hs)
      obtain ⟨x0, x1, x2, x3, x4, x5, x6, x7, rfl⟩ := list8 hs8
      obtain ⟨p0, p1, p2, p3, p4, p5, p6, p7⟩ := hsc'.facts
      have hkc : (k : Int) < (n : Int) := by omega
      obtain ⟨W2, hW2⟩ : ∃ W2, wr.alloc (.cells #[.int .u8 (x0 : Int), .int .u8 (x1 : Int), .int .u8 (x2 : Int), .int .u8 (x3 : Int), .int .u8 (x4 : Int), .int .u8 (x5 : Int), .int .u8 (x6 : Int), .int .u8 (x7 : Int)] 52) = W2 := ⟨_, rfl⟩
      have hb2 : Below wr.heap.size wr W2 := by rw [← hW2]; exact al1 _ _
      have hx2 : W2.heap[wr.heap.size]? = some (.cells #[.int .u8 (x0 : Int), .int .u8 (x1 : Int), .int .u8 (x2 : Int), .int .u8 (x3 : Int), .int .u8 (x4 : Int), .int .u8 (x5 : Int), .int .u8 (x6 : Int), .int .u8 (x7 : Int)] 52) := by rw [← hW2]; exact heap_alloc_new _ _
      have HO2 := hid (own_keep HO.out (keep_below hb2))
      have HB2 := hid (HB.out.trans (hb2.mono HB.out.size))
      have hz2 : w.heap.size ≤ W2.heap.size := Nat.le_trans HB.out.size hb2.size
      have HD4 : Hid (Byt W2 (.slice (some ⟨wr.heap.size, 4, none⟩) 4 4) [x4, x5, x6, x7]) := hid ⟨fun y hy => hsb y (by simp at hy ⊢; omega), some ⟨wr.heap.size, 4, none⟩, 4, rfl, Nat.le_refl _, by unfold maxLen; omega, wr.heap.size, 4, fun _ => ⟨rfl, box_lt hx2⟩, fun i x hx => by
        rw [cell_of_row _ _ _ _ _ _ hx2]
        rcases i with _ | _ | _ | _ | i
        all_goals simp at hx
        all_goals (subst hx; rfl)⟩
      subst hW2
      have hM4 : 4 * k + 4 ≤ 1000000 := by omega
      clear hs hsc hsc' hb2 hx2 HO HB hbl hs8 hsb
      go_wp2_with (at_builtin; refine append_byt rfl (.tmp 16) (.tmp 17) rfl w.heap.size (.slice av (4 * k) cv) (4 * k) _ rfl HO2.out [x4, x5, x6, x7] _ rfl HD4.out (nilOk_some _ _ _) (by simp; omega) hz2 ?_; intro v3 w3 ho3 hg3; have HB3 := hid (below_own HB2.out HO2.out hg3 (by simp at hz2 ⊢; omega) (Nat.le_refl _)); have HO3 := hid ho3; obtain ⟨a3, c3, rfl⟩ := own_form ho3; clear ho3 hg3)
      go_roundw
      case rel =>
        refine ⟨.slice a3 (4 * k + 4) c3, _, .int .i64 ((k : Int) + 1), ⟨k + 1, by omega, by go_num, a3, c3, by rw [Nat.mul_succ], hid ?_⟩, rfl, rfl, rfl⟩
        rw [HDT.out, List.map_append, Nat.mul_succ]
        exact HO3.out
      case measure => simp [RowKit.intOf]; omega
    · obtain rfl : k = n := by omega
      have e : l.take k = l := List.take_of_length_le (by rw [HNN.out]; exact Nat.le_refl _)
      go_wp2
      go_ret
      have ho := HO.out
      rw [e] at ho
      have hdl : (dts l).length = 4 * k := by rw [dts_len HS.out, HNN.out]
      exact ⟨.slice av (4 * k) cv, rfl, (by rw [hdl]; exact ho), HB.out⟩
end Go.Proofs.Ytcmmkeadbedooaa
