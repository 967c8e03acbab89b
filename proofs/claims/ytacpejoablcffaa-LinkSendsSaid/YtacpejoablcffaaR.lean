/- The reference's Decide, payload, fit. -/
import Derived.Test.YtacpejoablcffaaQ
namespace Go.Proofs.Ytacpejoablcffaa
open Go.RowKit Go.Lib

theorem run_slice1' (A : Option Addr) (n c : Nat) (hk : 1 ≤ n) (W : World) : (Instr.slice 40 (.slice A n c) (some (.int .i64 1)) none none).run Try.prog W = .ok (.slice (fromN 1 A c 1) (n - 1) (c - 1)) W := run_slice1 A n c hk W
/-- What the reference's Decide gives. -/
def RDecQ (w : World) (l : List Int) (n : Int) (e : Ending) (w' : World) : Prop := ∃ v, e = .returned (.tuple #[.int .i64 (dec l n), v]) ∧ w'.ownsRow w.heap.size 3 1 v l.tail.length (l.tail.map intV) ∧ Below w.heap.size w w'
theorem tmod_case (z n : Int) (h : 0 < n) : (z.tmod n < 0 → z.tmod n + n = z % n) ∧ (0 ≤ z.tmod n → z.tmod n = z % n) := by
  have h1 := Int.lt_tmod_of_pos z h
  have h2 := Int.tmod_lt_of_pos z h
  have h3 := tmod_emod z n
  refine ⟨fun h4 => ?_, fun h4 => ?_⟩
  · rw [← h3, Int.emod_eq_of_lt (by omega) (by omega)]
  · rw [← h3, Int.add_emod_right, Int.emod_eq_of_lt h4 h2]
set_option maxHeartbeats 2000000 in
set_option maxRecDepth 100000 in
theorem rdecide_any (l : List Int) (v : Value) (n : Int) (w : World) (hv : Ints w v l) (hl : l.length ≤ 1000000) (h0 : 0 < n) (h1 : n ≤ 2000000000) : Calls Try.prog 46 #[v, .int .i64 n] w (RDecQ w l n) := by
  obtain ⟨A, ca, rfl⟩ := ints_form hv
  rcases l with _ | ⟨z, t⟩
  · have d0 : (((0 : Nat) : Int) == 0) = true := rfl
    have d0' : ((0 : Int) == 0) = true := rfl
    clear hv
    go_enter Try.func46, Try.ntmps46
    go_wp2
    go_ret2
    exact ⟨_, rfl, World.ownsRow_nil _ _ _ _, Below.refl _ _⟩
  · obtain ⟨m, hm⟩ : ∃ m, (z :: t).length = m := ⟨_, rfl⟩
    rw [hm] at hv hl ⊢
    obtain ⟨b, off, rfl, hb, hq⟩ := ints_cells hv (by simp)
    have q0 := hq 0 z rfl
    rw [Nat.add_zero] at q0
    have hm1 : 1 ≤ m := by rw [← hm]; simp
    have dm : ((m : Int) == 0) = false := by rw [beq_eq_false_iff_ne]; omega
    have hmI : (0 : Int) < (m : Int) := by omega
    have hmN : 0 < m := by omega
    have hsl := run_slice1 (some ⟨b, off, none⟩) m ca hm1
    obtain ⟨fA, hfA⟩ : ∃ fA, fromN 1 (some ⟨b, off, none⟩) ca 1 = fA := ⟨_, rfl⟩
    rw [hfA] at hsl
    have HT := hid (ints_tail hv (by simp))
    rw [hfA] at HT
    obtain ⟨hc1, hc2⟩ := tmod_case z n h0
    have hl1 := Int.lt_tmod_of_pos z h0
    have hh := Int.tmod_lt_of_pos z h0
    have hne : (n == 0) = false := by rw [beq_eq_false_iff_ne]; omega
    have hbw := hb
    have HC1 := hid hc1
    have HC2 := hid hc2
    have HTL : Hid ((z :: t).tail.length + 1 = m) := hid (by rw [← hm]; simp)
    clear hv hq hfA hm hc1 hc2
    by_cases hneg : z.tmod n < 0
    · have dn : decide (z.tmod n < 0) = true := decide_eq_true hneg
      have hR1 : IntKind.i64.wrap (z.tmod n + n) = z.tmod n + n := by rw [IntKind.wrap_i64]; omega
      have HS := hid (HC1.out hneg)
      clear hneg
      go_enter Try.func46, Try.ntmps46
      go_wp2_with (at_builtin; refine append_ints rfl (.tmp 11) (.tmp 13) rfl w.heap.size (.slice none 0 0) 0 [] rfl (World.ownsRow_nil _ _ _ _) (z :: t).tail _ rfl HT.out (by have := HTL.out; omega) (Nat.le_refl _) ?_; intro v1 w1 hown1 hg1; have hkc := (hg1.block b hbw (by simp [Value.ownBlock])); have q0 : w1.cell? ⟨b, off, none⟩ = some (.int .i64 z) := (by unfold World.cell? at q0 ⊢; rw [hkc]; exact q0); have HO1 := hid hown1; have HB1 := hid ((Below.refl w.heap.size w).grown hg1 (Nat.le_refl _) (by intro k e; cases e)); obtain ⟨rA, rc, rfl⟩ := own_formE hown1; clear hown1 hg1 hkc)
      go_ret2
      exact ⟨_, congrArg (fun r => Ending.returned (.tuple #[.int .i64 r, _])) HS.out, by have h := HO1.out; simpa using h, HB1.out⟩
    · have dn : decide (z.tmod n < 0) = false := decide_eq_false hneg
      have HS := hid (HC2.out (by omega))
      clear hneg
      go_enter Try.func46, Try.ntmps46
      go_wp2_with (at_builtin; refine append_ints rfl (.tmp 11) (.tmp 13) rfl w.heap.size (.slice none 0 0) 0 [] rfl (World.ownsRow_nil _ _ _ _) (z :: t).tail _ rfl HT.out (by have := HTL.out; omega) (Nat.le_refl _) ?_; intro v1 w1 hown1 hg1; have hkc := (hg1.block b hbw (by simp [Value.ownBlock])); have q0 : w1.cell? ⟨b, off, none⟩ = some (.int .i64 z) := (by unfold World.cell? at q0 ⊢; rw [hkc]; exact q0); have HO1 := hid hown1; have HB1 := hid ((Below.refl w.heap.size w).grown hg1 (Nat.le_refl _) (by intro k e; cases e)); obtain ⟨rA, rc, rfl⟩ := own_formE hown1; clear hown1 hg1 hkc)
      go_ret2
      exact ⟨_, congrArg (fun r => Ending.returned (.tuple #[.int .i64 r, _])) HS.out, by have h := HO1.out; simpa using h, HB1.out⟩
/-- A step's payload. -/
def pay (size number : Nat) : List Nat := number :: List.range (size % 9)
theorem range_snoc (n : Nat) : List.range (n + 1) = List.range n ++ [n] := List.range_succ
set_option maxHeartbeats 2000000 in
set_option maxRecDepth 100000 in
theorem payload_any (size wait number : Nat) (w : World) (hs : size < 256) (hn : number < 256) : Calls Try.prog 32 #[.agg #[.int .u8 (size : Int), .int .u8 (wait : Int)], .int .i64 (number : Int)] w (MadeO w (pay size number)) := by
  obtain ⟨g, hg⟩ : ∃ g, w.heap.size = g := ⟨_, rfl⟩
  obtain ⟨W1, hW1⟩ : ∃ X, (w.alloc (.cells #[.int .u8 (size : Int), .int .u8 (wait : Int)] 64)).alloc (.cells #[.int .u8 (number : Int)] 5) = X := ⟨_, rfl⟩
  have hb1 : Below w.heap.size w W1 := by rw [← hW1]; exact ((Below.refl _ w).alloc (Nat.le_refl _) _).alloc (by simp) _
  have HX1 : Hid (W1.heap[g]? = some (.cells #[.int .u8 (size : Int), .int .u8 (wait : Int)] 64)) := hid (by rw [← hW1, ← hg]; exact (Below.heap_alloc _ _ _ (by simp)).trans (heap_alloc_new w _))
  have HO1 : Hid (W1.ownsRow g 5 1 (.slice (some ⟨g + 1, 0, none⟩) 1 1) 1 ([number].map byteV)) := hid (by
    have h := own_new (w.alloc (.cells #[.int .u8 (size : Int), .int .u8 (wait : Int)] 64)) ([number].map byteV) 5 1 1 rfl (by unfold maxLen; omega)
    rw [← hW1]
    have e : (w.alloc (.cells #[.int .u8 (size : Int), .int .u8 (wait : Int)] 64)).heap.size = g + 1 := by simp [hg]
    rw [e] at h
    exact own_base h (Nat.le_succ _))
  have HB1 := hid hb1
  have HW1 := hid hW1
  have HG := hid hg
  obtain ⟨m, hm⟩ : ∃ m, size % 9 = m := ⟨_, rfl⟩
  have hm9 : m < 9 := by omega
  have HMM := hid hm
  have e1 : IntKind.u8.wrap (number : Int) = (number : Int) := by rw [IntKind.wrap_u8]; omega
  have e2 : IntKind.u8.wrap ((size : Int) % 9) = (m : Int) := by rw [IntKind.wrap_u8]; omega
  have e3 : ((size : Int) % 9) = (m : Int) := by omega
  clear hb1 hW1 hg hm
  go_enter Try.func32, Try.ntmps32
  go_upto_region 2 with fail
  rw [HW1.out, HG.out]
  go_wp2_with fail
  go_loopw [6, 5] (fun i bv wr => ∃ k : Nat, k ≤ m ∧ i = .int .i64 (k : Int) ∧ Hid (wr.ownsRow g 5 1 bv (k + 1) ((number :: List.range k).map byteV)) ∧ Hid (Below W1.heap.size W1 wr ∨ True) ∧ Hid (Below w.heap.size w wr) ∧ Hid (wr.heap[g]? = some (.cells #[.int .u8 (size : Int), .int .u8 (wait : Int)] 64))) (fun i _ _ => m - (Lib.intOf i).toNat)
  case atStart => exact ⟨0, Nat.zero_le _, rfl, HO1, hid (.inr trivial), HB1, HX1⟩
  case round =>
    obtain ⟨k, hk, rfl, HO, _, HB, HX⟩ := hrel
    obtain ⟨bA, bc, rfl⟩ := own_form HO.out
    have x0 := cell_of_row _ _ 0 _ _ _ HX.out
    have hgw := box_lt HX.out
    have hgs : g ≤ wr.heap.size := by omega
    by_cases hkm : k < m
    · have hkm' : (k : Int) < (m : Int) := by omega
      have dk : decide ((k : Int) < (m : Int)) = true := decide_eq_true hkm'
      have e4 : IntKind.u8.wrap (k : Int) = (k : Int) := by rw [IntKind.wrap_u8]; omega
      go_wp2_with (at_builtin; refine append_byt rfl (.tmp 18) (.tmp 21) rfl g (.slice bA (k + 1) bc) (k + 1) _ rfl (own_keep HO.out (keep_below (al1 _ _))) [k] _ rfl (byt_one wr k (by omega)) (nilOk_some _ _ _) (by simp; omega) (by simp; omega) ?_; intro v2 w2 hown2 hg2; have how := own_keep HO.out (keep_below (al1 wr (.cells #[.int .u8 (k : Int)] 5))); have HX2 := hid (keep_grown (T := 64) how (by decide) hg2 _ _ ((keep_below (al1 wr (.cells #[.int .u8 (k : Int)] 5))) _ _ HX.out)); have HB2 := hid (below_ownE (HB.out.alloc HB.out.size _) how hg2 (by have := HB.out.size; simp; omega) (by rw [HG.out]; exact Nat.le_refl _)); obtain ⟨cA, cc, rfl⟩ := own_form hown2; have HO2 := hid hown2; clear hown2 hg2 how)
      go_roundw
      case rel => exact ⟨k + 1, by omega, by go_num, hid (by have h := HO2.out; rw [List.range_succ]; simpa using h), hid (.inr trivial), HB2, HX2⟩
      case measure => simp [Lib.intOf]; omega
    · obtain rfl : k = m := by omega
      have dk : decide ((k : Int) < (k : Int)) = false := decide_eq_false (by omega)
      go_wp2_with fail
      go_ret
      refine ⟨_, rfl, ?_, HB.out⟩
      rw [HG.out]
      unfold pay
      rw [HMM.out]
      have h := HO.out
      simpa using h
/-- Steps that can be read. -/
def Sts (w : World) (v : Value) (l : List (Nat × Nat)) : Prop := (∀ x ∈ l, x.1 < 256 ∧ x.2 < 256) ∧ Arr w v 2 (l.map fun x => [.int .u8 (x.1 : Int), .int .u8 (x.2 : Int)])
theorem Sts.below {w w' : World} {v : Value} {l : List (Nat × Nat)} (h : Sts w v l) (hb : Below w.heap.size w w') : Sts w' v l := ⟨h.1, h.2.below hb⟩
theorem sts_form {w : World} {v : Value} {l : List (Nat × Nat)} (h : Sts w v l) : ∃ A c, v = .slice A l.length c := by
  obtain ⟨A, c, e⟩ := arr_form h.2
  rw [List.length_map] at e
  exact ⟨A, c, e⟩
theorem sts_cells {w : World} {A : Option Addr} {n c : Nat} {l : List (Nat × Nat)} (h : Sts w (.slice A n c) l) (hp : 0 < l.length) : ∃ b off, A = some ⟨b, off, none⟩ ∧ b < w.heap.size ∧ ∀ (i : Nat) (x : Nat × Nat), l[i]? = some x → w.cell? ⟨b, off + i * 2, none⟩ = some (.int .u8 (x.1 : Int)) ∧ w.cell? ⟨b, off + i * 2 + 1, none⟩ = some (.int .u8 (x.2 : Int)) := by
  obtain ⟨b, off, h1, h2, h3⟩ := arr_at1 h.2 (by rw [List.length_map]; exact hp)
  refine ⟨b, off, h1, h2, fun i x hx => ?_⟩
  have hr : (l.map fun x => [Value.int .u8 (x.1 : Int), .int .u8 (x.2 : Int)])[i]? = some [.int .u8 (x.1 : Int), .int .u8 (x.2 : Int)] := by rw [List.getElem?_map, hx]; rfl
  exact ⟨h3 i _ hr 0 _ rfl, h3 i _ hr 1 _ rfl⟩
/-- Is a run small, and its configuration possible? -/
def fitB (mn mx rt : Int) (n c : Nat) : Bool := decide (0 ≤ mn ∧ mn ≤ mx ∧ mx ≤ 100 ∧ 0 ≤ rt ∧ rt ≤ 100 ∧ n ≤ 20 ∧ c ≤ 100)
set_option maxHeartbeats 4000000 in
set_option maxRecDepth 100000 in
theorem fit_any (mn mx rt : Int) (A B : Option Addr) (n c n2 c2 : Nat) (w : World) : Calls Try.prog 30 #[.agg #[.int .i64 mn, .int .i64 mx, .int .i64 rt, .slice A n c, .slice B n2 c2]] w fun e w' => e = .returned (.bool (fitB mn mx rt n n2)) ∧ Below w.heap.size w w' := by
  obtain ⟨b, hb⟩ : ∃ b, fitB mn mx rt n n2 = b := ⟨_, rfl⟩
  rw [hb]
  unfold fitB at hb
  obtain ⟨g, hg⟩ : ∃ g, w.heap.size = g := ⟨_, rfl⟩
  obtain ⟨W1, hW1⟩ : ∃ X, (w.alloc (.cells #[.int .i64 mn, .int .i64 mx, .int .i64 rt, .slice A n c, .slice B n2 c2] 58)).alloc (.cells #[.int .i64 mn, .int .i64 mx, .int .i64 rt] 23) = X := ⟨_, rfl⟩
  have hx1 : W1.heap[g]? = some (.cells #[.int .i64 mn, .int .i64 mx, .int .i64 rt, .slice A n c, .slice B n2 c2] 58) := by rw [← hW1, ← hg]; exact (Below.heap_alloc _ _ _ (by simp)).trans (heap_alloc_new w _)
  have hy1 : W1.heap[g + 1]? = some (.cells #[.int .i64 mn, .int .i64 mx, .int .i64 rt] 23) := by rw [← hW1, ← hg]; simpa using heap_alloc_new (w.alloc (.cells #[.int .i64 mn, .int .i64 mx, .int .i64 rt, .slice A n c, .slice B n2 c2] 58)) (.cells #[.int .i64 mn, .int .i64 mx, .int .i64 rt] 23)
  have HB1 : Hid (Below w.heap.size w W1) := hid (by rw [← hW1]; exact ((Below.refl _ w).alloc (Nat.le_refl _) _).alloc (by simp) _)
  have x3 := cell_of_row _ _ 3 _ _ _ hx1
  have x4 := cell_of_row _ _ 4 _ _ _ hx1
  have y0 := cell_of_row _ _ 0 _ _ _ hy1
  have y1 := cell_of_row _ _ 1 _ _ _ hy1
  have y2 := cell_of_row _ _ 2 _ _ _ hy1
  have HW1 := hid hW1
  have HG := hid hg
  clear hx1 hy1 hW1 hg
  by_cases h0 : 0 ≤ mn
  rotate_left
  · have d0 : decide (0 ≤ mn) = false := decide_eq_false (by omega)
    obtain rfl : false = b := by rw [← hb]; exact (decide_eq_false (by omega)).symm
    clear hb
    go_enter Try.func30, Try.ntmps30
    go_upto_region 2 with fail
    rw [HW1.out, HG.out]
    go_wp2_with fail
    go_ret
    exact ⟨rfl, HB1.out⟩
  have d0 : decide (0 ≤ mn) = true := decide_eq_true (by omega)
  by_cases h1 : mn ≤ mx
  rotate_left
  · have d1 : decide (mn ≤ mx) = false := decide_eq_false (by omega)
    obtain rfl : false = b := by rw [← hb]; exact (decide_eq_false (by omega)).symm
    clear hb
    go_enter Try.func30, Try.ntmps30
    go_upto_region 2 with fail
    rw [HW1.out, HG.out]
    go_wp2_with fail
    go_ret
    exact ⟨rfl, HB1.out⟩
  have d1 : decide (mn ≤ mx) = true := decide_eq_true (by omega)
  by_cases h2 : mx ≤ 100
  rotate_left
  · have d2 : decide (mx ≤ 100) = false := decide_eq_false (by omega)
    obtain rfl : false = b := by rw [← hb]; exact (decide_eq_false (by omega)).symm
    clear hb
    go_enter Try.func30, Try.ntmps30
    go_upto_region 2 with fail
    rw [HW1.out, HG.out]
    go_wp2_with fail
    go_ret
    exact ⟨rfl, HB1.out⟩
  have d2 : decide (mx ≤ 100) = true := decide_eq_true (by omega)
  by_cases h3 : 0 ≤ rt
  rotate_left
  · have d3 : decide (0 ≤ rt) = false := decide_eq_false (by omega)
    obtain rfl : false = b := by rw [← hb]; exact (decide_eq_false (by omega)).symm
    clear hb
    go_enter Try.func30, Try.ntmps30
    go_upto_region 2 with fail
    rw [HW1.out, HG.out]
    go_wp2_with fail
    go_ret
    exact ⟨rfl, HB1.out⟩
  have d3 : decide (0 ≤ rt) = true := decide_eq_true (by omega)
  by_cases h4 : rt ≤ 100
  rotate_left
  · have d4 : decide (rt ≤ 100) = false := decide_eq_false (by omega)
    obtain rfl : false = b := by rw [← hb]; exact (decide_eq_false (by omega)).symm
    clear hb
    go_enter Try.func30, Try.ntmps30
    go_upto_region 2 with fail
    rw [HW1.out, HG.out]
    go_wp2_with fail
    go_ret
    exact ⟨rfl, HB1.out⟩
  have d4 : decide (rt ≤ 100) = true := decide_eq_true (by omega)
  by_cases h5 : n ≤ 20
  rotate_left
  · have d5 : decide ((n : Int) ≤ 20) = false := decide_eq_false (by omega)
    obtain rfl : false = b := by rw [← hb]; exact (decide_eq_false (by omega)).symm
    clear hb
    go_enter Try.func30, Try.ntmps30
    go_upto_region 2 with fail
    rw [HW1.out, HG.out]
    go_wp2_with fail
    go_ret
    exact ⟨rfl, HB1.out⟩
  have d5 : decide ((n : Int) ≤ 20) = true := decide_eq_true (by omega)
  by_cases h6 : n2 ≤ 100
  rotate_left
  · have d6 : decide ((n2 : Int) ≤ 100) = false := decide_eq_false (by omega)
    obtain rfl : false = b := by rw [← hb]; exact (decide_eq_false (by omega)).symm
    clear hb
    go_enter Try.func30, Try.ntmps30
    go_upto_region 2 with fail
    rw [HW1.out, HG.out]
    go_wp2_with fail
    go_ret
    exact ⟨rfl, HB1.out⟩
  have d6 : decide ((n2 : Int) ≤ 100) = true := decide_eq_true (by omega)
  obtain rfl : true = b := by rw [← hb]; exact (decide_eq_true ⟨h0, h1, h2, h3, h4, h5, h6⟩).symm
  clear hb
  go_enter Try.func30, Try.ntmps30
  go_upto_region 2 with fail
  rw [HW1.out, HG.out]
  go_wp2_with fail
  go_ret
  exact ⟨rfl, HB1.out⟩
end Go.Proofs.Ytacpejoablcffaa
