/- Same; fit. -/
import Derived.Test.YtcmmkeadbedooaaP
namespace Go.Proofs.Ytcmmkeadbedooaa
open Go.RowKit Go.Lib

theorem str_eq {a b : List Nat} (ha : B8 a) (hb : B8 b) : ((strOfNums (ints a)).toList == (strOfNums (ints b)).toList) = decide (a = b) := by
  rw [ByteArray.toList_eq, ByteArray.toList_eq]
  by_cases h : a = b
  · subst h; simp
  · rw [decide_eq_false h]
    rw [beq_eq_false_iff_ne]
    intro he
    apply h
    have h1 := he
    simp only [strOfNums_data, ints, List.map_map] at h1
    clear he h
    induction a generalizing b with
    | nil => cases b with
      | nil => rfl
      | cons y b => simp at h1
    | cons x a ih =>
      cases b with
      | nil => simp at h1
      | cons y b =>
        simp only [List.map_cons, List.cons.injEq] at h1
        have hx := ha x (List.mem_cons_self ..)
        have hy := hb y (List.mem_cons_self ..)
        have h2 := congrArg UInt8.toNat h1.1
        simp at h2
        rw [ih (fun z hz => ha z (List.mem_cons_of_mem _ hz)) (fun z hz => hb z (List.mem_cons_of_mem _ hz)) h1.2, show x = y by omega]
/-- A record as a value. -/
def recV (k q : Int) (v : Value) : Value := .agg #[.int .i64 k, .int .i64 q, v]
set_option maxHeartbeats 2000000 in
set_option maxRecDepth 100000 in
theorem same_any (k q k' q' : Int) (a b : List Nat) (v u : Value) (w : World) (hv : Byt w v a) (hu : Byt w u b) :
    Calls Try.prog 19 #[.agg #[.int .i64 k, .int .i64 q, v], .agg #[.int .i64 k', .int .i64 q', u]] w fun e w' => e = .returned (.bool (decide (k = k' ∧ q = q' ∧ a = b))) ∧ Below w.heap.size w w' := by
  obtain ⟨A, c, rfl⟩ := byt_form hv
  obtain ⟨C, d, rfl⟩ := byt_form hu
  have e3 := str_eq hv.1 hu.1
  obtain ⟨W1, hW1⟩ : ∃ W1, w.alloc (.cells #[.int .i64 k, .int .i64 q, .slice A a.length c] 27) = W1 := ⟨_, rfl⟩
  obtain ⟨W2, hW2⟩ : ∃ W2, W1.alloc (.cells #[.int .i64 k', .int .i64 q', .slice C b.length d] 27) = W2 := ⟨_, rfl⟩
  have hb1 : Below w.heap.size w W1 := by rw [← hW1]; exact al1 _ _
  have hb2 : Below W1.heap.size W1 W2 := by rw [← hW2]; exact al1 _ _
  have hx1' : W1.heap[w.heap.size]? = some (.cells #[.int .i64 k, .int .i64 q, .slice A a.length c] 27) := by rw [← hW1]; exact heap_alloc_new _ _
  have hs1 : W1.heap.size = w.heap.size + 1 := by rw [← hW1]; simp
  have hx1 := (hb2.block w.heap.size (by omega)).trans hx1'
  have hx2 : W2.heap[W1.heap.size]? = some (.cells #[.int .i64 k', .int .i64 q', .slice C b.length d] 27) := by rw [← hW2]; exact heap_alloc_new _ _
  rw [hs1] at hx2
  have hbw : Below w.heap.size w W2 := hb1.trans (hb2.mono hb1.size)
  have e1 := byt_conv (hv.below hbw)
  have e2 := byt_conv (hu.below hbw)
  have p0 : W2.cell? ⟨w.heap.size, 0, none⟩ = some (.int .i64 k) := cell_of_row _ _ 0 _ _ _ hx1
  have p1 : W2.cell? ⟨w.heap.size, 1, none⟩ = some (.int .i64 q) := cell_of_row _ _ 1 _ _ _ hx1
  have p2 : W2.cell? ⟨w.heap.size, 2, none⟩ = some (.slice A a.length c) := cell_of_row _ _ 2 _ _ _ hx1
  have q0 : W2.cell? ⟨w.heap.size + 1, 0, none⟩ = some (.int .i64 k') := cell_of_row _ _ 0 _ _ _ hx2
  have q1 : W2.cell? ⟨w.heap.size + 1, 1, none⟩ = some (.int .i64 q') := cell_of_row _ _ 1 _ _ _ hx2
  have q2 : W2.cell? ⟨w.heap.size + 1, 2, none⟩ = some (.slice C b.length d) := cell_of_row _ _ 2 _ _ _ hx2
  obtain ⟨s, hs⟩ : ∃ s, strOfNums (ints a) = s := ⟨_, rfl⟩
  obtain ⟨t, ht⟩ : ∃ t, strOfNums (ints b) = t := ⟨_, rfl⟩
  obtain ⟨z, hz⟩ : ∃ z, decide (a = b) = z := ⟨_, rfl⟩
  rw [hs] at e1 e3
  rw [ht] at e2 e3
  rw [hz] at e3
  have HZ := hid hz
  have HBW := hid hbw
  clear hs ht hz hv hu hb1 hb2 hx1' hx1 hx2 hbw hs1
  subst hW1
  subst hW2
  by_cases hk : k = k'
  · have d1 : (k == k') = true := by rw [beq_iff_eq]; exact hk
    by_cases hq : q = q'
    · have d2 : (q == q') = true := by rw [beq_iff_eq]; exact hq
      have HD : Hid (decide (k = k' ∧ q = q' ∧ a = b) = z) := hid (by rw [← HZ.out]; simp [hk, hq])
      clear hk hq
      go_enter Try.func19, Try.ntmps19
      go_wp2
      go_ret
      exact ⟨congrArg (fun b => Ending.returned (Value.bool b)) HD.out.symm, HBW.out⟩
    · have d2 : (q == q') = false := by rw [beq_eq_false_iff_ne]; exact hq
      have HD : Hid (decide (k = k' ∧ q = q' ∧ a = b) = false) := hid (by simp [hq])
      clear hk hq
      go_enter Try.func19, Try.ntmps19
      go_wp2
      go_ret
      exact ⟨congrArg (fun b => Ending.returned (Value.bool b)) HD.out.symm, HBW.out⟩
  · have d1 : (k == k') = false := by rw [beq_eq_false_iff_ne]; exact hk
    have HD : Hid (decide (k = k' ∧ q = q' ∧ a = b) = false) := hid (by simp [hk])
    clear hk
    go_enter Try.func19, Try.ntmps19
    go_wp2
    go_ret
    exact ⟨congrArg (fun b => Ending.returned (Value.bool b)) HD.out.symm, HBW.out⟩
/-- A kind, a sequence number that are possible. -/
def fk (k : Int) : Nat := k.natAbs % 255 + 1
def fq (q : Int) : Nat := q.natAbs % 1000000 + 1
theorem tmod_abs (k m : Int) (_hm : 0 < m) : (0 ≤ Int.tmod k m ∧ Int.tmod k m = ((k.natAbs % m.natAbs : Nat) : Int)) ∨ (Int.tmod k m < 0 ∧ -(Int.tmod k m) = ((k.natAbs % m.natAbs : Nat) : Int)) := by
  have h : (Int.tmod k m).natAbs = k.natAbs % m.natAbs := Int.natAbs_tmod k m
  omega
set_option maxHeartbeats 2000000 in
set_option maxRecDepth 100000 in
theorem fit_any (k q : Int) (v : Value) (A : Option Addr) (n c : Nat) (w : World) (hv : v = .slice A n c) :
    Calls Try.prog 23 #[.agg #[.int .i64 k, .int .i64 q, v]] w fun e w' => e = .returned (.agg #[.int .i64 (fk k : Nat), .int .i64 (fq q : Nat), v]) ∧ Below w.heap.size w w' := by
  subst hv
  obtain ⟨a, ha⟩ : ∃ a, k.natAbs % 255 = a := ⟨_, rfl⟩
  obtain ⟨b, hb⟩ : ∃ b, q.natAbs % 1000000 = b := ⟨_, rfl⟩
  have ha' : a < 255 := by omega
  have hb' : b < 1000000 := by omega
  have h1 := tmod_abs k 255 (by decide)
  have h2 := tmod_abs q 1000000 (by decide)
  rw [show (255 : Int).natAbs = 255 from rfl, ha] at h1
  rw [show (1000000 : Int).natAbs = 1000000 from rfl, hb] at h2
  have hfk : fk k = a + 1 := by unfold fk; rw [ha]
  have hfq : fq q = b + 1 := by unfold fq; rw [hb]
  rw [hfk, hfq]
  have hb0 : Below w.heap.size w (w.alloc (.cells #[.int .i64 k, .int .i64 q, .slice A n c] 27)) := al1 _ _
  have hx1 : (w.alloc (.cells #[.int .i64 k, .int .i64 q, .slice A n c] 27)).heap[w.heap.size]? = some (.cells #[.int .i64 k, .int .i64 q, .slice A n c] 27) := heap_alloc_new w _
  have hsz : (w.alloc (.cells #[.int .i64 k, .int .i64 q, .slice A n c] 27)).heap.size = w.heap.size + 1 := by simp
  obtain ⟨W0, hW0⟩ : ∃ W0, w.alloc (.cells #[.int .i64 k, .int .i64 q, .slice A n c] 27) = W0 := ⟨_, rfl⟩
  rw [hW0] at hb0 hx1 hsz
  have hb1 : Below w.heap.size w (W0.alloc (.cells #[.int .i64 ((a : Int) + 1), .int .i64 ((b : Int) + 1), .slice A n c] 27)) := hb0.alloc (by omega) _
  have hy1 : ∀ o : Obj, (W0.alloc o).heap[w.heap.size]? = some (.cells #[.int .i64 k, .int .i64 q, .slice A n c] 27) := fun o => (Below.heap_alloc _ _ _ (by omega)).trans hx1
  have hp := hy1 (.cells #[.int .i64 0, .int .i64 0, .slice none 0 0] 27)
  have p0 : (W0.alloc (.cells #[.int .i64 0, .int .i64 0, .slice none 0 0] 27)).cell? ⟨w.heap.size, 0, none⟩ = some (.int .i64 k) := cell_of_row _ _ 0 _ _ _ hp
  have p1 : (W0.alloc (.cells #[.int .i64 0, .int .i64 0, .slice none 0 0] 27)).cell? ⟨w.heap.size, 1, none⟩ = some (.int .i64 q) := cell_of_row _ _ 1 _ _ _ hp
  have p2 : (W0.alloc (.cells #[.int .i64 0, .int .i64 0, .slice none 0 0] 27)).cell? ⟨w.heap.size, 2, none⟩ = some (.slice A n c) := cell_of_row _ _ 2 _ _ _ hp
  have hr : (W0.alloc (.cells #[.int .i64 ((a : Int) + 1), .int .i64 ((b : Int) + 1), .slice A n c] 27)).heap[w.heap.size + 1]? = some (.cells #[.int .i64 ((a : Int) + 1), .int .i64 ((b : Int) + 1), .slice A n c] 27) := by
    have h := heap_alloc_new W0 (.cells #[.int .i64 ((a : Int) + 1), .int .i64 ((b : Int) + 1), .slice A n c] 27)
    rw [hsz] at h
    exact h
  have HR := hid hr
  have HB1 := hid hb1
  subst hW0
  clear hb0 hx1 hsz hb1 hy1 hp hr ha hb hfk hfq
  have key : ∀ x y : Int, Int.tmod k 255 = x → Int.tmod q 1000000 = y → ((0 ≤ x ∧ x = (a : Int)) ∨ (x < 0 ∧ -x = (a : Int))) → ((0 ≤ y ∧ y = (b : Int)) ∨ (y < 0 ∧ -y = (b : Int))) →
      Calls Try.prog 23 #[.agg #[.int .i64 k, .int .i64 q, .slice A n c]] w fun e w' => e = .returned (.agg #[.int .i64 (a + 1 : Nat), .int .i64 (b + 1 : Nat), .slice A n c]) ∧ Below w.heap.size w w' := by
    intro x y hx hy h1 h2
    rcases h1 with h1 | h1
    · obtain rfl := h1.2
      have da : decide ((a : Int) < 0) = false := decide_eq_false (by omega)
      rcases h2 with h2 | h2
      · obtain rfl := h2.2
        have db : decide ((b : Int) < 0) = false := decide_eq_false (by omega)
        clear h1 h2
        go_enter Try.func23, Try.ntmps23
        go_wp2_with fail
        refine bodyPost_ret (results_cell_row rfl _ _ (w.heap.size + 1) 27 #[.int .i64 ((a : Int) + 1), .int .i64 ((b : Int) + 1), .slice A n c] (0, 0) _ rfl HR.out Try.underlying27 rfl rfl) rfl ?_
        exact ⟨by simp, HB1.out⟩
      · have HNb := hid h2.2
        have db : decide (y < 0) = true := decide_eq_true h2.1
        clear h1 h2
        go_enter Try.func23, Try.ntmps23
        go_wp2_with fail
        rw [HNb.out]
        refine bodyPost_ret (results_cell_row rfl _ _ (w.heap.size + 1) 27 #[.int .i64 ((a : Int) + 1), .int .i64 ((b : Int) + 1), .slice A n c] (0, 0) _ rfl HR.out Try.underlying27 rfl rfl) rfl ?_
        exact ⟨by simp, HB1.out⟩
    · have HNa := hid h1.2
      have da : decide (x < 0) = true := decide_eq_true h1.1
      rcases h2 with h2 | h2
      · obtain rfl := h2.2
        have db : decide ((b : Int) < 0) = false := decide_eq_false (by omega)
        clear h1 h2
        go_enter Try.func23, Try.ntmps23
        go_wp2_with fail
        rw [HNa.out]
        refine bodyPost_ret (results_cell_row rfl _ _ (w.heap.size + 1) 27 #[.int .i64 ((a : Int) + 1), .int .i64 ((b : Int) + 1), .slice A n c] (0, 0) _ rfl HR.out Try.underlying27 rfl rfl) rfl ?_
        exact ⟨by simp, HB1.out⟩
      · have HNb := hid h2.2
        have db : decide (y < 0) = true := decide_eq_true h2.1
        clear h1 h2
        go_enter Try.func23, Try.ntmps23
        go_wp2_with fail
        rw [HNa.out]
        rw [HNb.out]
        refine bodyPost_ret (results_cell_row rfl _ _ (w.heap.size + 1) 27 #[.int .i64 ((a : Int) + 1), .int .i64 ((b : Int) + 1), .slice A n c] (0, 0) _ rfl HR.out Try.underlying27 rfl rfl) rfl ?_
        exact ⟨by simp, HB1.out⟩
  exact key _ _ rfl rfl h1 h2
end Go.Proofs.Ytcmmkeadbedooaa
