/- CHECKSUM, carried over: the digest, its iterators, Sectors, Pair and the reference's. -/
import Derived.Test.YtbcnikmhodkbfaaK
import Derived.Laws.Shifts
import Derived.StillTailTactics
import Derived.Deep.WholeRow
import Derived.IntWalk
namespace Go.Proofs.Ytbcnikmhodkbfaa.Cs
open Go.RowKit Go.Lib Go.Shelf
def B8 (l : List Nat) : Prop := ∀ b ∈ l, b < 256

theorem xor_inj {a b c : Nat} (h : a ^^^ c = b ^^^ c) : a = b := by
  have := congrArg (fun x => x ^^^ c) h
  simp only [Nat.xor_assoc, Nat.xor_self, Nat.xor_zero] at this
  exact this
theorem xor_inj' {a b c : Nat} (h : c ^^^ a = c ^^^ b) : a = b := by rw [Nat.xor_comm c, Nat.xor_comm c] at h; exact xor_inj h
theorem mul_back {p q M k z : Nat} (h : p * q = M * k + 1) (hz : z < M) : (z * p % M * q) % M = z := by
  rw [Nat.mod_mul_mod, Nat.mul_assoc, h, Nat.mul_add, Nat.mul_one, Nat.mul_left_comm, Nat.mul_add_mod, Nat.mod_eq_of_lt hz]
theorem mul_inj {p q M k x y : Nat} (h : p * q = M * k + 1) (hx : x < M) (hy : y < M) (e : x * p % M = y * p % M) : x = y := by
  rw [← mul_back h hx, e, mul_back h hy]
/-- The modulus and the prime, behind names. -/
def M64 : Nat := 18446744073709551616
def prime : Nat := 1099511628211
theorem M64_pow : M64 = 2 ^ 64 := by decide +kernel
theorem prime_inv : prime * 14886173955864302971 = M64 * 887285111055 + 1 := by decide +kernel
def stepD (h b : Nat) : Nat := ((h ^^^ b) * prime) % M64
def dig0 (h : Nat) (l : List Nat) : Nat := l.foldl stepD h
def fin (h : Nat) : Nat := h ^^^ (h / 4294967296)
def dig (l : List Nat) : Nat := fin (dig0 14695981039346656037 l)
theorem dig0_nil (h : Nat) : dig0 h [] = h := by unfold dig0; rw [List.foldl_nil]
theorem dig0_cons (h b : Nat) (l : List Nat) : dig0 h (b :: l) = dig0 (stepD h b) l := by unfold dig0; rw [List.foldl_cons]
theorem dig0_snoc (h b : Nat) (l : List Nat) : dig0 h (l ++ [b]) = stepD (dig0 h l) b := by unfold dig0; rw [List.foldl_append, List.foldl_cons, List.foldl_nil]
theorem dig0_append (h : Nat) (l m : List Nat) : dig0 h (l ++ m) = dig0 (dig0 h l) m := by unfold dig0; rw [List.foldl_append]
theorem M64_pos : 0 < M64 := by decide +kernel
theorem stepD_lt (h b : Nat) : stepD h b < M64 := by unfold stepD; exact Nat.mod_lt _ M64_pos
theorem dig0_lt {l : List Nat} : ∀ {h : Nat}, h < M64 → dig0 h l < M64 := by
  induction l with
  | nil => intro h hh; rw [dig0_nil]; exact hh
  | cons b l ih => intro h _; rw [dig0_cons]; exact ih (stepD_lt h b)
theorem start_lt : 14695981039346656037 < M64 := by decide +kernel
theorem byte_lt {b : Nat} (hb : b < 256) : b < 2 ^ 64 := Nat.lt_of_lt_of_le hb (by decide +kernel)
theorem xor_lt {h b : Nat} (hh : h < M64) (hb : b < 256) : h ^^^ b < M64 := by
  rw [M64_pow] at hh ⊢
  exact Nat.xor_lt_two_pow hh (byte_lt hb)
theorem stepD_inj {h k b : Nat} (hh : h < M64) (hk : k < M64) (hb : b < 256) (e : stepD h b = stepD k b) : h = k := by
  unfold stepD at e
  exact xor_inj (mul_inj prime_inv (xor_lt hh hb) (xor_lt hk hb) e)
theorem stepD_inj' {h b c : Nat} (hh : h < M64) (hb : b < 256) (hc : c < 256) (e : stepD h b = stepD h c) : b = c := by
  unfold stepD at e
  exact xor_inj' (mul_inj prime_inv (xor_lt hh hb) (xor_lt hh hc) e)
theorem dig0_inj {l : List Nat} : ∀ {h k : Nat}, h < M64 → k < M64 → B8 l → dig0 h l = dig0 k l → h = k := by
  induction l with
  | nil => intro h k _ _ _ e; rw [dig0_nil, dig0_nil] at e; exact e
  | cons b l ih =>
    intro h k hh hk hb e
    rw [dig0_cons, dig0_cons] at e
    exact stepD_inj hh hk (hb b (List.mem_cons_self ..)) (ih (stepD_lt h b) (stepD_lt k b) (fun x hx => hb x (List.mem_cons_of_mem _ hx)) e)
theorem high_bit {x j : Nat} (hx : x < M64) (hj : 64 ≤ j) : x.testBit j = false := by
  rw [M64_pow] at hx
  exact Nat.testBit_lt_two_pow (Nat.lt_of_lt_of_le hx (Nat.pow_le_pow_right (by decide) hj))
theorem fin_bit (x j : Nat) : (fin x).testBit j = (x.testBit j ^^ x.testBit (j + 32)) := by
  unfold fin
  rw [Nat.testBit_xor, show (4294967296 : Nat) = 2 ^ 32 from by decide +kernel, Nat.testBit_div_two_pow]
theorem fin_inj {h k : Nat} (hh : h < M64) (hk : k < M64) (e : fin h = fin k) : h = k := by
  have key : ∀ j, 32 ≤ j → h.testBit j = k.testBit j := by
    intro j hj
    have h1 : (fin h).testBit j = (fin k).testBit j := by rw [e]
    rw [fin_bit, fin_bit, high_bit (j := j + 32) hh (by omega), high_bit (j := j + 32) hk (by omega), Bool.xor_false, Bool.xor_false] at h1
    exact h1
  apply Nat.eq_of_testBit_eq
  intro j
  by_cases hj : 32 ≤ j
  · exact key j hj
  · have h1 : (fin h).testBit j = (fin k).testBit j := by rw [e]
    rw [fin_bit, fin_bit, key (j + 32) (by omega)] at h1
    revert h1
    cases h.testBit j <;> cases k.testBit j <;> cases k.testBit (j + 32) <;> decide
theorem fin_lt {h : Nat} (hh : h < M64) : fin h < M64 := by
  unfold fin
  rw [M64_pow] at hh ⊢
  exact Nat.xor_lt_two_pow hh (Nat.lt_of_le_of_lt (Nat.div_le_self _ _) hh)
theorem dig_lt (l : List Nat) : dig l < M64 := by unfold dig; exact fin_lt (dig0_lt start_lt)
theorem dig_differs {p q : List Nat} {b c : Nat} (hq : B8 q) (hb : b < 256) (hc : c < 256) (hne : b ≠ c) : dig (p ++ b :: q) ≠ dig (p ++ c :: q) := by
  intro e
  unfold dig at e
  have e1 := fin_inj (dig0_lt start_lt) (dig0_lt start_lt) e
  rw [dig0_append, dig0_append, dig0_cons, dig0_cons] at e1
  exact hne (stepD_inj' (dig0_lt start_lt) hb hc (dig0_inj (stepD_lt _ b) (stepD_lt _ c) hq e1))

section
theorem ret_int {k : IntKind} {a b : Int} (h : a = b) : Ending.returned (.int k a) = .returned (.int k b) := by rw [h]
end
section
/-- The slice value v reads as the bytes l. -/
def Byt (w : World) (v : Value) (l : List Nat) : Prop :=
  B8 l ∧ ∃ A cap, v = .slice A l.length cap ∧ l.length ≤ cap ∧ cap ≤ maxLen ∧ ∃ b off, (0 < l.length → A = some ⟨b, off, none⟩ ∧ b < w.heap.size) ∧ ∀ (i x : Nat), l[i]? = some x → w.cell? ⟨b, off + i, none⟩ = some (.int .u8 (x : Int))
theorem Byt.below {w w' : World} {v : Value} {l : List Nat} (h : Byt w v l) (hb : Below w.heap.size w w') : Byt w' v l := by
  obtain ⟨h8, A, cap, e, h1, h2, b, off, hA, hc⟩ := h
  refine ⟨h8, A, cap, e, h1, h2, b, off, fun h => ⟨(hA h).1, Nat.lt_of_lt_of_le (hA h).2 hb.size⟩, fun i x hx => ?_⟩
  have hl : 0 < l.length := by have := (List.getElem?_eq_some_iff.1 hx).1; omega
  exact (hb.cell (p := ⟨b, off + i, none⟩) (hA hl).2).trans (hc i x hx)
end
section
attribute [local go_sem] Oper.semAt_some
/-- What an iterator over the bytes l owes. -/
def Streams (n gf : Nat) (lb : Array Value) (n₀ : Nat) (l : List Nat) (w : World) : Prop :=
  SeqStopsK Fence.wide n Try.prog gf lb (fun x : Fin 256 => #[Value.int .u8 (x.val : Int)]) (Below n₀) (fun ys => ys.map (·.val) = l) (fun _ => True) l.length w
theorem take_map {l : List Nat} {k : Nat} {pre : List (Fin 256)} {x : Nat} (hx : x < 256) (h : pre.map (·.val) = l.take k) (hk : l[k]? = some x) : (pre ++ [(⟨x, hx⟩ : Fin 256)]).map (·.val) = l.take (k + 1) := by
  obtain ⟨hlt, rfl⟩ := List.getElem?_eq_some_iff.1 hk
  rw [List.map_append, h, List.take_succ_eq_append_getElem hlt]
  rfl
theorem pre_short {l : List Nat} {k : Nat} {pre : List (Fin 256)} (h : pre.map (·.val) = l.take k) (hk : k < l.length) : pre.length < l.length := by
  have := congrArg List.length h
  rw [List.length_map, List.length_take] at this
  omega
end
section
attribute [local go_sem] Oper.semAt_some
theorem fold_D (pre : List (Fin 256)) (x : Fin 256) (h : Nat) : dig0 h ((pre ++ [x]).map (·.val)) = stepD (dig0 h (pre.map (·.val))) x.val := by
  rw [List.map_append, List.map_cons, List.map_nil, dig0_snoc]
theorem step_wrap (y x : Nat) : IntKind.u64.wrap (((y ^^^ x : Nat) : Int) * 1099511628211) = ((stepD y x : Nat) : Int) := by
  have e : ∀ a : Int, IntKind.u64.wrap a = a % 18446744073709551616 := fun a => by simp [IntKind.wrap, IntKind.bits, IntKind.signed]
  rw [e]
  unfold stepD M64 prime
  rw [Int.natCast_emod, Int.natCast_mul]
  rfl
set_option maxRecDepth 100000 in
set_option maxHeartbeats 2000000 in
theorem digest_any (gf : Nat) (lb : Array Value) (n₀ : Nat) (l : List Nat) (w : World) (hS : Streams 2 gf lb n₀ l w) (hn₀ : n₀ ≤ w.heap.size) (he : ∀ args w, (callFunc gf args).run Try.prog w = .ok (.enter gf args) w) :
    Calls Try.prog 74 #[.func (.func gf) #[] lb] w fun e W' => e = .returned (.int .u64 (dig l : Nat)) ∧ Below w.heap.size w W' := by
  refine (callsIn_wide (n := 3)).1 ?_
  refine callsIn_of_wp_marks Try.func74 rfl trivial ?_ rfl
  simp only [Try.ntmps74, List.size_toArray, List.length_cons, List.length_nil, Nat.reduceAdd, Nat.reduceSub, Array.replicate_succ, Array.replicate_zero, List.push_toArray, List.append_toArray, List.nil_append, List.cons_append]
  gi_wp2
  obtain ⟨s0, hs0⟩ : ∃ s0 : Nat, 14695981039346656037 = s0 := ⟨_, rfl⟩
  have hsl : s0 < M64 := by rw [← hs0]; exact start_lt
  have hse : (14695981039346656037 : Int) = (s0 : Int) := by rw [← hs0]; rfl
  have HD : Hid (dig l = fin (dig0 s0 l)) := hid (by unfold dig; rw [hs0])
  rw [hse]
  clear hs0 hse
  have bS := Boxed.new w 71 (.int .u64 (s0 : Int))
  have hB0 : Below w.heap.size w (w.alloc (.cells #[.int .u64 (s0 : Int)] 71)) := (Below.refl _ w).alloc (Nat.le_refl _) _
  refine wpIn_rangeFunc_ownG rfl (by decide) (gf := gf) (lb := lb) rfl trivial he hS belowK_t (belowK_b (n₀ := n₀) (by simp; omega)) hB0 (fun _ => rfl)
    (fun pre W => (W.cell? ⟨w.heap.size, 0, none⟩ = some (.int .u64 (dig0 s0 (pre.map (·.val)) : Nat)) ∧ W.frozen? ⟨w.heap.size, 0, none⟩ = false) ∧ Below w.heap.size w W)
    (fun _ _ _ => False)
    (OwnFrom.and (Own.from (fun s A B row hs hg hr => ⟨cell_kept hs.1 hg hr, (frozen_kept hs.1 hg hr).trans hs.2⟩) _) (ownFrom_below (Nat.le_refl _) (by simp)))
    (fun _ _ _ _ _ hs _ _ => hs)
    ⟨⟨by rw [List.map_nil, dig0_nil]; exact bS.cell, bS.frozen⟩, hB0⟩
    (fun x => { tmps := #[.func (.func gf) #[] lb, undef, .int .u64 0, .pointer (some ⟨w.heap.size, 0, none⟩), .int .u8 (x.val : Int), .func (.func gf) #[] lb, .int .u8 (x.val : Int), undef, undef, undef, undef, undef, undef, undef, undef, undef], defers := [] }) ?assign ?body ?done ?stop
  case assign =>
    intro l x W K hK
    gi_wp2
    exact hK
  case body =>
    rintro l pre x W ⟨⟨hc, hf⟩, hB⟩ _
    have HF := hid (fold_D pre x s0)
    have hyl := dig0_lt (l := pre.map (·.val)) hsl
    obtain ⟨y, hy⟩ : ∃ y, dig0 s0 (pre.map (·.val)) = y := ⟨_, rfl⟩
    rw [hy] at hc hyl HF
    have hxl := x.isLt
    have hxo := u64_xor_nat y x.val hyl (by omega)
    clear hy
    gi_wp2
    exact ⟨(KeepsOthers.setCell _ _ _).from _, (Below.refl n₀ W).setCell (p := ⟨w.heap.size, 0, none⟩) hn₀ _, ⟨by rw [HF.out, step_wrap]; exact World.cell?_setCell_same' _ _ _ (by rw [hc]; rfl), by rw [World.frozen?_setCell]; exact hf⟩, hB.setCell (p := ⟨w.heap.size, 0, none⟩) (Nat.le_refl _) _⟩
  case done =>
    rintro D ys W hD hys ⟨⟨hc, _⟩, hB⟩ hK
    have hyl := dig0_lt (l := ys.map (·.val)) hsl
    rw [hys] at hc hyl
    obtain ⟨y, hy⟩ : ∃ y, dig0 s0 l = y := ⟨_, rfl⟩
    rw [hy] at hc hyl HD
    have hxo : bits .xor .u64 (y : Int) ((y : Int) / 4294967296) = ((fin y : Nat) : Int) := u64_xor_nat y (y / 4294967296) hyl (Nat.lt_of_le_of_lt (Nat.div_le_self _ _) hyl)
    clear hy hys
    gi_wp2
    refine ⟨by simp, .inl ⟨_, _, rfl, run_takeDeferred hK, ?_⟩⟩
    exact ⟨_, results_tmp rfl _ _ _, by rw [HD.out]; rfl, hB.trans (belowK_b (w := w) (Nat.le_refl _) W D _ _ (by simp at hD; omega) hK rfl rfl)⟩
  case stop =>
    rintro D c pre W _ _ h _
    exact h.elim
end
section
theorem byt_form {w : World} {v : Value} {l : List Nat} (h : Byt w v l) : ∃ A cap, v = .slice A l.length cap := by
  obtain ⟨_, A, cap, e, _⟩ := h
  exact ⟨A, cap, e⟩
theorem al1 (w : World) (o : Obj) : Below w.heap.size w (w.alloc o) := (Below.refl _ w).alloc (Nat.le_refl _) _
theorem al_back {w W : World} {o : Obj} (h : Below (w.alloc o).heap.size (w.alloc o) W) : Below w.heap.size w W := (al1 w o).trans (h.mono (by simp))
theorem below_both {w w1 w2 : World} (h1 : Below w.heap.size w w1) (h2 : Below w1.heap.size w1 w2) : Below w.heap.size w w2 := h1.trans (h2.mono h1.size)
theorem dig_take {l : List Nat} {k x : Nat} (h0 : Nat) (h : l[k]? = some x) : dig0 h0 (l.take (k + 1)) = stepD (dig0 h0 (l.take k)) x := by
  obtain ⟨hk, rfl⟩ := List.getElem?_eq_some_iff.1 h
  rw [List.take_succ_eq_append_getElem hk, dig0_snoc]
theorem u64_eq {a b : Int} (h : a = b) : Value.int .u64 a = .int .u64 b := by rw [h]
set_option maxHeartbeats 2000000 in
theorem rdigest_any (l : List Nat) (v : Value) (w : World) (hv : Byt w v l) :
    Calls Try.prog 77 #[v] w fun e w' => e = .returned (.int .u64 (dig l : Nat)) ∧ w = w' := by
  obtain ⟨h8, A, cap, rfl, hcap, hcm, b, off, hA, hc⟩ := hv
  unfold maxLen at hcm
  have HC := hid hc
  have H8 := hid h8
  clear hc h8
  go_enter Try.func77, Try.ntmps77
  go_wp2
  obtain ⟨s0, hs0⟩ : ∃ s0 : Nat, 14695981039346656037 = s0 := ⟨_, rfl⟩
  have hsl : s0 < M64 := by rw [← hs0]; exact start_lt
  have hse : (14695981039346656037 : Int) = (s0 : Int) := by rw [← hs0]; rfl
  have HD : Hid (dig l = fin (dig0 s0 l)) := hid (by unfold dig; rw [hs0])
  rw [hse]
  clear hs0 hse
  go_loop [3, 4] (fun r i => ∃ k y : Nat, k ≤ l.length ∧ i = .int .i64 (k : Int) ∧ r = .int .u64 (y : Int) ∧ Hid (y = dig0 s0 (l.take k))) (fun _ i => l.length - (intOf i).toNat)
  case atStart => exact ⟨0, s0, by omega, rfl, rfl, hid (by rw [List.take_zero, dig0_nil])⟩
  case round =>
    obtain ⟨k, y, hk, rfl, rfl, HY⟩ := hrel
    have hyl : y < M64 := by rw [HY.out]; exact dig0_lt hsl
    by_cases hlt : k < l.length
    · obtain ⟨hA1, hb⟩ := hA (by omega)
      subst hA1
      obtain ⟨x, hx⟩ : ∃ x, l[k]? = some x := ⟨l[k], List.getElem?_eq_getElem hlt⟩
      have hxl := H8.out x (List.mem_of_getElem? hx)
      have hcl := HC.out _ _ hx
      have HN := hid (dig_take s0 hx)
      have hxo := u64_xor_nat y x hyl (by omega)
      have hsw := step_wrap y x
      clear hx
      go_wp2
      go_round
      case rel => exact ⟨k + 1, stepD y x, by omega, by go_num, by first | rfl | exact u64_eq hsw, hid (by rw [HN.out, HY.out])⟩
      case measure => simp [intOf]; omega
    · obtain rfl : k = l.length := by omega
      have hxo : bits .xor .u64 (y : Int) ((y : Int) / 4294967296) = ((fin y : Nat) : Int) := u64_xor_nat y (y / 4294967296) hyl (Nat.lt_of_le_of_lt (Nat.div_le_self _ _) hyl)
      go_wp2
      go_ret
      exact ⟨ret_int (by rw [HD.out, HY.out, List.take_of_length_le (Nat.le_refl _)]), rfl⟩
end
section
theorem byt_new (w : World) (l : List Nat) (fr : Nat × Nat) (h8 : B8 l) (hl : l.length ≤ maxLen) : Byt (w.alloc (.cells (l.map fun (x : Nat) => Value.int .u8 (x : Int)).toArray 5 fr)) (.slice (some ⟨w.heap.size, 0, none⟩) l.length l.length) l := by
  refine ⟨h8, some ⟨w.heap.size, 0, none⟩, l.length, rfl, Nat.le_refl _, hl, w.heap.size, 0, fun _ => ⟨rfl, by simp⟩, fun i x hx => ?_⟩
  rw [Nat.zero_add, cell_of_row _ _ _ _ _ _ (heap_alloc_new _ _)]
  simp [hx]
end
section
def byteV (x : Nat) : Value := .int .u8 (x : Int)
theorem info5 : (Try.prog.info? 5).map (fun i => (i.zero, i.size, i.bytes)) = some (some (.int .u8 0), 1, 1) := by kernel_rfl
theorem byteV_one (l : List Nat) : ∀ u ∈ l.map byteV, u.oneCell' = true := fun u hu => by
  obtain ⟨x, _, rfl⟩ := List.mem_map.1 hu
  rfl
/-- A slice value that is nil has no capacity. -/
def NilOk (v : Value) : Prop := ∀ n c, v = .slice none n c → c = 0
theorem nilOk_some (a : Addr) (n c : Nat) : NilOk (.slice (some a) n c) := fun n c h => by injection h with h; cases h
theorem nilOk_nil : NilOk (.slice none 0 0) := fun n c h => by injection h with _ _ h; exact h.symm
set_option maxRecDepth 100000 in
theorem append_byt {ops : Array Oper} {rest : List Oper} {o : Oper} {a : Act} {w : World} {Q : Exit → Act → World → Prop} (hgd : o.guard = none) (s x : Operand) (ho : o.op = .call { callee := .builtin .append, args := #[s, x], argTypes := #[114, 114] })
    (base : Nat) (v : Value) (k : Nat) (xs : List Value) (hs : a.eval s = v) (hown : w.ownsRow base 5 1 v k xs) (l : List Nat) (u : Value) (hx : a.eval x = u) (hsrc : Byt w u l) (hnil : NilOk u) (hk : k + l.length ≤ 100000) (hbase : base ≤ w.heap.size)
    (h : ∀ v' w', w'.ownsRow base 5 1 v' (k + l.length) (xs ++ l.map byteV) → w.grownBy w' v.ownBlock → wpList Try.prog ops Q rest (a.put o.dst v') w') : wpList Try.prog ops Q (o :: rest) a w := by
  obtain ⟨i0, hi, hz0, hz1, hz2⟩ := info_parts info5
  obtain ⟨h8, A, cap, rfl, hcap, hcm, b, off, hA, hc⟩ := hsrc
  rcases A with _ | ad
  · have hl : l = [] := by
      rcases Nat.eq_zero_or_pos l.length with h0 | h0
      · exact List.eq_nil_of_length_eq_zero h0
      · have := (hA h0).1; cases this
    subst hl
    have hc0 : cap = 0 := hnil _ _ rfl
    subst hc0
    refine wpList_append_own_none hgd s x 114 ho base 5 i0 1 Try.underlying114 hi v k xs hs hown hx ?_
    exact h v w (by simpa using hown) (World.grownBy.refl w _)
  · refine wpList_append_own w hgd s x 114 ho base 5 i0 _ 1 1 Try.underlying114 hi hz0 hz1 hz2 rfl (by decide) v k xs hs hown ad l.length cap (l.map byteV) hx (by simp) ?_ (byteV_one l) (by unfold maxLen; omega) (by omega) hbase ?_
    · intro j u hu
      rw [List.getElem?_map] at hu
      obtain ⟨z, hz, rfl⟩ := Option.map_eq_some_iff.1 hu
      have hj := (List.getElem?_eq_some_iff.1 hz).1
      have hA1 := (hA (by omega)).1
      injection hA1 with hA1
      subst hA1
      have e : (⟨b, off, none⟩ : Addr).add j = ⟨b, off + j, none⟩ := by unfold Addr.add; split <;> simp_all
      rw [e]
      exact hc j z hz
    · exact fun v' w' h1 h2 _ => h v' w' h1 h2
theorem byt_of_own {w : World} {base n : Nat} {v : Value} {l : List Nat} (h : w.ownsRow base 5 1 v n (l.map byteV)) (h8 : B8 l) : Byt w v l := by
  have hn : n = l.length := by have := h.1; simp at this; omega
  subst hn
  refine ⟨h8, ?_⟩
  rcases h.2 with ⟨rfl, hn⟩ | ⟨g, cap, cur, rfl, hb, hcur, hcap, hcm, hs, ht⟩
  · have hl : l = [] := List.eq_nil_of_length_eq_zero hn
    subst hl
    exact ⟨none, 0, rfl, Nat.le_refl _, by unfold maxLen; omega, 0, 0, fun h => absurd h (by simp), fun i x h => by simp at h⟩
  · refine ⟨some ⟨g, 0, none⟩, cap, rfl, hcap, hcm, g, 0, fun _ => ⟨rfl, (h.lt g rfl).2⟩, fun i x hi => ?_⟩
    have hl := (List.getElem?_eq_some_iff.1 hi).1
    have h0 := h.cellAt i (by omega)
    rw [List.getElem?_map, hi] at h0
    simp only [Nat.zero_add]
    exact h0
theorem own_nilOk {w : World} {base n : Nat} {v : Value} {xs : List Value} (h : w.ownsRow base 5 1 v n xs) : NilOk v := by
  rcases h.2 with ⟨rfl, _⟩ | ⟨g, cap, cur, rfl, _⟩
  · exact nilOk_nil
  · exact nilOk_some _ _ _
theorem own_form {w : World} {base n : Nat} {v : Value} {xs : List Value} (h : w.ownsRow base 5 1 v n xs) : ∃ A cap, v = .slice A n cap := by
  rcases h.2 with ⟨rfl, rfl⟩ | ⟨g, cap, cur, rfl, _⟩
  · exact ⟨none, 0, rfl⟩
  · exact ⟨_, _, rfl⟩
theorem below_own {B : Nat} {W w w' : World} {n : Nat} {v : Value} {xs : List Value} {base : Nat} (h : Below B W w) (hw : w.ownsRow base 5 1 v n xs) (hg : w.grownBy w' v.ownBlock) (hB : B ≤ w.heap.size) (hb : B ≤ base) : Below B W w' :=
  h.grown hg hB (fun k e => by have := (hw.lt k e).1; omega)
theorem own_snoc (l m : List Nat) : l.map byteV ++ m.map byteV = (l ++ m).map byteV := by rw [List.map_append]
end
section
theorem getD_B8 {x : List Nat} (h : B8 x) (j : Nat) : x.getD j 0 < 256 := by
  by_cases hj : j < x.length
  · simp only [List.getD, List.getElem?_eq_getElem hj, Option.getD_some]
    exact h _ (List.getElem_mem hj)
  · simp [List.getD, List.getElem?_eq_none (by omega : x.length ≤ j)]
end
section
attribute [local go_sem] Oper.semAt_some
/-- Sectors as lists of eight bytes. -/
def Secs (ll : List (List Nat)) : Prop := ∀ s ∈ ll, s.length = 8 ∧ B8 s
/-- The slice value v reads as the sectors ll. -/
def Sec (w : World) (v : Value) (ll : List (List Nat)) : Prop :=
  Secs ll ∧ ∃ A cap, v = .slice A ll.length cap ∧ ll.length ≤ cap ∧ cap ≤ maxLen ∧ ∃ b off, (0 < ll.length → A = some ⟨b, off, none⟩ ∧ b < w.heap.size) ∧ ∀ (i : Nat) (s : List Nat), ll[i]? = some s → ∀ (j x : Nat), s[j]? = some x → w.cell? ⟨b, off + i * 8 + j, none⟩ = some (.int .u8 (x : Int))
theorem Sec.below {w w' : World} {v : Value} {l : List (List Nat)} (h : Sec w v l) (hb : Below w.heap.size w w') : Sec w' v l := by
  obtain ⟨h8, A, cap, e, h1, h2, b, off, hA, hc⟩ := h
  refine ⟨h8, A, cap, e, h1, h2, b, off, fun h => ⟨(hA h).1, Nat.lt_of_lt_of_le (hA h).2 hb.size⟩, fun i s hs j x hx => ?_⟩
  have hl : 0 < l.length := by have := (List.getElem?_eq_some_iff.1 hs).1; omega
  exact (hb.cell (p := ⟨b, off + i * 8 + j, none⟩) (hA hl).2).trans (hc i s hs j x hx)
theorem sec_form {w : World} {v : Value} {l : List (List Nat)} (h : Sec w v l) : ∃ A cap, v = .slice A l.length cap := by
  obtain ⟨_, A, cap, e, _⟩ := h
  exact ⟨A, cap, e⟩
theorem flat_length {ll : List (List Nat)} (h : Secs ll) : ll.flatten.length = 8 * ll.length := by
  induction ll with
  | nil => rfl
  | cons s ll ih =>
    rw [List.flatten_cons, List.length_append, (h s (List.mem_cons_self ..)).1, ih (fun t ht => h t (List.mem_cons_of_mem _ ht)), List.length_cons]
    omega
theorem flat_get {ll : List (List Nat)} (h : Secs ll) : ∀ {i m : Nat} {s : List Nat}, ll[i]? = some s → m < 8 → ll.flatten[8 * i + m]? = s[m]? := by
  induction ll with
  | nil => intro i m s hs _; simp at hs
  | cons t ll ih =>
    intro i m s hs hm
    have ht := (h t (List.mem_cons_self ..)).1
    rw [List.flatten_cons]
    rcases i with _ | i
    · simp at hs
      subst hs
      rw [List.getElem?_append_left (by omega)]
      simp
    · rw [List.getElem?_append_right (by omega), ht]
      have e : 8 * (i + 1) + m - 8 = 8 * i + m := by omega
      rw [e]
      exact ih (fun u hu => h u (List.mem_cons_of_mem _ hu)) (by simpa using hs) hm
theorem flat_B8 {ll : List (List Nat)} (h : Secs ll) : B8 ll.flatten := fun x hx => by
  obtain ⟨s, hs, hxs⟩ := List.mem_flatten.1 hx
  exact (h s hs).2 x hxs
theorem list8 {s : List Nat} (h : s.length = 8) : ∃ x0 x1 x2 x3 x4 x5 x6 x7, s = [x0, x1, x2, x3, x4, x5, x6, x7] := by
  match s, h with
  | [x0, x1, x2, x3, x4, x5, x6, x7], _ => exact ⟨x0, x1, x2, x3, x4, x5, x6, x7, rfl⟩
theorem index8 (s : List Nat) (h : s.length = 8) (m : Nat) (hm : m < 8) (W : World) : (Instr.index 58 (.agg (s.map byteV).toArray) (.int .i64 (m : Int))).run Try.prog W = .ok (.int .u8 ((s.getD m 0 : Nat) : Int)) W := by
  obtain ⟨x0, x1, x2, x3, x4, x5, x6, x7, rfl⟩ := list8 h
  rcases m with _ | _ | _ | _ | _ | _ | _ | _ | m
  all_goals first | omega | kernel_rfl
set_option maxHeartbeats 4000000 in
set_option maxRecDepth 100000 in
theorem sectors_streams (n Bs : Nat) (ll : List (List Nat)) (v : Value) (w0 w : World) (hn : 1 ≤ n) (hv : Sec w0 v ll) (hb0 : Below w0.heap.size w0 w) (hlt : Bs < w.heap.size) (hc0 : w.cell? ⟨Bs, 0, none⟩ = some v) :
    Streams n 82 #[.pointer (some ⟨Bs, 0, none⟩)] w0.heap.size ll.flatten w := by
  intro l0 J Jx W hW hJ hJx hY h0
  have hbW : Below w0.heap.size w0 W := hb0.trans (hW.mono hb0.size)
  have hBs := (hW.cell (p := ⟨Bs, 0, none⟩) hlt).trans hc0
  have hfl := flat_length hv.1
  have HG := hid (fun (i m : Nat) (s : List Nat) (h1 : ll[i]? = some s) (h2 : m < 8) => flat_get hv.1 h1 h2)
  have H8 := hid hv.1
  have hw0 := hbW.size
  obtain ⟨_, A, cap, rfl, hcap, hcm, b, off, hA, hc⟩ := hv
  unfold maxLen at hcm
  have HC := hid hc
  have HY := hid hY
  have HBW := hid hbW
  have HJJ := hid hJ
  clear hc hY hJ hJx hb0 hW hbW hc0 hlt
  obtain ⟨fl, hfe⟩ : ∃ fl, ll.flatten = fl := ⟨_, rfl⟩
  rw [hfe] at HG hfl HY ⊢
  clear hfe
  refine callsIn_of_wp Try.func82 rfl trivial ?_ rfl
  simp only [Try.ntmps82, List.size_toArray, List.length_cons, List.length_nil, Nat.reduceAdd, Nat.reduceSub, Array.replicate_succ, Array.replicate_zero, List.push_toArray, List.append_toArray, List.nil_append, List.cons_append]
  gi_wp2
  gi_loopw [9] (fun i wr => ∃ (k : Nat) (pre : List (Fin 256)), k ≤ ll.length ∧ i = .int .i64 (k : Int) ∧ Hid (pre.map (·.val) = fl.take (8 * k)) ∧ Hid (J pre wr) ∧ Hid (Below w0.heap.size W wr)) (fun i _ => ll.length - (intOf i).toNat)
  case atStart => exact ⟨0, [], Nat.zero_le _, rfl, hid (by simp), hid h0, hid (Below.refl _ _)⟩
  case round =>
    clear h0 hBs
    obtain ⟨k, pre, hk, rfl, HP, HJ, HB⟩ := hrel
    have hwr := HB.out.size
    by_cases hkl : k < ll.length
    · obtain ⟨hA1, hb⟩ := hA (by omega)
      subst hA1
      obtain ⟨s, hs⟩ : ∃ s, ll[k]? = some s := ⟨ll[k], List.getElem?_eq_getElem hkl⟩
      have hs8 := H8.out s (List.mem_of_getElem? hs)
      have HGS := hid (fun (m : Nat) (h : m < 8) => HG.out k m s hs h)
      have hcs : ∀ (j x : Nat), s[j]? = some x → wr.cell? ⟨b, off + k * 8 + j, none⟩ = some (.int .u8 (x : Int)) := fun j x hx =>
        (HB.out.cell (p := ⟨b, off + k * 8 + j, none⟩) hb).trans ((HBW.out.cell (p := ⟨b, off + k * 8 + j, none⟩) hb).trans (HC.out k s hs j x hx))
      obtain ⟨hsl, hsb⟩ := hs8
      have HSB := hid hsb
      clear hs hsb
      obtain ⟨x0, x1, x2, x3, x4, x5, x6, x7, rfl⟩ := list8 hsl
      have c0 := hcs 0 x0 rfl
      have c1 := hcs 1 x1 rfl
      have c2 := hcs 2 x2 rfl
      have c3 := hcs 3 x3 rfl
      have c4 := hcs 4 x4 rfl
      have c5 := hcs 5 x5 rfl
      have c6 := hcs 6 x6 rfl
      have c7 := hcs 7 x7 rfl
      rw [Nat.add_zero] at c0
      clear hcs hsl
      gi_wp2
      obtain ⟨w5, hw5⟩ : ∃ w5, wr.alloc (.cells #[.int .u8 (x0 : Int), .int .u8 (x1 : Int), .int .u8 (x2 : Int), .int .u8 (x3 : Int), .int .u8 (x4 : Int), .int .u8 (x5 : Int), .int .u8 (x6 : Int), .int .u8 (x7 : Int)] 58) = w5 := ⟨_, rfl⟩
      have HJ5 : Hid (J pre w5) := by rw [← hw5]; exact hid (HJJ.out _ _ _ none HJ.out (World.grownBy_alloc wr _ none) (fun r e => by cases e))
      have HB5 : Hid (Below w0.heap.size W w5) := by rw [← hw5]; exact hid (HB.out.alloc (Nat.le_trans hw0 hwr) _)
      rw [hw5]
      clear hw5 c0 c1 c2 c3 c4 c5 c6 c7 HJ HB hwr
      gi_loopw [14] (fun i wi => ∃ (m : Nat) (pre : List (Fin 256)), m ≤ 8 ∧ i = .int .i64 (m : Int) ∧ Hid (pre.map (·.val) = fl.take (8 * k + m)) ∧ Hid (J pre wi) ∧ Hid (Below w0.heap.size W wi)) (fun i _ => 8 - (intOf i).toNat)
      case atStart => exact ⟨0, pre, by omega, rfl, hid HP.out, HJ5, HB5⟩
      case round =>
        clear HP HJ5 HB5
        obtain ⟨m, pre, hm, rfl, HP, HJ, HB⟩ := hrel
        by_cases hm8 : m < 8
        · have hidx := index8 [x0, x1, x2, x3, x4, x5, x6, x7] rfl m hm8
          have hxs : [x0, x1, x2, x3, x4, x5, x6, x7][m]? = some ([x0, x1, x2, x3, x4, x5, x6, x7].getD m 0) := by
            rw [List.getElem?_eq_getElem (show m < 8 from hm8)]
            simp [List.getD, List.getElem?_eq_getElem (show m < [x0, x1, x2, x3, x4, x5, x6, x7].length from hm8)]
          have hzl := getD_B8 HSB.out m
          obtain ⟨z, hz⟩ : ∃ z, [x0, x1, x2, x3, x4, x5, x6, x7].getD m 0 = z := ⟨_, rfl⟩
          rw [hz] at hidx hxs hzl
          have hfx := (HGS.out m hm8).trans hxs
          have HP2 := hid (take_map hzl HP.out hfx)
          obtain ⟨fn, tmps, assign, body, hy, hR⟩ := HY.out pre ⟨z, hzl⟩ wr HJ.out (pre_short HP.out (by omega))
          dsimp only at hy
          have HR := hid hR
          have hidx2 : ∀ W : World, (Instr.index 58 (.agg #[.int .u8 (x0 : Int), .int .u8 (x1 : Int), .int .u8 (x2 : Int), .int .u8 (x3 : Int), .int .u8 (x4 : Int), .int .u8 (x5 : Int), .int .u8 (x6 : Int), .int .u8 (x7 : Int)]) (.int .i64 (m : Int))).run Try.prog W = .ok (.int .u8 (z : Int)) W := hidx
          clear hR hidx hxs hfx hz
          gi_wp2
          refine HR.out.mono ?_
          rintro e W3 (⟨rfl, hJ3, hk3⟩ | ⟨rfl, hJx3⟩)
          · have HJ3 := hid hJ3
            have HB3 := hid (HB.out.trans hk3)
            clear hJ3 hk3
            gi_wp2
            go_roundw
            case rel => exact ⟨m + 1, _, by omega, by go_num, HP2, HJ3, HB3⟩
            case measure => simp [intOf]; omega
          · gi_wp2
            refine bodyPost_ret (results_none rfl _ _ _) rfl ?_
            exact ⟨⟨_, rfl⟩, .inr ⟨_, trivial, hJx3⟩⟩
        · obtain rfl : m = 8 := by omega
          gi_wp2
          go_roundw
          case rel => exact ⟨k + 1, pre, by omega, by go_num, hid (by rw [show 8 * (k + 1) = 8 * k + 8 by omega]; exact HP.out), HJ, HB⟩
          case measure => simp [intOf]; omega
    · obtain rfl : k = ll.length := by omega
      gi_wp2
      go_end0
      exact ⟨⟨_, rfl⟩, .inl ⟨_, by rw [HP.out, ← hfl, List.take_of_length_le (Nat.le_refl _)], HJ.out⟩⟩
end
section
theorem sectorBytes_any (v : Value) (w : World) (a : Option Addr) (len cap : Nat) (hv : v = .slice a len cap) :
    Calls Try.prog 75 #[v] w fun e w' => e = .returned (.func (.func 82) #[] #[.pointer (some ⟨w.heap.size, 0, none⟩)]) ∧ w.alloc (.cells #[v] 40) = w' := by
  subst hv
  go_enter Try.func75, Try.ntmps75
  go_wp2
  go_ret
  exact ⟨rfl, rfl⟩
theorem enters82 : ∀ args w, (callFunc 82 args).run Try.prog w = .ok (.enter 82 args) w := enters_of Try.func82 (by kernel_rfl) rfl
set_option maxHeartbeats 2000000 in
theorem digestS_any (ll : List (List Nat)) (v : Value) (w : World) (hv : Sec w v ll) :
    Calls Try.prog 65 #[v] w fun e w' => e = .returned (.int .u64 (dig ll.flatten : Nat)) ∧ Below w.heap.size w w' := by
  have HS := hid (sectors_streams 2 w.heap.size ll v w (w.alloc (.cells #[v] 40)) (by decide) hv (al1 _ _) (by simp) (Boxed.new w 40 v).cell)
  obtain ⟨A, cap, rfl⟩ := sec_form hv
  clear hv
  go_enter Try.func65, Try.ntmps65
  go_wp2_with (go_at_call 75; refine (sectorBytes_any _ _ _ _ _ rfl).mono ?_; rintro e w1 ⟨rfl, rfl⟩)
  refine (digest_any 82 _ w.heap.size ll.flatten _ HS.out (by simp) enters82).mono ?_
  rintro e w2 ⟨rfl, hb⟩
  have HB := hid (al_back hb)
  clear hb
  go_wp2
  go_ret
  exact ⟨rfl, HB.out⟩
/-- What a call that makes bytes answers. -/
def MadeY (w : World) (l : List Nat) (e : Ending) (w' : World) : Prop := ∃ v, e = .returned v ∧ Byt w' v l ∧ NilOk v ∧ Below w.heap.size w w'
theorem take_succ' {l : List Nat} {k x : Nat} (h : l[k]? = some x) : l.take (k + 1) = l.take k ++ [x] := by
  obtain ⟨hk, rfl⟩ := List.getElem?_eq_some_iff.1 h
  rw [List.take_succ_eq_append_getElem hk]
theorem byt_one (w : World) (z : Nat) (hz : z < 256) : Byt (w.alloc (.cells #[.int .u8 (z : Int)] 5)) (.slice (some ⟨w.heap.size, 0, none⟩) 1 1) [z] :=
  byt_new w [z] (0, 0) (fun x hx => by simp at hx; omega) (by unfold maxLen; simp)
set_option maxHeartbeats 2000000 in
theorem rbytes_any (ll : List (List Nat)) (v : Value) (w : World) (hv : Sec w v ll) (hl : ll.length ≤ 1000) :
    Calls Try.prog 78 #[v] w (MadeY w ll.flatten) := by
  have hfl := flat_length hv.1
  have HG := hid (fun (i m : Nat) (s : List Nat) (h1 : ll[i]? = some s) (h2 : m < 8) => flat_get hv.1 h1 h2)
  have H8 := hid hv.1
  have HF8 := hid (flat_B8 hv.1)
  obtain ⟨_, A, cap, rfl, hcap, hcm, b, off, hA, hc⟩ := hv
  unfold maxLen at hcm
  have HC := hid hc
  clear hc
  obtain ⟨fl, hfe⟩ : ∃ fl, ll.flatten = fl := ⟨_, rfl⟩
  rw [hfe] at HG hfl HF8 ⊢
  clear hfe
  go_enter Try.func78, Try.ntmps78
  go_wp2
  go_loopw [3, 4] (fun v i wr => ∃ k : Nat, k ≤ ll.length ∧ i = .int .i64 (k : Int) ∧ Hid (wr.ownsRow w.heap.size 5 1 v (8 * k) ((fl.take (8 * k)).map byteV)) ∧ Hid (Below w.heap.size w wr)) (fun _ i _ => ll.length - (intOf i).toNat)
  case atStart => exact ⟨0, by omega, rfl, hid (World.ownsRow_nil _ _ _ _), hid (Below.refl _ _)⟩
  case round =>
    obtain ⟨k, hk, rfl, HO, HB⟩ := hrel
    obtain ⟨av, cv, rfl⟩ := own_form HO.out
    by_cases hkl : k < ll.length
    · obtain ⟨hA1, hb⟩ := hA (by omega)
      subst hA1
      obtain ⟨s, hs⟩ : ∃ s, ll[k]? = some s := ⟨ll[k], List.getElem?_eq_getElem hkl⟩
      obtain ⟨hsl, hsb⟩ := H8.out s (List.mem_of_getElem? hs)
      have HSB := hid hsb
      have HSL := hid hsl
      have HGS := hid (fun (m : Nat) (h : m < 8) => HG.out k m s hs h)
      have HCS := hid (HC.out k s hs)
      clear hs hsb hsl
      obtain ⟨wo, rfl⟩ : ∃ wo : World, wo = wr := ⟨_, rfl⟩
      go_wp2
      go_loopw [3, 5] (fun v i wr => ∃ m : Nat, m ≤ 8 ∧ i = .int .i64 (m : Int) ∧ Hid (wr.ownsRow w.heap.size 5 1 v (8 * k + m) ((fl.take (8 * k + m)).map byteV)) ∧ Hid (Below w.heap.size w wr)) (fun _ i _ => 8 - (intOf i).toNat)
      case atStart => exact ⟨0, by omega, rfl, HO, HB⟩
      case round =>
        clear HO HB
        obtain ⟨m, hm, rfl, HO, HB⟩ := hrel
        obtain ⟨av, cv, rfl⟩ := own_form HO.out
        by_cases hm8 : m < 8
        · obtain ⟨z, hz⟩ : ∃ z, s[m]? = some z := ⟨s[m]'(by have := HSL.out; omega), List.getElem?_eq_getElem (by have := HSL.out; omega)⟩
          have hzl := HSB.out z (List.mem_of_getElem? hz)
          have hcl := (HB.out.cell (p := ⟨b, off + k * 8 + m, none⟩) hb).trans (HCS.out m z hz)
          have HN := hid (take_succ' ((HGS.out m hm8).trans hz))
          have hBs := HB.out.size
          clear hz
          go_wp2_with (at_builtin; refine append_byt rfl (.tmp 16) (.tmp 23) rfl w.heap.size (.slice av (8 * k + m) cv) (8 * k + m) _ rfl (HO.out.alloc _) [z] _ rfl (byt_one wr z hzl) (nilOk_some _ _ _) (by simp; omega) (by simp; omega) ?_; intro v1 w1 hown1 hg1; have HB1 := hid (below_own (HB.out.alloc hBs _) (HO.out.alloc (.cells #[.int .u8 (z : Int)] 5)) hg1 (by simp; omega) (Nat.le_refl _)); have HO1 := hid hown1; clear hown1 hg1)
          go_roundw
          case rel => exact ⟨m + 1, by omega, by go_num, hid (by
            have h := HO1.out
            rw [own_snoc, ← HN.out] at h
            exact h), HB1⟩
          case measure => simp [intOf]; omega
        · obtain rfl : m = 8 := by omega
          go_wp2
          go_roundw
          case rel => exact ⟨k + 1, by omega, by go_num, by rw [show 8 * (k + 1) = 8 * k + 8 by omega]; exact HO, HB⟩
          case measure => simp [intOf]; omega
    · obtain rfl : k = ll.length := by omega
      go_wp2
      go_ret
      refine ⟨_, rfl, ?_, own_nilOk HO.out, HB.out⟩
      have h := HO.out
      rw [List.take_of_length_le (by omega)] at h
      exact byt_of_own h HF8.out
set_option maxHeartbeats 2000000 in
theorem rdigestS_any (ll : List (List Nat)) (v : Value) (w : World) (hv : Sec w v ll) (hl : ll.length ≤ 1000) :
    Calls Try.prog 67 #[v] w fun e w' => e = .returned (.int .u64 (dig ll.flatten : Nat)) ∧ Below w.heap.size w w' := by
  have HB := hid (rbytes_any ll v w hv hl)
  obtain ⟨A, cap, rfl⟩ := sec_form hv
  clear hv
  obtain ⟨fl, hfe⟩ : ∃ fl, ll.flatten = fl := ⟨_, rfl⟩
  rw [hfe] at HB ⊢
  clear hfe
  go_enter Try.func67, Try.ntmps67
  go_wp2_with fail
  refine HB.out.mono ?_
  rintro e w1 ⟨v1, rfl, hv1, hn1, hb1⟩
  clear hn1
  have HV1 := hid hv1
  have HB1 := hid hb1
  obtain ⟨A1, c1, rfl⟩ := byt_form hv1
  clear hv1 hb1
  go_wp2_with fail
  refine (rdigest_any fl _ _ HV1.out).mono ?_
  rintro e w2 ⟨rfl, rfl⟩
  go_wp2
  go_ret
  exact ⟨rfl, HB1.out⟩
end
section
attribute [local go_sem] Oper.semAt_some
/-- The eight bytes of a number, the least significant one first. -/
def le8 (a : Nat) : List Nat := (List.range 8).map fun m => a / 256 ^ m % 256
theorem le8_length (a : Nat) : (le8 a).length = 8 := by unfold le8; simp
theorem le8_B8 (a : Nat) : B8 (le8 a) := fun x hx => by
  unfold le8 at hx
  obtain ⟨m, _, rfl⟩ := List.mem_map.1 hx
  exact Nat.mod_lt _ (by decide)
theorem le8_get (a m : Nat) (hm : m < 8) : (le8 a)[m]? = some (a / 256 ^ m % 256) := by unfold le8; rw [List.getElem?_map, List.getElem?_range hm]; rfl
theorem le8_secs (nums : List Nat) : Secs (nums.map le8) := fun s hs => by
  obtain ⟨a, _, rfl⟩ := List.mem_map.1 hs
  exact ⟨le8_length a, le8_B8 a⟩
theorem div_pow (a m : Nat) : a / 256 ^ m / 256 = a / 256 ^ (m + 1) := by rw [Nat.div_div_eq_div_mul, Nat.pow_succ]
set_option maxHeartbeats 4000000 in
set_option maxRecDepth 100000 in
theorem numbers_streams (n Bs g n₀ : Nat) (nums : List Nat) (w : World) (hn : 1 ≤ n) (hL : nums.length ≤ 1000) (hg : g < n₀) (hn₀ : n₀ ≤ w.heap.size) (hlt : Bs < w.heap.size) (hc0 : w.cell? ⟨Bs, 0, none⟩ = some (.slice (some ⟨g, 0, none⟩) nums.length nums.length))
    (hnum : ∀ (i y : Nat), nums[i]? = some y → y < 18446744073709551616 ∧ w.cell? ⟨g, i, none⟩ = some (.int .u64 (y : Int))) :
    Streams n 83 #[.pointer (some ⟨Bs, 0, none⟩)] n₀ (nums.map le8).flatten w := by
  intro l0 J Jx W hW hJ hJx hY h0
  have hBs := (hW.cell (p := ⟨Bs, 0, none⟩) hlt).trans hc0
  have hfl := flat_length (le8_secs nums)
  rw [List.length_map] at hfl
  have HG := hid (fun (i m y : Nat) (h1 : nums[i]? = some y) (h2 : m < 8) => (flat_get (le8_secs nums) (i := i) (m := m) (s := le8 y) (by rw [List.getElem?_map, h1]; rfl) h2).trans (le8_get y m h2))
  have HC := hid (fun (i y : Nat) (h : nums[i]? = some y) => (hW.cell (p := ⟨g, i, none⟩) (show g < w.heap.size by omega)).trans (hnum i y h).2)
  have HR := hid (fun (i y : Nat) (h : nums[i]? = some y) => (hnum i y h).1)
  have HY := hid hY
  have hwW : n₀ ≤ W.heap.size := Nat.le_trans hn₀ hW.size
  clear hY hJ hJx hW hc0 hlt hnum
  obtain ⟨fl, hfe⟩ : ∃ fl, (nums.map le8).flatten = fl := ⟨_, rfl⟩
  rw [hfe] at HG hfl HY ⊢
  clear hfe
  refine callsIn_of_wp Try.func83 rfl trivial ?_ rfl
  simp only [Try.ntmps83, List.size_toArray, List.length_cons, List.length_nil, Nat.reduceAdd, Nat.reduceSub, Array.replicate_succ, Array.replicate_zero, List.push_toArray, List.append_toArray, List.nil_append, List.cons_append]
  gi_wp2
  gi_loopw [7] (fun i wr => ∃ (k : Nat) (pre : List (Fin 256)), k ≤ nums.length ∧ i = .int .i64 (k : Int) ∧ Hid (pre.map (·.val) = fl.take (8 * k)) ∧ Hid (J pre wr) ∧ Hid (Below n₀ W wr)) (fun i _ => nums.length - (intOf i).toNat)
  case atStart => exact ⟨0, [], Nat.zero_le _, rfl, hid (by simp), hid h0, hid (Below.refl _ _)⟩
  case round =>
    clear h0 hBs
    obtain ⟨k, pre, hk, rfl, HP, HJ, HB⟩ := hrel
    by_cases hkl : k < nums.length
    · obtain ⟨s, hs⟩ : ∃ s, nums[k]? = some s := ⟨nums[k], List.getElem?_eq_getElem hkl⟩
      have hsl := HR.out k s hs
      have hcs := (HB.out.cell (p := ⟨g, k, none⟩) hg).trans (HC.out k s hs)
      have HGS := hid (fun (m : Nat) (h : m < 8) => HG.out k m s hs h)
      clear hs
      gi_wp2
      gi_loopw [4, 11] (fun r i wi => ∃ (m y : Nat) (pre : List (Fin 256)), m ≤ 8 ∧ i = .int .i64 (m : Int) ∧ r = .int .u64 (y : Int) ∧ Hid (y = s / 256 ^ m) ∧ Hid (pre.map (·.val) = fl.take (8 * k + m)) ∧ Hid (J pre wi) ∧ Hid (Below n₀ W wi)) (fun _ i _ => 8 - (intOf i).toNat)
      case atStart => exact ⟨0, s, pre, by omega, rfl, rfl, hid (by simp), hid HP.out, HJ, HB⟩
      case round =>
        clear HP HJ HB hcs
        obtain ⟨m, y, pre, hm, rfl, rfl, HE, HP, HJ, HB⟩ := hrel
        have hyl : y < 18446744073709551616 := by rw [HE.out]; exact Nat.lt_of_le_of_lt (Nat.div_le_self _ _) hsl
        by_cases hm8 : m < 8
        · have hfx := HGS.out m hm8
          rw [← HE.out] at hfx
          have hzl : y % 256 < 256 := Nat.mod_lt _ (by decide)
          have HP2 := hid (take_map hzl HP.out hfx)
          have HE2 : Hid (y / 256 = s / 256 ^ (m + 1)) := hid (by rw [HE.out, div_pow])
          obtain ⟨fn, tmps, assign, body, hy, hR⟩ := HY.out pre ⟨y % 256, hzl⟩ wr HJ.out (pre_short HP.out (by omega))
          dsimp only at hy
          rw [show ((y % 256 : Nat) : Int) = (y : Int) % 256 from Int.natCast_emod _ _] at hy
          have HR2 := hid hR
          clear hR hfx
          gi_wp2
          refine HR2.out.mono ?_
          rintro e W3 (⟨rfl, hJ3, hk3⟩ | ⟨rfl, hJx3⟩)
          · have HJ3 := hid hJ3
            have HB3 := hid (HB.out.trans hk3)
            clear hJ3 hk3
            gi_wp2
            go_roundw
            case rel => exact ⟨m + 1, y / 256, _, by omega, by go_num, u64_eq (by omega), HE2, HP2, HJ3, HB3⟩
            case measure => simp [intOf]; omega
          · gi_wp2
            refine bodyPost_ret (results_none rfl _ _ _) rfl ?_
            exact ⟨⟨_, rfl⟩, .inr ⟨_, trivial, hJx3⟩⟩
        · obtain rfl : m = 8 := by omega
          gi_wp2
          go_roundw
          case rel => exact ⟨k + 1, pre, by omega, by go_num, hid (by rw [show 8 * (k + 1) = 8 * k + 8 by omega]; exact HP.out), HJ, HB⟩
          case measure => simp [intOf]; omega
    · obtain rfl : k = nums.length := by omega
      gi_wp2
      go_end0
      exact ⟨⟨_, rfl⟩, .inl ⟨_, by rw [HP.out, ← hfl, List.take_of_length_le (Nat.le_refl _)], HJ.out⟩⟩
theorem numberBytes_any (v : Value) (w : World) (a : Option Addr) (len cap : Nat) (hv : v = .slice a len cap) :
    Calls Try.prog 76 #[v] w fun e w' => e = .returned (.func (.func 83) #[] #[.pointer (some ⟨w.heap.size, 0, none⟩)]) ∧ w.alloc (.cells #[v] 123) = w' := by
  subst hv
  go_enter Try.func76, Try.ntmps76
  go_wp2
  go_ret
  exact ⟨rfl, rfl⟩
theorem enters83 : ∀ args w, (callFunc 83 args).run Try.prog w = .ok (.enter 83 args) w := enters_of Try.func83 (by kernel_rfl) rfl
/-- The digest of a pair. -/
noncomputable def pairS (a b : Nat) : Nat := dig ([a, b].map le8).flatten
set_option maxHeartbeats 2000000 in
theorem pair_any (a b : Nat) (w : World) (ha : a < 18446744073709551616) (hb : b < 18446744073709551616) :
    Calls Try.prog 66 #[.int .u64 (a : Int), .int .u64 (b : Int)] w fun e w' => e = .returned (.int .u64 (pairS a b : Nat)) ∧ Below w.heap.size w w' := by
  obtain ⟨w1, hw1⟩ : ∃ w1, w.alloc (.cells #[.int .u64 (a : Int), .int .u64 (b : Int)] 71) = w1 := ⟨_, rfl⟩
  have hz1 : w1.heap.size = w.heap.size + 1 := by rw [← hw1]; simp
  have hblk : w1.heap[w.heap.size]? = some (.cells #[.int .u64 (a : Int), .int .u64 (b : Int)] 71 (0, 0)) := by rw [← hw1]; exact heap_alloc_new _ _
  have hb1 : Below w.heap.size w w1 := by rw [← hw1]; exact al1 _ _
  have HS := hid (numbers_streams 2 w1.heap.size w.heap.size w1.heap.size [a, b] (w1.alloc (.cells #[.slice (some ⟨w.heap.size, 0, none⟩) 2 2] 123)) (by decide) (by simp) (by omega) (by simp) (by simp) (Boxed.new w1 123 _).cell (fun i y hy => by
    have hc := cell_of_row w1 w.heap.size i _ _ _ hblk
    have hc2 := (Below.cell (al1 w1 (.cells #[.slice (some ⟨w.heap.size, 0, none⟩) 2 2] 123)) (p := ⟨w.heap.size, i, none⟩) (by show w.heap.size < w1.heap.size; omega)).trans hc
    rcases i with _ | _ | i
    · simp at hy; subst hy; exact ⟨ha, hc2⟩
    · simp at hy; subst hy; exact ⟨hb, hc2⟩
    · simp at hy))
  have HB1 := hid hb1
  have HP : Hid (pairS a b = dig ([a, b].map le8).flatten) := hid rfl
  obtain ⟨d, hd⟩ : ∃ d, pairS a b = d := ⟨_, rfl⟩
  rw [hd] at HP ⊢
  clear hd hblk hb1 hz1
  go_enter Try.func66, Try.ntmps66
  go_wp2_with (go_at_call 76; refine (numberBytes_any _ _ _ _ _ rfl).mono ?_; rintro e w2 ⟨rfl, rfl⟩)
  refine (digest_any 83 _ _ _ _ HS.out (by simp) enters83).mono ?_
  rintro e w3 ⟨rfl, hb⟩
  have HB := hid (below_both HB1.out (al_back hb))
  rw [← HP.out]
  clear hb
  go_wp2
  go_ret
  exact ⟨rfl, HB.out⟩
end
section
theorem shr_byte (a m : Nat) : ((a : Int) / 2 ^ (8 * m)) % 256 = ((a / 256 ^ m % 256 : Nat) : Int) := by
  rw [show 256 ^ m = 2 ^ (8 * m) by rw [Nat.pow_mul], Int.natCast_emod, Int.natCast_ediv, Int.natCast_pow]
  rfl
set_option maxHeartbeats 2000000 in
theorem rpair_any (a b : Nat) (w : World) :
    Calls Try.prog 68 #[.int .u64 (a : Int), .int .u64 (b : Int)] w fun e w' => e = .returned (.int .u64 (pairS a b : Nat)) ∧ Below w.heap.size w w' := by
  have hfl := flat_length (le8_secs [a, b])
  have HF8 := hid (flat_B8 (le8_secs [a, b]))
  have HG := hid (fun (i m y : Nat) (h1 : [a, b][i]? = some y) (h2 : m < 8) => (flat_get (le8_secs [a, b]) (i := i) (m := m) (s := le8 y) (by rw [List.getElem?_map, h1]; rfl) h2).trans (le8_get y m h2))
  have HP : Hid (pairS a b = dig ([a, b].map le8).flatten) := hid rfl
  obtain ⟨d, hd⟩ : ∃ d, pairS a b = d := ⟨_, rfl⟩
  rw [hd] at HP ⊢
  obtain ⟨fl, hfe⟩ : ∃ fl, ([a, b].map le8).flatten = fl := ⟨_, rfl⟩
  rw [hfe] at HG HF8 hfl HP
  have hfl16 : fl.length = 16 := by rw [hfl]; rfl
  clear hd hfe hfl
  have HL := hid hfl16
  clear hfl16
  go_enter Try.func68, Try.ntmps68
  go_wp2
  go_loopw [5, 6] (fun v i wr => ∃ k : Nat, k ≤ 8 ∧ i = .int .i64 (k : Int) ∧ Hid (wr.ownsRow w.heap.size 5 1 v k ((fl.take k).map byteV)) ∧ Hid (Below w.heap.size w wr)) (fun _ i _ => 8 - (intOf i).toNat)
  case atStart => exact ⟨0, by omega, rfl, hid (World.ownsRow_nil _ _ _ _), hid (Below.refl _ _)⟩
  case round =>
    obtain ⟨k, hk, rfl, HO, HB⟩ := hrel
    obtain ⟨av, cv, rfl⟩ := own_form HO.out
    by_cases hk8 : k < 8
    · have hBs := HB.out.size
      have HN := hid (take_succ' (HG.out 0 k a rfl hk8))
      have hsb := shr_byte a k
      have hzl : a / 256 ^ k % 256 < 256 := Nat.mod_lt _ (by decide)
      obtain ⟨z, hz⟩ : ∃ z, a / 256 ^ k % 256 = z := ⟨_, rfl⟩
      rw [hz] at HN hsb hzl
      rw [show 8 * 0 + k = k by omega] at HN
      clear hz
      go_wp2_with (at_builtin; refine append_byt rfl (.tmp 12) (.tmp 18) rfl w.heap.size (.slice av (k) cv) (k) _ rfl (HO.out.alloc _) [z] _ rfl (byt_one wr z hzl) (nilOk_some _ _ _) (by simp; omega) (by simp; omega) ?_; intro v1 w1 hown1 hg1; have HB1 := hid (below_own (HB.out.alloc hBs _) (HO.out.alloc (.cells #[.int .u8 (z : Int)] 5)) hg1 (by simp; omega) (Nat.le_refl _)); have HO1 := hid hown1; clear hown1 hg1)
      go_roundw
      case rel => exact ⟨k + 1, by omega, by go_num, hid (by
        have h := HO1.out
        rw [own_snoc, ← HN.out] at h
        exact h), HB1⟩
      case measure => simp [intOf]; omega
    · obtain rfl : k = 8 := by omega
      obtain ⟨wo, rfl⟩ : ∃ wo : World, wo = wr := ⟨_, rfl⟩
      rw [show ((8 : Nat) : Int) = 8 from rfl]
      go_wp2
      go_loopw [5, 7] (fun v i wr => ∃ k : Nat, k ≤ 8 ∧ i = .int .i64 (k : Int) ∧ Hid (wr.ownsRow w.heap.size 5 1 v (8 + k) ((fl.take (8 + k)).map byteV)) ∧ Hid (Below w.heap.size w wr)) (fun _ i _ => 8 - (intOf i).toNat)
      case atStart => exact ⟨0, by omega, rfl, HO, HB⟩
      case round =>
        clear HO HB
        obtain ⟨k, hk, rfl, HO, HB⟩ := hrel
        obtain ⟨av, cv, rfl⟩ := own_form HO.out
        by_cases hk8 : k < 8
        · have hBs := HB.out.size
          have HN := hid (take_succ' (HG.out 1 k b rfl hk8))
          have hsb := shr_byte b k
          have hzl : b / 256 ^ k % 256 < 256 := Nat.mod_lt _ (by decide)
          obtain ⟨z, hz⟩ : ∃ z, b / 256 ^ k % 256 = z := ⟨_, rfl⟩
          rw [hz] at HN hsb hzl
          rw [show 8 * 1 + k = 8 + k by omega] at HN
          clear hz
          go_wp2_with (at_builtin; refine append_byt rfl (.tmp 24) (.tmp 30) rfl w.heap.size (.slice av (8 + k) cv) (8 + k) _ rfl (HO.out.alloc _) [z] _ rfl (byt_one wr z hzl) (nilOk_some _ _ _) (by simp; omega) (by simp; omega) ?_; intro v1 w1 hown1 hg1; have HB1 := hid (below_own (HB.out.alloc hBs _) (HO.out.alloc (.cells #[.int .u8 (z : Int)] 5)) hg1 (by simp; omega) (Nat.le_refl _)); have HO1 := hid hown1; clear hown1 hg1)
          go_roundw
          case rel => exact ⟨k + 1, by omega, by go_num, hid (by
            have h := HO1.out
            rw [own_snoc, ← HN.out] at h
            exact h), HB1⟩
          case measure => simp [intOf]; omega
        · obtain rfl : k = 8 := by omega
          have HV : Hid (Byt wr (.slice av 16 cv) fl) := hid (by
            have h := HO.out
            rw [List.take_of_length_le (by have := HL.out; omega)] at h
            exact byt_of_own h HF8.out)
          have hl16 := HL.out
          clear HO
          go_wp2_with fail
          refine (rdigest_any fl _ _ HV.out).mono ?_
          rintro e w2 ⟨rfl, rfl⟩
          rw [← HP.out]
          go_wp2
          go_ret
          exact ⟨rfl, HB.out⟩
end
end Go.Proofs.Ytbcnikmhodkbfaa.Cs
