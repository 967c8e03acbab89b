/- Lists of numbers; the choices: From, Left, Decide (carried over from link). -/
import Derived.Test.YtnocgfhcamnjdaaK
namespace Go.Proofs.Ytnocgfhcamnjdaa
open Go.RowKit Go.Lib
abbrev intV (x : Int) : Value := .int .i64 x
/-- A list of numbers that can be read. -/
def Ints (w : World) (v : Value) (l : List Int) : Prop := (∀ x ∈ l, R64 x) ∧ NilOk v ∧ Arr w v 1 (l.map fun x => [intV x])
theorem Ints.below {w w' : World} {v : Value} {l : List Int} (h : Ints w v l) (hb : Below w.heap.size w w') : Ints w' v l := ⟨h.1, h.2.1, h.2.2.below hb⟩
theorem ints_form {w : World} {v : Value} {l : List Int} (h : Ints w v l) : ∃ A c, v = .slice A l.length c := by
  obtain ⟨A, c, e⟩ := arr_form h.2.2
  rw [List.length_map] at e
  exact ⟨A, c, e⟩
theorem ints_cells {w : World} {A : Option Addr} {n c : Nat} {l : List Int} (h : Ints w (.slice A n c) l) (hp : 0 < l.length) : ∃ b off, A = some ⟨b, off, none⟩ ∧ b < w.heap.size ∧ ∀ (i : Nat) (x : Int), l[i]? = some x → w.cell? ⟨b, off + i, none⟩ = some (.int .i64 x) := by
  obtain ⟨b, off, h1, h2, h3⟩ := arr_at1 h.2.2 (by rw [List.length_map]; exact hp)
  refine ⟨b, off, h1, h2, fun i x hx => ?_⟩
  have hr : (l.map fun x => [intV x])[i]? = some [intV x] := by rw [List.getElem?_map, hx]; rfl
  have := h3 i _ hr 0 _ rfl
  rwa [Nat.mul_one, Nat.add_zero] at this
theorem ints_flat (l : List Int) : (l.map fun x => [intV x]).flatten = l.map intV := by
  induction l with
  | nil => rfl
  | cons a t ih => rw [List.map_cons, List.flatten_cons, ih]; rfl
theorem ints_of_own {w : World} {B n : Nat} {v : Value} {l : List Int} (h : w.ownsRow B 3 1 v n (l.map intV)) (hr : ∀ x ∈ l, R64 x) : Ints w v l := by
  refine ⟨hr, own_nilOkE h, ?_⟩
  rw [← ints_flat] at h
  refine arr_of_own h ?_ (fun r hr => by obtain ⟨s, _, rfl⟩ := List.mem_map.1 hr; rfl)
  have := h.1
  rw [ints_flat, List.length_map] at this
  rw [List.length_map]; omega
theorem ints_none {w : World} {n c : Nat} {l : List Int} (h : Ints w (.slice none n c) l) : l = [] ∧ c = 0 := by
  refine ⟨?_, h.2.1 _ _ rfl⟩
  rcases Nat.eq_zero_or_pos l.length with h0 | h0
  · exact List.eq_nil_of_length_eq_zero h0
  · obtain ⟨b, off, hA, _⟩ := ints_cells h h0
    cases hA
theorem intV_one (l : List Int) : ∀ u ∈ l.map intV, u.oneCell' = true := fun u hu => by
  obtain ⟨x, _, rfl⟩ := List.mem_map.1 hu
  rfl
set_option maxRecDepth 100000 in
theorem append_ints {ops : Array Oper} {rest : List Oper} {o : Oper} {a : Act} {w : World} {Q : Exit → Act → World → Prop} (hgd : o.guard = none) (s x : Operand) (ho : o.op = .call { callee := .builtin .append, args := #[s, x], argTypes := #[52, 52] })
    (base : Nat) (v : Value) (n : Nat) (olds : List Value) (hs : a.eval s = v) (hown : w.ownsRow base 3 1 v n olds) (l : List Int) (u : Value) (hx : a.eval x = u) (hsrc : Ints w u l) (hk : n + l.length ≤ 1000000000000) (hbase : base ≤ w.heap.size)
    (h : ∀ v' w', w'.ownsRow base 3 1 v' (n + l.length) (olds ++ l.map intV) → w.grownBy w' v.ownBlock → wpList Try.prog ops Q rest (a.put o.dst v') w') : wpList Try.prog ops Q (o :: rest) a w := by
  obtain ⟨i0, hi, hz0, hz1, hz2⟩ := info_parts info3
  obtain ⟨A, cap, rfl⟩ := ints_form hsrc
  rcases A with _ | ad
  · obtain ⟨hl, hc0⟩ := ints_none hsrc
    subst hl hc0
    refine wpList_append_own_none hgd s x 52 ho base 3 i0 1 Try.underlying52 hi v n olds hs hown hx ?_
    exact h v w (by simpa using hown) (World.grownBy.refl w _)
  · refine wpList_append_own w hgd s x 52 ho base 3 i0 _ 1 8 Try.underlying52 hi hz0 hz1 hz2 rfl (by decide) v n olds hs hown ad l.length cap (l.map intV) hx (by simp) ?_ (intV_one l) (by unfold maxLen; omega) (by omega) hbase ?_
    · intro j u hu
      rw [List.getElem?_map] at hu
      obtain ⟨z, hz, rfl⟩ := Option.map_eq_some_iff.1 hu
      obtain ⟨b, off, hA, _, hc⟩ := ints_cells hsrc (by have := (List.getElem?_eq_some_iff.1 hz).1; omega)
      injection hA with hA
      subst hA
      rw [add_at]
      exact hc j z hz
    · exact fun v' w' h1 h2 _ => h v' w' h1 h2
theorem own_empty3 (w : World) : (w.alloc (.cells #[] 3)).ownsRow w.heap.size 3 1 (.slice (some ⟨w.heap.size, 0, none⟩) 0 0) 0 [] :=
  ⟨rfl, .inr ⟨w.heap.size, 0, #[], rfl, Nat.le_refl _, heap_alloc_new w _, Nat.le_refl _, by unfold maxLen; omega, rfl, rfl⟩⟩
/-- Numbers of one's own. -/
def MadeI (w : World) (l : List Int) (e : Ending) (w' : World) : Prop := ∃ v, e = .returned v ∧ w'.ownsRow w.heap.size 3 1 v l.length (l.map intV) ∧ Below w.heap.size w w'
set_option maxHeartbeats 2000000 in
set_option maxRecDepth 100000 in
theorem cloneI_any (l : List Int) (v : Value) (w : World) (hv : Ints w v l) (hl : l.length ≤ 900000000000) : Calls Try.prog 62 #[v] w (MadeI w l) := by
  obtain ⟨A, ca, rfl⟩ := ints_form hv
  have HV := hid hv
  rcases A with _ | ad
  · obtain ⟨hl0, hc⟩ := ints_none hv
    subst hl0 hc
    clear hv
    have hq := fun (w : World) (a : Option Addr) (n c : Nat) => Lib.run_eql_slice_nil (P := Try.prog) w 52 3 a n c 0 0 Try.underlying52
    go_enter Try.func62, Try.ntmps62
    go_wp2
    go_ret
    exact ⟨_, rfl, World.ownsRow_nil _ _ _ _, Below.refl _ _⟩
  · clear hv
    have hq := fun (w : World) (a : Option Addr) (n c : Nat) => Lib.run_eql_slice_nil (P := Try.prog) w 52 3 a n c 0 0 Try.underlying52
    go_enter Try.func62, Try.ntmps62
    go_wp2_with (at_builtin; refine append_ints rfl (.tmp 5) (.tmp 6) rfl w.heap.size _ 0 [] rfl (own_empty3 w) l _ rfl (HV.out.below (al1 _ _)) (by omega) (by simp) ?_; intro v1 w1 hown1 hg1; have HB1 := hid (below_ownE (al1 w _) (own_empty3 w) hg1 (by simp) (Nat.le_refl _)); have HO1 := hid hown1; clear hown1 hg1)
    obtain ⟨av, cv, rfl⟩ := own_formE HO1.out
    go_wp2
    go_ret
    exact ⟨_, rfl, by have h := HO1.out; simpa using h, HB1.out⟩
/-- The choices in their box; all of their memory lies below block K. -/
def Chs (K : Nat) (w : World) (c : Nat) (l : List Int) : Prop := ∃ v, w.heap[c]? = some (.cells #[v] 121) ∧ Ints w v l ∧ c < K ∧ ∀ a n k, v = .slice (some a) n k → a.block < K ∧ ∃ cs, w.heap[a.block]? = some (.cells cs 3)
theorem Ints.same {w w' : World} {v : Value} {l : List Int} {K : Nat} (h : Ints w v l) (hk : ∀ a n k, v = .slice (some a) n k → a.block < K) (hz : w.heap.size ≤ w'.heap.size) (hb : ∀ k, k < K → w'.heap[k]? = w.heap[k]?) : Ints w' v l := by
  refine ⟨h.1, h.2.1, ?_⟩
  obtain ⟨A, cap, e, h1, h2, b, off, hA, hc⟩ := h.2.2
  refine ⟨A, cap, e, h1, h2, b, off, fun hp => ⟨(hA hp).1, Nat.lt_of_lt_of_le (hA hp).2 hz⟩, fun i r hi j z hj => ?_⟩
  have hl := (List.getElem?_eq_some_iff.1 hi).1
  have hbl : b < K := hk _ _ _ (by rw [e, (hA (by omega)).1])
  have h3 := hc i r hi j z hj
  unfold World.cell? at h3 ⊢
  rw [hb b hbl]
  exact h3
theorem Chs.same {K : Nat} {w w' : World} {c : Nat} {l : List Int} (h : Chs K w c l) (hz : w.heap.size ≤ w'.heap.size) (hb : ∀ k, k < K → w'.heap[k]? = w.heap[k]?) : Chs K w' c l := by
  obtain ⟨v, h1, h2, h3, h4⟩ := h
  exact ⟨v, (hb c h3).trans h1, h2.same (fun a n k e => (h4 a n k e).1) hz hb, h3, fun a n k e => ⟨(h4 a n k e).1, by obtain ⟨h5, cs, h6⟩ := h4 a n k e; exact ⟨cs, (hb _ h5).trans h6⟩⟩⟩
theorem Chs.keep {K : Nat} {w w' : World} {c : Nat} {l : List Int} (h : Chs K w c l) (hz : w.heap.size ≤ w'.heap.size) (h1 : Keep 121 w w') (h2 : Keep 3 w w') : Chs K w' c l := by
  obtain ⟨v, q1, q2, q3, q4⟩ := h
  refine ⟨v, h1 _ _ q1, ⟨q2.1, q2.2.1, ?_⟩, q3, fun a n k e => ⟨(q4 a n k e).1, by obtain ⟨_, cs, h6⟩ := q4 a n k e; exact ⟨cs, h2 _ _ h6⟩⟩⟩
  obtain ⟨A, cap, e, g1, g2, b, off, hA, hc⟩ := q2.2.2
  refine ⟨A, cap, e, g1, g2, b, off, fun hp => ⟨(hA hp).1, Nat.lt_of_lt_of_le (hA hp).2 hz⟩, fun i r hi j z hj => ?_⟩
  have hl := (List.getElem?_eq_some_iff.1 hi).1
  obtain ⟨_, cs, h6⟩ := q4 _ _ _ (by rw [e, (hA (by omega)).1])
  have h3 := hc i r hi j z hj
  rw [cell_of_row _ _ _ _ _ _ h6] at h3
  rw [cell_of_row _ _ _ _ _ _ (h2 _ _ h6)]
  exact h3
theorem Chs.below {K : Nat} {w w' : World} {c : Nat} {l : List Int} (h : Chs K w c l) (hb : Below w.heap.size w w') (hK : K ≤ w.heap.size) : Chs K w' c l := h.same hb.size (fun k hk => hb.block k (by omega))
theorem Chs.upd {K : Nat} {w w' : World} {c g : Nat} {l : List Int} (h : Chs K w c l) (hb : Upd g w w') (hK : K ≤ w.heap.size) (hg : K ≤ g) : Chs K w' c l := h.same hb.low.size (fun k hk => hb.block k (by omega) (by omega))
set_option maxHeartbeats 2000000 in
set_option maxRecDepth 100000 in
theorem from_any (l : List Int) (v : Value) (w : World) (hv : Ints w v l) (hl : l.length ≤ 900000000000) :
    Calls Try.prog 51 #[v] w fun e w' => ∃ c, e = .returned (.pointer (some ⟨c, 0, none⟩)) ∧ w.heap.size ≤ c ∧ Chs w'.heap.size w' c l ∧ Below w.heap.size w w' := by
  obtain ⟨A, ca, rfl⟩ := ints_form hv
  have HV := hid hv
  have HR := hid hv.1
  clear hv
  go_enter Try.func51, Try.ntmps51
  go_wp2_with (go_at_call 62; refine (cloneI_any l _ w HV.out hl).mono ?_; rintro e w1 ⟨v1, rfl, ho1, hb1⟩; obtain ⟨A1, c1, rfl⟩ := own_formE ho1; have HO1 := hid ho1; have HB1 := hid hb1; clear ho1 hb1)
  go_ret
  exact ⟨_, rfl, HB1.out.size, ⟨_, heap_alloc_new _ _, (ints_of_own HO1.out HR.out).below (al1 _ _), by simp, fun a n k e => ⟨by have := (HO1.out.lt a.block (by injection e with e1; rw [e1]; rfl)).2; simp; omega, by
    rcases HO1.out.2 with ⟨e2, _⟩ | ⟨q, cap, cur, e2, _, hq, _⟩
    · rw [e2] at e; cases e
    · rw [e2] at e
      injection e with e1
      injection e1 with e1
      exact ⟨cur, by rw [← e1]; exact (Below.heap_alloc _ _ _ (box_lt hq)).trans hq⟩⟩⟩, HB1.out.alloc HB1.out.size _⟩
set_option maxHeartbeats 2000000 in
set_option maxRecDepth 100000 in
theorem left_any (K c : Nat) (l : List Int) (w : World) (hc : Chs K w c l) (hl : l.length ≤ 900000000000) : Calls Try.prog 55 #[.pointer (some ⟨c, 0, none⟩)] w (MadeI w l) := by
  obtain ⟨v, hx, hv, _, _⟩ := hc
  obtain ⟨A, ca, rfl⟩ := ints_form hv
  have x0 := cell_of_row _ _ 0 _ _ _ hx
  have HV := hid hv
  clear hv hx
  go_enter Try.func55, Try.ntmps55
  go_wp2_with (go_at_call 62; refine (cloneI_any l _ w HV.out hl).mono ?_; rintro e w1 ⟨v1, rfl, ho1, hb1⟩; obtain ⟨A1, c1, rfl⟩ := own_formE ho1; have HO1 := hid ho1; have HB1 := hid hb1; clear ho1 hb1)
  go_ret
  exact ⟨_, rfl, HO1.out, HB1.out⟩
/-- A decision among n, and what is left. -/
def dec (l : List Int) (n : Int) : Int := match l with
  | [] => 0
  | x :: _ => x % n
theorem tmod_emod (x n : Int) : (x.tmod n + n) % n = x % n := by
  rw [Int.add_emod_right]
  have := Int.tmod_eq_emod (a := x) (b := n)
  rw [this]
  split
  · simp
  · rcases Int.le_total 0 n with h | h
    · rw [show (n.natAbs : Int) = n by omega, Int.sub_emod_right, Int.emod_emod]
    · rw [show (n.natAbs : Int) = -n by omega, Int.sub_neg, Int.add_emod_right, Int.emod_emod]
theorem run_slice1 (A : Option Addr) (n c : Nat) (hk : 1 ≤ n) (W : World) : (Instr.slice 52 (.slice A n c) (some (.int .i64 1)) none none).run Try.prog W = .ok (.slice (fromN 1 A c 1) (n - 1) (c - 1)) W := by
  simp [Instr.slice, run_underlying Try.underlying52, Instr.sliceBounds, Sem.run_bind, run_sliceBound_if, fromN]
  intro h
  omega
theorem ints_tail {w : World} {A : Option Addr} {n c : Nat} {l : List Int} (h : Ints w (.slice A n c) l) (hp : 1 ≤ l.length) : Ints w (.slice (fromN 1 A c 1) (n - 1) (c - 1)) l.tail := by
  obtain ⟨A', c', e, h1, h2, _⟩ := h.2.2
  injection e with e1 e2 e3
  rw [List.length_map] at e2 h1
  subst e1 e3
  refine ⟨fun x hx => h.1 x (List.mem_of_mem_tail hx), fun m k e => ?_, ?_⟩
  · injection e with ea _ ec
    unfold fromN at ea
    split at ea
    · omega
    · rcases A with _ | a
      · have := h.2.1 _ _ rfl
        omega
      · cases ea
  · have := arr_mid h.2.2 1 n (by omega) (by rw [List.length_map]; omega)
    have e : (List.take (n - 1) (List.drop 1 (List.map (fun x => [intV x]) l))) = l.tail.map fun x => [intV x] := by
      rw [List.take_of_length_le (by rw [List.length_drop, List.length_map]; omega), List.drop_one, List.map_tail]
    rwa [e] at this
theorem ints_upd {w w' : World} {c : Nat} {v u : Value} {l : List Int} (h : Ints w v l) (hx : w.heap[c]? = some (.cells #[u] 121)) (hu : ∀ x, u ≠ .int .i64 x) (hd : Upd c w w') : Ints w' v l := by
  refine ⟨h.1, h.2.1, ?_⟩
  obtain ⟨A, cap, e, h1, h2, b, off, hA, hc⟩ := h.2.2
  refine ⟨A, cap, e, h1, h2, b, off, fun hp => ⟨(hA hp).1, Nat.lt_of_lt_of_le (hA hp).2 hd.low.size⟩, fun i r hi j z hj => ?_⟩
  have hl := (List.getElem?_eq_some_iff.1 hi).1
  have hb := (hA (by omega)).2
  have h3 := hc i r hi j z hj
  have hne : b ≠ c := fun e => by
    subst e
    rw [cell_of_row _ _ _ _ _ _ hx] at h3
    rw [List.getElem?_map] at hi
    obtain ⟨x, _, rfl⟩ := Option.map_eq_some_iff.1 hi
    have hj0 : j = 0 := by have := (List.getElem?_eq_some_iff.1 hj).1; simp at this; exact this
    subst hj0
    simp at hj
    subst hj
    rcases hk : off + i * 1 + 0 with _ | q
    · rw [hk] at h3
      simp at h3
      exact hu _ h3
    · rw [hk] at h3
      simp at h3
  have := hd.block b hb hne
  unfold World.cell? at h3 ⊢
  rw [this]
  exact h3
/-- What a decision does. -/
def DecQ (K : Nat) (w : World) (c : Nat) (l : List Int) (n : Int) (e : Ending) (w' : World) : Prop := e = .returned (.int .i64 (dec l n)) ∧ Chs K w' c l.tail ∧ Upd c w w'
set_option maxHeartbeats 2000000 in
set_option maxRecDepth 100000 in
theorem decide_any (K c : Nat) (l : List Int) (n : Int) (w : World) (hc : Chs K w c l) (h0 : 0 < n) (h1 : n ≤ 2000000000) : Calls Try.prog 54 #[.pointer (some ⟨c, 0, none⟩), .int .i64 n] w (DecQ K w c l n) := by
  obtain ⟨v, hx, hv, hcK, hvK⟩ := hc
  have HCK := hid hcK
  have HVK := hid hvK
  clear hcK hvK
  obtain ⟨A, ca, rfl⟩ := ints_form hv
  have x0 := cell_of_row _ _ 0 _ _ _ hx
  have fx := box_fr hx 0
  have HV := hid hv
  have HX := hid hx
  rcases l with _ | ⟨z, t⟩
  · have d0 : (((0 : Nat) : Int) == 0) = true := rfl
    have d0' : ((0 : Int) == 0) = true := rfl
    rw [List.length_nil] at x0
    have HC : Hid (Chs K w c ([] : List Int).tail) := hid ⟨_, hx, hv, HCK.out, HVK.out⟩
    clear hv hx
    go_enter Try.func54, Try.ntmps54
    go_wp2
    go_ret
    exact ⟨rfl, HC.out, Upd.refl _ _⟩
  · obtain ⟨m, hm⟩ : ∃ m, (z :: t).length = m := ⟨_, rfl⟩
    rw [hm] at x0 HV HX hv
    obtain ⟨b, off, rfl, hb, hq⟩ := ints_cells hv (by simp)
    have q0 := hq 0 z rfl
    rw [Nat.add_zero] at q0
    have hm1 : 1 ≤ m := by rw [← hm]; simp
    have dm : ((m : Int) == 0) = false := by rw [beq_eq_false_iff_ne]; omega
    have hmI : (0 : Int) < (m : Int) := by omega
    have hmN : 0 < m := by omega
    have hsl := run_slice1 (some ⟨b, off, none⟩) m ca hm1
    obtain ⟨fA, hfA⟩ : ∃ fA, fromN 1 (some ⟨b, off, none⟩) ca 1 = fA := ⟨_, rfl⟩
    rw [hfA] at hsl
    have HT := hid (ints_tail hv (by simp))
    rw [hfA] at HT
    have HVF : Hid (∀ a n k, Value.slice fA (m - 1) (ca - 1) = .slice (some a) n k → a.block < K ∧ ∃ cs, (w.setCell ⟨c, 0, none⟩ (.slice fA (m - 1) (ca - 1))).heap[a.block]? = some (.cells cs 3)) := hid (fun a n k e => by
      obtain ⟨h, cs, hcs⟩ := HVK.out ⟨b, off, none⟩ _ _ rfl
      have hbc : b ≠ c := fun e => by subst e; rw [HX.out] at hcs; cases hcs
      have hcs' := (Below.heap_setCell w ⟨c, 0, none⟩ (.slice fA (m - 1) (ca - 1)) b hbc).trans hcs
      injection e with e1
      rw [← hfA] at e1
      unfold fromN at e1
      split at e1
      · injection e1 with e1; rw [← e1]; exact ⟨h, cs, hcs'⟩
      · injection e1 with e1; rw [← e1]; show ((⟨b, off, none⟩ : Addr).add (1 * 1)).block < K ∧ _; rw [show (fun (x : Addr) => x.add (1 * 1)) ⟨b, off, none⟩ = ⟨b, off + 1 * 1, none⟩ from add_at _ _ _, add_at]; exact ⟨h, cs, hcs'⟩)
    have HS := hid (tmod_emod z n)
    have hr := hv.1 z (List.mem_cons_self ..)
    have hl := Int.lt_tmod_of_pos z h0
    have hh := Int.tmod_lt_of_pos z h0
    have hR1 : IntKind.i64.wrap (z.tmod n + n) = z.tmod n + n := by rw [IntKind.wrap_i64]; omega
    have hne : (n == 0) = false := by rw [beq_eq_false_iff_ne]; omega
    clear hv hx hq hfA hm
    go_enter Try.func54, Try.ntmps54
    go_wp2
    go_ret
    refine ⟨congrArg (fun r => Ending.returned (.int .i64 r)) HS.out, ?_, ?_⟩
    · exact ⟨_, box_set (cs := [_]) HX.out 0 _, ints_upd HT.out HX.out (fun x h => by cases h) ((Upd.refl c w).set 0 _), HCK.out, HVF.out⟩
    · exact (Upd.refl c w).set 0 _
end Go.Proofs.Ytnocgfhcamnjdaa
