/- Same of equal lists, the reference's List, Contains (carried over from extent). -/
import Derived.Test.YtoefbgkeinhibaaXH
import Derived.Laws.StructEq
import Derived.KernelRfl
import Derived.Laws.MakeOwn
namespace Go.Proofs.Ytoefbgkeinhibaa.Xt
open Go.RowKit Go.Shelf
attribute [local go_sem] Oper.semAt_some
theorem ext_len {w : World} {v : Value} {l : List (Int × Int)} (h : Ext w v l) : l.length ≤ 9223372036854775807 := by
  obtain ⟨_, _, cap, _, h1, h2, _⟩ := h
  unfold maxLen at h2
  omega
theorem ext_form {w : World} {v : Value} {l : List (Int × Int)} (h : Ext w v l) : ∃ A cap, v = .slice A l.length cap := by
  obtain ⟨_, A, cap, h, _⟩ := h
  exact ⟨A, cap, h⟩
theorem fields29 : Try.prog.underlying 29 = some (.struct (Try.prog.fieldsOf 29)) := by kernel_rfl
theorem stood29 : Try.prog.stoodInHeld 29 = false := by kernel_rfl
@[go_sem] theorem guard44 : Try.prog.eqGuardType Try.prog.depth 29 = false := by kernel_rfl
theorem eq29 (a b c d : Int) (w : World) : (Op.equalIn 10000 29 (.agg #[.int .i64 a, .int .i64 b]) (.agg #[.int .i64 c, .int .i64 d])).run Try.prog w = .ok (a == c && b == d) w := by
  have u3 := Try.underlying3
  rw [show (10000 : Nat) = 9999 + 1 from rfl, run_equalIn_agg w 9999 29 _ _ fields29 stood29]
  simp only [Program.fieldsOf, Try.underlying29]
  go_simp
  by_cases h1 : a = c <;> by_cases h2 : b = d <;> simp [h1, h2]
theorem neq29 (a b c d : Int) (w : World) : (binOp .neq 29 (.agg #[.int .i64 a, .int .i64 b]) (.agg #[.int .i64 c, .int .i64 d])).run Try.prog w = .ok (.bool (!(a == c && b == d))) w := by
  rw [run_neq_struct, eq29]; rfl
theorem ret_bool {a b : Bool} (h : a = b) : Ending.returned (.bool a) = .returned (.bool b) := by rw [h]
theorem list_same {l m : List (Int × Int)} {k : Nat} (h : ∀ j, j < k → l[j]? = m[j]?) (h1 : l.length ≤ k) (h2 : m.length ≤ k) : l = m := by
  apply List.ext_getElem?
  intro j
  rcases Nat.lt_or_ge j k with hj | hj
  · exact h j hj
  · rw [List.getElem?_eq_none (by omega), List.getElem?_eq_none (by omega)]
theorem list_differ {l m : List (Int × Int)} {k : Nat} {s n s' n' : Int} (HE : Hid (l[k]? = some (s, n))) (HE' : Hid (m[k]? = some (s', n'))) (HX : Hid (¬ (s = s' ∧ n = n'))) : decide (l = m) = false := by
  simp only [decide_eq_false_iff_not]
  rintro rfl
  have := HE.out
  rw [HE'.out] at this
  simp only [Option.some.injEq, Prod.mk.injEq] at this
  exact HX.out ⟨this.1.symm, this.2.symm⟩
set_option maxHeartbeats 1000000 in
theorem same_any (l m : List (Int × Int)) (v u : Value) (w : World) (hv : Ext w v l) (hu : Ext w u m) (hl : l.length ≤ 10000) (_hm : m.length ≤ 10000) :
    Calls Try.prog 26 #[v, u] w fun e w' => e = .returned (.bool (decide (l = m))) ∧ Below w.heap.size w w' := by
  obtain ⟨hr, A, cap, rfl, hcap, hcm, b, off, hA, hc⟩ := hv
  obtain ⟨hr', A', cap', rfl, hcap', hcm', b', off', hA', hc'⟩ := hu
  have HC := hid hc
  have HC' := hid hc'
  clear hc hc' hr hr'
  by_cases hlen : l.length = m.length
  · have hne : ((l.length : Int) != (m.length : Int)) = false := by simp [hlen]
    have hle : m.length ≤ l.length := by omega
    have hle' : l.length ≤ m.length := by omega
    clear hlen
    go_enter Try.func26, Try.ntmps26
    go_wp2
    go_loopw [5] (fun i wr => ∃ (k : Nat), k ≤ l.length ∧ i = .int .i64 k ∧ Hid (∀ j, j < k → l[j]? = m[j]?) ∧ ∃ q, wr = w.drewN q) (fun i _ => l.length - (intOf i).toNat)
    case atStart => exact ⟨0, Nat.zero_le _, rfl, hid (fun j hj => by omega), 0, rfl⟩
    case round =>
      obtain ⟨k, hk, rfl, H0, q, rfl⟩ := hrel
      by_cases hlt : k < l.length
      · obtain ⟨hA1, hb⟩ := hA (by omega)
        subst hA1
        obtain ⟨hA1', hb'⟩ := hA' (by omega)
        subst hA1'
        obtain ⟨⟨s, n⟩, he⟩ : ∃ e, l[k]? = some e := ⟨l[k], List.getElem?_eq_getElem hlt⟩
        obtain ⟨⟨s', n'⟩, he'⟩ : ∃ e, m[k]? = some e := ⟨m[k]'(by omega), List.getElem?_eq_getElem (by omega)⟩
        have hc1 := (HC.out k _ he).1
        have hc2 := (HC.out k _ he).2
        have hc3 := (HC'.out k _ he').1
        have hc4 := (HC'.out k _ he').2
        have HE := hid he
        have HE' := hid he'
        have hklt : k < m.length := by omega
        clear he he'
        dsimp only at hc1 hc2 hc3 hc4
        have hq := fun W => neq29 s n s' n' W
        by_cases hx : s = s' ∧ n = n'
        · obtain ⟨hx1, hx2⟩ := hx
          subst hx1
          subst hx2
          go_wp2
          go_quiet (fail)
          go_wp2
          go_roundw
          case rel => exact ⟨k + 1, by omega, by go_num, hid (fun j hj => by
            rcases Nat.lt_or_ge j k with h | h
            · exact H0.out j h
            · obtain rfl : j = k := by omega
              rw [HE.out, HE'.out]), _, rfl⟩
          case measure => simp [intOf]; omega
        · have hbb : (s == s' && n == n') = false := by
            cases hh : (s == s' && n == n') with
            | false => rfl
            | true => simp at hh; exact absurd hh hx
          have HX := hid hx
          clear hx
          go_wp2
          go_quiet (fail)
          go_wp2
          go_ret
          exact ⟨ret_bool (list_differ HE HE' HX).symm, below_drewN (below_drewN (Below.refl _ _) _) _⟩
      · have hd : decide (l = m) = true := by
          simp only [decide_eq_true_eq]
          exact list_same H0.out (by omega) (by omega)
        have HD := hid hd
        clear hd
        obtain rfl : k = l.length := by omega
        go_wp2
        go_ret
        exact ⟨ret_bool HD.out.symm, below_drewN (Below.refl _ _) _⟩
  · have hne : ((l.length : Int) != (m.length : Int)) = true := by rw [bne_iff_ne]; omega
    have hd : decide (l = m) = false := by simp; intro h; exact hlen (by rw [h])
    rw [hd]
    clear hlen hd
    go_enter Try.func26, Try.ntmps26
    go_wp2
    go_ret
    exact ⟨rfl, Below.refl _ _⟩
theorem same_true (l : List (Int × Int)) (v u : Value) (w : World) (hv : Ext w v l) (hu : Ext w u l) (hl : l.length ≤ 10000) :
    Calls Try.prog 26 #[v, u] w fun e w' => e = .returned (.bool true) ∧ Below w.heap.size w w' := by
  refine (same_any l l v u w hv hu hl hl).mono ?_
  rintro e w' ⟨rfl, hb⟩
  exact ⟨ret_bool (by simp), hb⟩
set_option maxHeartbeats 1000000 in
theorem inside_any (s n x : Int) (bx : Nat) (w : World) (hs : R64 s) (hn : R64 n) (hx : w.cell? ⟨bx, 0, none⟩ = some (.int .i64 x)) (hb : bx < w.heap.size) :
    Calls Try.prog 57 #[.agg #[.int .i64 s, .int .i64 n], .pointer (some ⟨bx, 0, none⟩)] w fun e w' => e = .returned (.bool (inE (s, n) x)) ∧ Below w.heap.size w w' := by
  have hin := inE_clip (s, n) x
  dsimp only at hin
  by_cases h1 : clipF s n ≤ x
  · by_cases h2 : x < clipE s n
    · have HI := hid (show inE (s, n) x = true by rw [hin]; simp [h1, h2])
      clear hin
      go_enter Try.func57, Try.ntmps57
      go_wp2_with (go_at_call 58; refine (clip_any s n _ hs hn).mono ?_; rintro e w1 ⟨rfl, hb1⟩; have hx1 := (hb1.cell (p := ⟨bx, 0, none⟩) (by simp; omega)).trans ((World.cell?_alloc_lt w _ ⟨bx, 0, none⟩ (by simp; omega)).trans hx))
      go_ret
      exact ⟨ret_bool HI.out.symm, below_more hb1 (Nat.le_refl _)⟩
    · have HI := hid (show inE (s, n) x = false by rw [hin]; simp [h2])
      clear hin
      go_enter Try.func57, Try.ntmps57
      go_wp2_with (go_at_call 58; refine (clip_any s n _ hs hn).mono ?_; rintro e w1 ⟨rfl, hb1⟩; have hx1 := (hb1.cell (p := ⟨bx, 0, none⟩) (by simp; omega)).trans ((World.cell?_alloc_lt w _ ⟨bx, 0, none⟩ (by simp; omega)).trans hx))
      go_ret
      exact ⟨ret_bool (by rw [HI.out]; simp; omega), below_more hb1 (Nat.le_refl _)⟩
  · have HI := hid (show inE (s, n) x = false by rw [hin]; simp [h1])
    clear hin
    go_enter Try.func57, Try.ntmps57
    go_wp2_with (go_at_call 58; refine (clip_any s n _ hs hn).mono ?_; rintro e w1 ⟨rfl, hb1⟩; have hx1 := (hb1.cell (p := ⟨bx, 0, none⟩) (by simp; omega)).trans ((World.cell?_alloc_lt w _ ⟨bx, 0, none⟩ (by simp; omega)).trans hx))
    go_ret
    exact ⟨ret_bool HI.out.symm, below_more hb1 (Nat.le_refl _)⟩
/-- The first place from k on at which p holds. -/
theorem ret_int' {a b : Int} (h : a = b) : Ending.returned (.int .i64 a) = .returned (.int .i64 b) := by rw [h]
theorem mem_take_succ {l : List (Int × Int)} {k : Nat} {e : Int × Int} {x : Int} (he : Hid (l[k]? = some e)) : mem (l.take (k + 1)) x = (mem (l.take k) x || inE e x) := by
  obtain ⟨hi, h⟩ := List.getElem?_eq_some_iff.1 he.out
  rw [List.take_succ_eq_append_getElem hi, mem_append, h]
  simp [mem]
theorem mem_of_take {l : List (Int × Int)} {k : Nat} {x : Int} (h : mem (l.take k) x = true) : mem l x = true := by
  have : l = l.take k ++ l.drop k := (List.take_append_drop k l).symm
  rw [this, mem_append, h]; rfl
set_option maxHeartbeats 2000000 in
theorem index_any (l : List (Int × Int)) (v : Value) (x : Int) (bx : Nat) (w : World) (hv : Ext w v l) (hl : l.length ≤ 10000) (hx : w.cell? ⟨bx, 0, none⟩ = some (.int .i64 x)) (hbx : bx < w.heap.size) :
    Calls Try.prog 68 #[v, .func (.func 57) #[] #[.pointer (some ⟨bx, 0, none⟩)]] w fun e w' => ∃ r : Int, e = .returned (.int .i64 r) ∧ Hid (decide (0 ≤ r) = mem l x) ∧ -1 ≤ r ∧ r ≤ 10000 ∧ Below w.heap.size w w' := by
  obtain ⟨hr, A, cap, rfl, hcap, hcm, b, off, hA, hc⟩ := hv
  have HR := hid hr
  have HC := hid hc
  clear hr hc
  go_enter Try.func68, Try.ntmps68
  go_wp2
  go_loopw [4, 8] (fun r i wr => ∃ k : Nat, k ≤ l.length ∧ i = .int .i64 k ∧ r = .int .i64 0 ∧ Hid (mem (l.take k) x = false) ∧ Below w.heap.size w wr) (fun _ i _ => l.length - (intOf i).toNat)
  case atStart => exact ⟨0, Nat.zero_le _, rfl, rfl, hid rfl, Below.refl _ _⟩
  case round =>
    obtain ⟨k, hk, rfl, rfl, H0, hB⟩ := hrel
    have hBs := hB.size
    by_cases hlt : k < l.length
    · obtain ⟨hA1, hb⟩ := hA (by omega)
      subst hA1
      obtain ⟨⟨s, n⟩, he⟩ : ∃ e, l[k]? = some e := ⟨l[k], List.getElem?_eq_getElem hlt⟩
      obtain ⟨hs, hn⟩ := HR.out (s, n) (List.mem_of_getElem? he)
      have hc1 := (hB.cell (p := ⟨b, off + k * 2, none⟩) hb).trans (HC.out k _ he).1
      have hc2 := (hB.cell (p := ⟨b, off + k * 2 + 1, none⟩) hb).trans (HC.out k _ he).2
      have hxw := (hB.cell (p := ⟨bx, 0, none⟩) hbx).trans hx
      have HE := hid he
      clear he
      dsimp only at hc1 hc2 hs hn
      by_cases hin : inE (s, n) x = true
      · have HI := hid hin
        clear hin
        go_wp2_with (go_at_call 57; refine (inside_any s n x bx _ hs hn hxw (by omega)).mono ?_; rintro e w1 ⟨rfl, hb1⟩; have hi1 := HI.out)
        go_ret
        refine ⟨k, rfl, hid ?_, by omega, by omega, below_both hB hb1⟩
        have h1 := mem_take_succ (x := x) HE
        rw [HI.out, Bool.or_true] at h1
        rw [mem_of_take h1]
        simp
      · have HI := hid (show inE (s, n) x = false by simpa using hin)
        clear hin
        go_wp2_with (go_at_call 57; refine (inside_any s n x bx _ hs hn hxw (by omega)).mono ?_; rintro e w1 ⟨rfl, hb1⟩; have hi1 := HI.out)
        go_roundw
        case rel => exact ⟨k + 1, by omega, by go_num, rfl, hid (by rw [mem_take_succ HE, H0.out, HI.out]; rfl), below_both hB hb1⟩
        case measure => simp [intOf]; omega
    · obtain rfl : k = l.length := by omega
      have H1 := H0.out
      rw [List.take_length] at H1
      have H1 := hid H1
      go_wp2
      go_ret
      exact ⟨-1, rfl, hid (by rw [H1.out]; rfl), by omega, by omega, hB⟩
set_option maxHeartbeats 1000000 in
theorem containsf_any (l : List (Int × Int)) (v : Value) (x : Int) (bx : Nat) (w : World) (hv : Ext w v l) (hl : l.length ≤ 10000) (hx : w.cell? ⟨bx, 0, none⟩ = some (.int .i64 x)) (hbx : bx < w.heap.size) :
    Calls Try.prog 56 #[v, .func (.func 57) #[] #[.pointer (some ⟨bx, 0, none⟩)]] w fun e w' => e = .returned (.bool (mem l x)) ∧ Below w.heap.size w w' := by
  have HX := hid (index_any l v x bx w hv hl hx hbx)
  obtain ⟨A, ca, hva⟩ : ∃ A ca, v = .slice A l.length ca := by obtain ⟨_, A, ca, h, _⟩ := hv; exact ⟨A, ca, h⟩
  subst hva
  clear hv hx
  go_enter Try.func56, Try.ntmps56
  go_wp2_with (go_at_call 68; refine HX.out.mono ?_; rintro e w1 ⟨r, rfl, hr, hr1, hr2, hb⟩)
  go_ret
  exact ⟨ret_bool hr.out, hb⟩
set_option maxHeartbeats 1000000 in
theorem contains_any (l : List (Int × Int)) (v : Value) (x : Int) (w : World) (hv : Ext w v l) (hl : l.length ≤ 10000) :
    Calls Try.prog 37 #[v, .int .i64 x] w fun e w' => e = .returned (.bool (mem l x)) ∧ Below w.heap.size w w' := by
  have hB : Below w.heap.size w (w.alloc (.cells #[.int .i64 x] 3)) := (Below.refl _ w).alloc (Nat.le_refl _) _
  have HX := hid (containsf_any l v x w.heap.size _ (hv.below hB) hl (cell_of_row _ _ _ _ _ _ (heap_alloc_new w _)) (by simp))
  obtain ⟨A, ca, hva⟩ : ∃ A ca, v = .slice A l.length ca := by obtain ⟨_, A, ca, h, _⟩ := hv; exact ⟨A, ca, h⟩
  subst hva
  clear hv
  go_enter Try.func37, Try.ntmps37
  go_wp2_with (go_at_call 56; refine HX.out.mono ?_; rintro e w1 ⟨rfl, hb⟩)
  go_ret
  exact ⟨rfl, below_both hB hb⟩
/-- Block g holds the marks m of the sectors 0 to N - 1. -/
def Mk (N : Nat) (w : World) (g : Nat) (m : Int → Bool) : Prop := ∃ cs, w.heap[g]? = some (.cells cs 4 (0, 0)) ∧ cs.size = N ∧ ∀ i : Nat, i < N → cs[i]? = some (.bool (m i))
section
variable {N : Nat} {w w' : World} {g : Nat} {m m' : Int → Bool}
theorem Mk.lt (h : Mk N w g m) : g < w.heap.size := by
  obtain ⟨cs, hc, _⟩ := h
  exact (Array.getElem?_eq_some_iff.1 hc).1
theorem Mk.cell (h : Mk N w g m) {i : Nat} (hi : i < N) : w.cell? ⟨g, i, none⟩ = some (.bool (m i)) := by
  obtain ⟨cs, hc, _, hm⟩ := h
  rw [cell_of_row _ _ _ _ _ _ hc]
  exact hm i hi
theorem Mk.frozen (h : Mk N w g m) (i : Nat) : w.frozen? ⟨g, i, none⟩ = false := by
  obtain ⟨cs, hc, _, _⟩ := h
  unfold World.frozen?
  rw [hc]
  simp
theorem Mk.keep (h : Mk N w g m) (hh : w'.heap[g]? = w.heap[g]?) : Mk N w' g m := by
  obtain ⟨cs, hc, h1, h2⟩ := h
  exact ⟨cs, hh.trans hc, h1, h2⟩
theorem Mk.below (h : Mk N w g m) (hb : Below w.heap.size w w') : Mk N w' g m := h.keep (hb.block _ h.lt)
theorem Mk.congr (h : Mk N w g m) (hm : ∀ i : Nat, i < N → m i = m' i) : Mk N w g m' := by
  obtain ⟨cs, hc, h1, h2⟩ := h
  exact ⟨cs, hc, h1, fun i hi => by rw [h2 i hi, hm i hi]⟩
theorem Mk.set (h : Mk N w g m) {i : Nat} (hi : i < N) (b : Bool) : Mk N (w.setCell ⟨g, i, none⟩ (.bool b)) g (fun x => if x = i then b else m x) := by
  obtain ⟨cs, hc, h1, h2⟩ := h
  refine ⟨cs.setIfInBounds i (.bool b), by simp [World.setCell, Array.getElem?_modify, hc], by simpa using h1, fun j hj => ?_⟩
  rw [Array.getElem?_setIfInBounds]
  by_cases e : i = j
  · subst e
    rw [if_pos rfl, if_pos (by omega)]
    simp
  · rw [if_neg e, h2 j hj]
    show some (Value.bool (m j)) = some (Value.bool (if (j : Int) = i then b else m j))
    rw [if_neg (by omega)]
end
theorem below_of_grown {w w1 wr : World} {g : Nat} (h : Below w.heap.size w wr) (hg : wr.grownBy w1 (some g)) (hw : w.heap.size ≤ g) : Below w.heap.size w w1 :=
  h.grown hg h.size (fun k e => by injection e with e; omega)
theorem linv_end {m : Int → Bool} {n : Nat} {out : List (Int × Int)} (h : LInv m n out) : Canon 0 out ∧ ∀ x, mem out x = (decide (0 ≤ x ∧ x < n) && m x) := ⟨h.1, h.2.1⟩
set_option maxHeartbeats 4000000 in
set_option maxRecDepth 100000 in
theorem list_any (g n cap : Nat) (m : Int → Bool) (w : World) (hm : Mk n w g m) (hn : n ≤ 4096) (hcap : n ≤ cap) (hcm : cap ≤ 4096) :
    Calls Try.prog 50 #[.slice (some ⟨g, 0, none⟩) n cap] w (Made w fun x => decide (0 ≤ x ∧ x < n) && m x) := by
  obtain ⟨i0, hi, hz0, hz1, hz2⟩ := info_parts info29
  have hglt := hm.lt
  have HM := hid hm
  clear hm
  have hb44 := fun (s : Int) X => build29 s 1 X
  go_enter Try.func50, Try.ntmps50
  go_wp2
  go_loopw [3, 4] (fun v i wr => ∃ (k : Nat) (out : List (Int × Int)), k ≤ n ∧ i = .int .i64 k ∧ Hid (LInv m k out) ∧ wr.ownsRow w.heap.size 29 2 v out.length (xflat out) ∧ Below w.heap.size w wr) (fun _ i _ => n - (intOf i).toNat)
  case atStart => exact ⟨0, [], Nat.zero_le _, rfl, hid (LInv.start m), World.ownsRow_nil _ _ _ _, Below.refl _ _⟩
  case round =>
    obtain ⟨k, out, hk, rfl, HL, hown, hB⟩ := hrel
    by_cases hlt : k < n
    · have x1 := (hB.cell (p := ⟨g, k, none⟩) hglt).trans (HM.out.cell (i := k) (by omega))
      cases hmk : m k with
      | false =>
        rw [hmk] at x1
        have HK := hid hmk
        clear hmk
        go_wp2
        go_roundw
        case rel => exact ⟨k + 1, out, by omega, by go_num, hid (HL.out.skip HK.out), hown, hB⟩
        case measure => simp [intOf]; omega
      | true =>
        rw [hmk] at x1
        have HK := hid hmk
        clear hmk
        by_cases h0 : 0 < k
        · have hi1 : (k : Int) - 1 = ((k - 1 : Nat) : Int) := by omega
          have x2 := (hB.cell (p := ⟨g, k - 1, none⟩) hglt).trans (HM.out.cell (i := k - 1) (by omega))
          cases hmp : m ((k - 1 : Nat) : Int) with
          | false =>
            rw [hmp] at x2
            have HP := hid hmp
            clear hmp
            have hln := len_of_canon HL.out.1
            obtain ⟨L, hL⟩ : ∃ L, out.length = L := ⟨_, rfl⟩
            rw [hL] at hown hln
            have HLL := hid hL
            clear hL
            go_wp2_with (at_builtin; refine wpList_append_own _ rfl _ _ 52 rfl w.heap.size 29 i0 (.agg #[.int .i64 0, .int .i64 0]) 2 16 Try.underlying52 hi hz0 hz1 hz2 rfl (by decide) _ _ _ rfl (hown.alloc _) ⟨wr.heap.size, 0, none⟩ 1 1 _ rfl (xflat_length [((k : Int), 1)]) (cells_new wr 29 _) (one_cells _ _) (by unfold maxLen; omega) (by omega) (by have := hB.size; simp; omega) ?_)
            intro v' w2 hown2 hgrow _
            have hB2 : Below w.heap.size w w2 := (hB.alloc hB.size _).grown hgrow (by have := hB.size; simp; omega) (fun q hq => (hown.lt q hq).1)
            have HO := hid hown2
            clear hown2 hgrow hown
            go_wp2
            go_roundw
            case rel =>
              refine ⟨k + 1, out ++ [((k : Int), 1)], by omega, by go_num, hid (HL.out.fresh HK.out (by omega) (fun _ => by rw [hi1]; exact HP.out)), ?_, hB2⟩
              rw [xflat_append, List.length_append, HLL.out]
              exact HO.out
            case measure => simp [intOf]; omega
          | true =>
            rw [hmp] at x2
            have HP := hid hmp
            clear hmp
            obtain ⟨pre, s, c, rfl, hsc⟩ := HL.out.prev h0 (by rw [hi1]; exact HP.out)
            have hln := len_of_canon HL.out.1
            obtain ⟨_, hs0, _, hc0, hsc2⟩ := canon_split HL.out.1
            rw [List.length_append] at hown hln
            simp only [List.length_cons, List.length_nil] at hown hln
            obtain ⟨g', cap', rfl⟩ := ownsRow_succ hown
            have hln2 : pre.length ≤ 4096 := by omega
            have y1 : wr.cell? ⟨g', pre.length * 2 + 1, none⟩ = some (.int .i64 c) := by
              rw [hown.cellAt _ (by omega), xflat_get _ _ _ (by omega)]
              simp [enc2]
            have y2 := hown.frozenAt (pre.length * 2 + 1)
            obtain ⟨hst, hgr⟩ := hown.stored (pre.length * 2 + 1) (.int .i64 (c + 1))
            have hB2 := below_of_grown hB hgr (hown.lt g' rfl).1
            have hxs : (xflat (pre ++ [(s, c)])).set (pre.length * 2 + 1) (.int .i64 (c + 1)) = xflat (pre ++ [(s, c + 1)]) := by
              rw [xflat_append, xflat_append, List.set_append_right _ _ (by rw [xflat_length]; omega), xflat_length]
              congr 1
              have : pre.length * 2 + 1 - pre.length * 2 = 1 := by omega
              rw [this]
              rfl
            rw [hxs] at hst
            have HO := hid hst
            clear hst hgr hown hxs
            go_wp2
            go_roundw
            case rel =>
              refine ⟨k + 1, pre ++ [(s, c + 1)], by omega, by go_num, hid (HL.out.longer HK.out (by omega) hsc), ?_, hB2⟩
              rw [List.length_append]
              exact HO.out
            case measure => simp [intOf]; omega
        · obtain rfl : k = 0 := by omega
          have hln := len_of_canon HL.out.1
          obtain ⟨L, hL⟩ : ∃ L, out.length = L := ⟨_, rfl⟩
          rw [hL] at hown hln
          have HLL := hid hL
          clear hL
          go_wp2_with (at_builtin; refine wpList_append_own _ rfl _ _ 52 rfl w.heap.size 29 i0 (.agg #[.int .i64 0, .int .i64 0]) 2 16 Try.underlying52 hi hz0 hz1 hz2 rfl (by decide) _ _ _ rfl (hown.alloc _) ⟨wr.heap.size, 0, none⟩ 1 1 _ rfl (xflat_length [((0 : Int), 1)]) (cells_new wr 29 _) (one_cells _ _) (by unfold maxLen; omega) (by omega) (by have := hB.size; simp; omega) ?_)
          intro v' w2 hown2 hgrow _
          have hB2 : Below w.heap.size w w2 := (hB.alloc hB.size _).grown hgrow (by have := hB.size; simp; omega) (fun q hq => (hown.lt q hq).1)
          have HO := hid hown2
          clear hown2 hgrow hown
          go_wp2
          go_roundw
          case rel =>
            refine ⟨0 + 1, out ++ [((0 : Int), 1)], by omega, by go_num, hid (HL.out.fresh HK.out (by omega) (fun h => absurd h (by omega))), ?_, hB2⟩
            rw [xflat_append, List.length_append, HLL.out]
            exact HO.out
          case measure => simp [intOf]; omega
    · obtain rfl : k = n := by omega
      go_wp2
      refine bodyPost_ret (results_tmp rfl _ _ _) rfl ?_
      exact ⟨_, out, rfl, (linv_end HL.out).1, (linv_end HL.out).2, ext_of_own hown (r64_of_canon HL.out.1), hB⟩
end Go.Proofs.Ytoefbgkeinhibaa.Xt
