/- The reference's PutInt; slices.Clone. -/
import Derived.Test.YtldlddoealpomaaC
import Derived.Lib.SliceRun
namespace Go.Proofs.Ytldlddoealpomaa
open Go.RowKit Go.Lib

/-- The number that is written for n. -/
def cl (n : Int) : Nat := if n < 0 ∨ 9007199254740991 < n then 0 else n.toNat
theorem cl_neg {n : Int} (h : n < 0) : cl n = 0 := by unfold cl; rw [if_pos (.inl h)]
theorem cl_big {n : Int} (h : 9007199254740991 < n) : cl n = 0 := by unfold cl; rw [if_pos (.inr h)]
theorem cl_in {n : Int} (h : 0 ≤ n) (h' : n ≤ 9007199254740991) : cl n = n.toNat := by unfold cl; rw [if_neg (by omega)]
theorem cl_le (n : Int) : cl n ≤ top := by unfold cl top; split <;> omega
theorem int_eq {a b : Int} (h : a = b) : Value.int .i64 a = .int .i64 b := by rw [h]

set_option maxHeartbeats 2000000 in
set_option maxRecDepth 100000 in
theorem clone_any (l : List Nat) (v : Value) (w : World) (hv : Byt w v l) (hn : NilOk v) (hl : l.length ≤ 900000000000) :
    Calls Try.prog 29 #[v] w fun e w' => ∃ v', e = .returned v' ∧ w'.ownsRow w.heap.size 5 1 v' l.length (l.map byteV) ∧ Below w.heap.size w w' := by
  obtain ⟨A, ca, rfl⟩ := byt_form hv
  have HV := hid hv
  have HN := hid hn
  rcases A with _ | ad
  · have hl0 : l = [] := by
      obtain ⟨_, A, cap, e, h1, h2, b, off, hA, _⟩ := hv
      rcases Nat.eq_zero_or_pos l.length with h0 | h0
      · exact List.eq_nil_of_length_eq_zero h0
      · have := (hA h0).1
        injection e with e1
        rw [← e1] at this
        cases this
    subst hl0
    have hc := hn _ _ rfl
    subst hc
    clear hv hn
    have hq := fun (w : World) (a : Option Addr) (n c : Nat) => Lib.run_eql_slice_nil (P := Try.prog) w 22 5 a n c 0 0 Try.underlying22
    go_enter Try.func29, Try.ntmps29
    go_wp2
    go_ret
    exact ⟨_, rfl, World.ownsRow_nil _ _ _ _, Below.refl _ _⟩
  · clear hv hn
    have hq := fun (w : World) (a : Option Addr) (n c : Nat) => Lib.run_eql_slice_nil (P := Try.prog) w 22 5 a n c 0 0 Try.underlying22
    go_enter Try.func29, Try.ntmps29
    go_wp2_with (at_builtin; refine append_byt rfl (.tmp 5) (.tmp 6) rfl w.heap.size _ 0 [] rfl (own_empty w) l _ rfl (HV.out.below (al1 _ _)) HN.out (by omega) (by simp) ?_; intro v1 w1 hown1 hg1; have HB1 := hid (below_own (al1 w _) (own_empty w) hg1 (by simp) (Nat.le_refl _)); have HO1 := hid hown1; clear hown1 hg1)
    obtain ⟨av, cv, rfl⟩ := own_form HO1.out
    go_wp2
    go_ret
    exact ⟨_, rfl, by have h := HO1.out; simpa using h, HB1.out⟩

/- PUT -/
/-- What a call that makes bytes of its own answers. -/
def MadeO (w : World) (l : List Nat) (e : Ending) (w' : World) : Prop := ∃ v, e = .returned v ∧ w'.ownsRow w.heap.size 5 1 v l.length (l.map byteV) ∧ Below w.heap.size w w'
theorem MadeO.made {w w' : World} {l : List Nat} {e : Ending} (h : MadeO w l e w') (h8 : B8 l) : MadeY w l e w' := by
  obtain ⟨v, rfl, ho, hb⟩ := h
  exact ⟨v, rfl, byt_of_own ho h8, own_nilOk ho, hb⟩
theorem byt_one_at (w : World) (b : Nat) (z : Int) (h : z = (b : Int)) (hz : b < 256) : Byt (w.alloc (.cells #[.int .u8 z] 5)) (.slice (some ⟨w.heap.size, 0, none⟩) 1 1) [b] := by
  subst h
  exact byt_one w b hz

set_option maxHeartbeats 2000000 in
set_option maxRecDepth 100000 in
theorem rput_own (n : Int) (l : List Nat) (v : Value) (w : World) (hv : Byt w v l) (hn : NilOk v) (hl : l.length ≤ 900000000000) :
    Calls Try.prog 28 #[v, .int .i64 n] w (MadeO w (l ++ enc (cl n))) := by
  have h8 := hv.1
  have H8 : Hid (B8 (l ++ enc (cl n))) := hid (h8.append (enc_b8 _))
  have HM8 : Hid ((enc (cl n)).length ≤ 8) := hid (enc_le8 (cl_le n))
  have hmt := cl_le n
  unfold top at hmt
  obtain ⟨A, ca, rfl⟩ := byt_form hv
  have HV := hid hv
  have HN := hid hn
  clear hv hn h8
  rcases Classical.em (n < 0) with h1 | h1
  · have hm0 : cl n = 0 := cl_neg h1
    have d1 : decide (n < 0) = true := decide_eq_true h1
    obtain ⟨m, hm⟩ : ∃ m, cl n = m := ⟨_, rfl⟩
    rw [hm] at hm0 H8 HM8 hmt ⊢
    clear hm
    go_enter Try.func28, Try.ntmps28
    go_wp2_with (at_builtin; refine append_byt rfl (.tmp 6) (.tmp 7) rfl w.heap.size _ 0 [] rfl (World.ownsRow_nil _ _ _ _) l _ rfl HV.out HN.out (by omega) (Nat.le_refl _) ?_; intro v1 w1 hown1 hg1; have HB1 := hid (below_own (Below.refl _ w) (World.ownsRow_nil _ _ _ _) hg1 (Nat.le_refl _) (Nat.le_refl _)); have HO1 : Hid (w1.ownsRow w.heap.size 5 1 v1 l.length (l.map byteV)) := hid (by simpa using hown1); clear hown1 hg1)
    obtain ⟨av0, cv0, rfl⟩ := own_form HO1.out
    go_wp2
    go_loopw [1, 5] (fun i v wr => ∃ (k : Nat) (pre : List Nat), i = .int .i64 (k : Int) ∧ k ≤ 9007199254740991 ∧ Hid (pre ++ enc k = enc m) ∧ Hid (wr.ownsRow w.heap.size 5 1 v (l.length + pre.length) ((l ++ pre).map byteV)) ∧ Hid (Below w.heap.size w wr)) (fun i _ _ => (intOf i).toNat)
    case atStart => exact ⟨0, [], rfl, by omega, hid (by rw [hm0]; rfl), hid (by simpa using HO1.out), HB1⟩
    case round =>
      clear HB1 HO1
      obtain ⟨k, pre, rfl, hk, HE, HO, HB⟩ := hrel
      obtain ⟨av, cv, rfl⟩ := own_form HO.out
      have hpl : pre.length ≤ 8 := by
        have h := congrArg List.length HE.out
        rw [List.length_append] at h
        have := HM8.out
        omega
      have hBs := HB.out.size
      by_cases hg : 127 < k
      · have hz : k % 128 + 128 < 256 := by omega
        have HE2 : Hid ((pre ++ [k % 128 + 128]) ++ enc (k / 128) = enc m) := hid (by rw [List.append_assoc, List.singleton_append, ← enc_big (by omega)]; exact HE.out)
        go_wp2_with (at_builtin; refine append_byt rfl (.tmp 17) (.tmp 22) rfl w.heap.size (.slice av (l.length + pre.length) cv) (l.length + pre.length) _ rfl (HO.out.alloc _) [k % 128 + 128] _ rfl (byt_one_at wr _ _ (by omega) (by omega)) (nilOk_some _ _ _) (by simp; omega) (by simp; omega) ?_; intro v2 w2 hown2 hg2; have HB2 := hid (below_own (HB.out.alloc hBs _) (HO.out.alloc _) hg2 (by simp; omega) (Nat.le_refl _)); have HO2 := hid hown2; clear hown2 hg2)
        go_roundw
        case rel => exact ⟨k / 128, pre ++ [k % 128 + 128], by go_num, by omega, HE2, hid (by
          have h := HO2.out
          rw [own_snoc, List.append_assoc] at h
          rw [List.length_append, ← Nat.add_assoc]
          exact h), HB2⟩
        case measure => simp [intOf]; omega
      · have HE2 : Hid (pre ++ [k] = enc m) := hid (by rw [← enc_small (by omega)]; exact HE.out)
        go_wp2_with (at_builtin; refine append_byt rfl (.tmp 26) (.tmp 29) rfl w.heap.size (.slice av (l.length + pre.length) cv) (l.length + pre.length) _ rfl (HO.out.alloc _) [k] _ rfl (byt_one_at wr _ _ (by omega) (by omega)) (nilOk_some _ _ _) (by simp; omega) (by simp; omega) ?_; intro v2 w2 hown2 hg2; have HB2 := hid (below_own (HB.out.alloc hBs _) (HO.out.alloc _) hg2 (by simp; omega) (Nat.le_refl _)); have HO2 := hid hown2; clear hown2 hg2)
        obtain ⟨av2, cv2, rfl⟩ := own_form HO2.out
        go_wp2
        go_ret
        refine ⟨_, rfl, ?_, HB2.out⟩
        have h := HO2.out
        rw [own_snoc, List.append_assoc, HE2.out] at h
        have e : (l ++ enc m).length = l.length + pre.length + [k].length := by rw [← HE2.out, List.length_append, List.length_append, Nat.add_assoc]
        rw [e]
        exact h
  · have d1 : decide (n < 0) = false := decide_eq_false h1
    rcases Classical.em (9007199254740991 < n) with h2 | h2
    · have hm0 : cl n = 0 := cl_big h2
      have d2 : decide (9007199254740991 < n) = true := decide_eq_true h2
      obtain ⟨m, hm⟩ : ∃ m, cl n = m := ⟨_, rfl⟩
      rw [hm] at hm0 H8 HM8 hmt ⊢
      clear hm
      go_enter Try.func28, Try.ntmps28
      go_wp2_with (at_builtin; refine append_byt rfl (.tmp 6) (.tmp 7) rfl w.heap.size _ 0 [] rfl (World.ownsRow_nil _ _ _ _) l _ rfl HV.out HN.out (by omega) (Nat.le_refl _) ?_; intro v1 w1 hown1 hg1; have HB1 := hid (below_own (Below.refl _ w) (World.ownsRow_nil _ _ _ _) hg1 (Nat.le_refl _) (Nat.le_refl _)); have HO1 : Hid (w1.ownsRow w.heap.size 5 1 v1 l.length (l.map byteV)) := hid (by simpa using hown1); clear hown1 hg1)
      obtain ⟨av0, cv0, rfl⟩ := own_form HO1.out
      go_wp2
      go_loopw [1, 5] (fun i v wr => ∃ (k : Nat) (pre : List Nat), i = .int .i64 (k : Int) ∧ k ≤ 9007199254740991 ∧ Hid (pre ++ enc k = enc m) ∧ Hid (wr.ownsRow w.heap.size 5 1 v (l.length + pre.length) ((l ++ pre).map byteV)) ∧ Hid (Below w.heap.size w wr)) (fun i _ _ => (intOf i).toNat)
      case atStart => exact ⟨0, [], rfl, by omega, hid (by rw [hm0]; rfl), hid (by simpa using HO1.out), HB1⟩
      case round =>
        clear HB1 HO1
        obtain ⟨k, pre, rfl, hk, HE, HO, HB⟩ := hrel
        obtain ⟨av, cv, rfl⟩ := own_form HO.out
        have hpl : pre.length ≤ 8 := by
          have h := congrArg List.length HE.out
          rw [List.length_append] at h
          have := HM8.out
          omega
        have hBs := HB.out.size
        by_cases hg : 127 < k
        · have hz : k % 128 + 128 < 256 := by omega
          have HE2 : Hid ((pre ++ [k % 128 + 128]) ++ enc (k / 128) = enc m) := hid (by rw [List.append_assoc, List.singleton_append, ← enc_big (by omega)]; exact HE.out)
          go_wp2_with (at_builtin; refine append_byt rfl (.tmp 17) (.tmp 22) rfl w.heap.size (.slice av (l.length + pre.length) cv) (l.length + pre.length) _ rfl (HO.out.alloc _) [k % 128 + 128] _ rfl (byt_one_at wr _ _ (by omega) (by omega)) (nilOk_some _ _ _) (by simp; omega) (by simp; omega) ?_; intro v2 w2 hown2 hg2; have HB2 := hid (below_own (HB.out.alloc hBs _) (HO.out.alloc _) hg2 (by simp; omega) (Nat.le_refl _)); have HO2 := hid hown2; clear hown2 hg2)
          go_roundw
          case rel => exact ⟨k / 128, pre ++ [k % 128 + 128], by go_num, by omega, HE2, hid (by
            have h := HO2.out
            rw [own_snoc, List.append_assoc] at h
            rw [List.length_append, ← Nat.add_assoc]
            exact h), HB2⟩
          case measure => simp [intOf]; omega
        · have HE2 : Hid (pre ++ [k] = enc m) := hid (by rw [← enc_small (by omega)]; exact HE.out)
          go_wp2_with (at_builtin; refine append_byt rfl (.tmp 26) (.tmp 29) rfl w.heap.size (.slice av (l.length + pre.length) cv) (l.length + pre.length) _ rfl (HO.out.alloc _) [k] _ rfl (byt_one_at wr _ _ (by omega) (by omega)) (nilOk_some _ _ _) (by simp; omega) (by simp; omega) ?_; intro v2 w2 hown2 hg2; have HB2 := hid (below_own (HB.out.alloc hBs _) (HO.out.alloc _) hg2 (by simp; omega) (Nat.le_refl _)); have HO2 := hid hown2; clear hown2 hg2)
          obtain ⟨av2, cv2, rfl⟩ := own_form HO2.out
          go_wp2
          go_ret
          refine ⟨_, rfl, ?_, HB2.out⟩
          have h := HO2.out
          rw [own_snoc, List.append_assoc, HE2.out] at h
          have e : (l ++ enc m).length = l.length + pre.length + [k].length := by rw [← HE2.out, List.length_append, List.length_append, Nat.add_assoc]
          rw [e]
          exact h
    · obtain ⟨m, rfl⟩ : ∃ m : Nat, n = (m : Int) := ⟨n.toNat, by omega⟩
      have d2 : decide (9007199254740991 < (m : Int)) = false := decide_eq_false h2
      rw [show cl (m : Int) = m by rw [cl_in (by omega) (by omega)]; rfl] at H8 HM8 hmt ⊢
      go_enter Try.func28, Try.ntmps28
      go_wp2_with (at_builtin; refine append_byt rfl (.tmp 6) (.tmp 7) rfl w.heap.size _ 0 [] rfl (World.ownsRow_nil _ _ _ _) l _ rfl HV.out HN.out (by omega) (Nat.le_refl _) ?_; intro v1 w1 hown1 hg1; have HB1 := hid (below_own (Below.refl _ w) (World.ownsRow_nil _ _ _ _) hg1 (Nat.le_refl _) (Nat.le_refl _)); have HO1 : Hid (w1.ownsRow w.heap.size 5 1 v1 l.length (l.map byteV)) := hid (by simpa using hown1); clear hown1 hg1)
      obtain ⟨av0, cv0, rfl⟩ := own_form HO1.out
      go_wp2
      go_loopw [1, 5] (fun i v wr => ∃ (k : Nat) (pre : List Nat), i = .int .i64 (k : Int) ∧ k ≤ 9007199254740991 ∧ Hid (pre ++ enc k = enc m) ∧ Hid (wr.ownsRow w.heap.size 5 1 v (l.length + pre.length) ((l ++ pre).map byteV)) ∧ Hid (Below w.heap.size w wr)) (fun i _ _ => (intOf i).toNat)
      case atStart => exact ⟨m, [], int_eq (by omega), by omega, hid rfl, hid (by simpa using HO1.out), HB1⟩
      case round =>
        clear HB1 HO1
        obtain ⟨k, pre, rfl, hk, HE, HO, HB⟩ := hrel
        obtain ⟨av, cv, rfl⟩ := own_form HO.out
        have hpl : pre.length ≤ 8 := by
          have h := congrArg List.length HE.out
          rw [List.length_append] at h
          have := HM8.out
          omega
        have hBs := HB.out.size
        by_cases hg : 127 < k
        · have hz : k % 128 + 128 < 256 := by omega
          have HE2 : Hid ((pre ++ [k % 128 + 128]) ++ enc (k / 128) = enc m) := hid (by rw [List.append_assoc, List.singleton_append, ← enc_big (by omega)]; exact HE.out)
          go_wp2_with (at_builtin; refine append_byt rfl (.tmp 17) (.tmp 22) rfl w.heap.size (.slice av (l.length + pre.length) cv) (l.length + pre.length) _ rfl (HO.out.alloc _) [k % 128 + 128] _ rfl (byt_one_at wr _ _ (by omega) (by omega)) (nilOk_some _ _ _) (by simp; omega) (by simp; omega) ?_; intro v2 w2 hown2 hg2; have HB2 := hid (below_own (HB.out.alloc hBs _) (HO.out.alloc _) hg2 (by simp; omega) (Nat.le_refl _)); have HO2 := hid hown2; clear hown2 hg2)
          go_roundw
          case rel => exact ⟨k / 128, pre ++ [k % 128 + 128], by go_num, by omega, HE2, hid (by
            have h := HO2.out
            rw [own_snoc, List.append_assoc] at h
            rw [List.length_append, ← Nat.add_assoc]
            exact h), HB2⟩
          case measure => simp [intOf]; omega
        · have HE2 : Hid (pre ++ [k] = enc m) := hid (by rw [← enc_small (by omega)]; exact HE.out)
          go_wp2_with (at_builtin; refine append_byt rfl (.tmp 26) (.tmp 29) rfl w.heap.size (.slice av (l.length + pre.length) cv) (l.length + pre.length) _ rfl (HO.out.alloc _) [k] _ rfl (byt_one_at wr _ _ (by omega) (by omega)) (nilOk_some _ _ _) (by simp; omega) (by simp; omega) ?_; intro v2 w2 hown2 hg2; have HB2 := hid (below_own (HB.out.alloc hBs _) (HO.out.alloc _) hg2 (by simp; omega) (Nat.le_refl _)); have HO2 := hid hown2; clear hown2 hg2)
          obtain ⟨av2, cv2, rfl⟩ := own_form HO2.out
          go_wp2
          go_ret
          refine ⟨_, rfl, ?_, HB2.out⟩
          have h := HO2.out
          rw [own_snoc, List.append_assoc, HE2.out] at h
          have e : (l ++ enc m).length = l.length + pre.length + [k].length := by rw [← HE2.out, List.length_append, List.length_append, Nat.add_assoc]
          rw [e]
          exact h

theorem rput_any (n : Int) (l : List Nat) (v : Value) (w : World) (hv : Byt w v l) (hn : NilOk v) (hl : l.length ≤ 900000000000) :
    Calls Try.prog 28 #[v, .int .i64 n] w (MadeY w (l ++ enc (cl n))) :=
  (rput_own n l v w hv hn hl).mono fun _ _ h => h.made (hv.1.append (enc_b8 _))
end Go.Proofs.Ytldlddoealpomaa
