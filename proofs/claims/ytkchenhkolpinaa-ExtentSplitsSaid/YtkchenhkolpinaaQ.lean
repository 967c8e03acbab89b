/- The reference's Complement, Contains, Count and Normalize. -/
import Derived.Test.YtkchenhkolpinaaY
namespace Go.Proofs.Ytkchenhkolpinaa
open Go.RowKit

theorem compl_end (a : List (Int × Int)) (size : Int) (n : Nat) (hn : (n : Int) = max 0 (min size 4096)) (x : Int) : (decide (0 ≤ x ∧ x < (n : Int)) && !mem a x) = (inE (0, size) x && !mem a x) := by
  congr 1
  rw [Bool.eq_iff_iff, inE_iff]
  simp only [decide_eq_true_eq]
  omega

set_option maxHeartbeats 4000000 in
set_option maxRecDepth 100000 in
theorem refComplement_any (a : List (Int × Int)) (va : Value) (size : Int) (w : World) (ha : Ext w va a) (la : a.length ≤ 10000) (hs : R64 size) :
    Calls Try.prog 28 #[va, .int .i64 size] w (Made w fun x => inE (0, size) x && !mem a x) := by
  have HA := hid (marks_any a va w ha la)
  obtain ⟨A, ca, hva⟩ : ∃ A ca, va = .slice A a.length ca := by obtain ⟨_, A, ca, h, _⟩ := ha; exact ⟨A, ca, h⟩
  subst hva
  clear ha
  obtain ⟨hs1, hs2⟩ := hs
  obtain ⟨n, hn⟩ : ∃ n : Nat, max 0 (min size 4096) = (n : Int) := ⟨(max 0 (min size 4096)).toNat, by omega⟩
  have hn1 : n ≤ 4096 := by omega
  go_enter Try.func28, Try.ntmps28
  go_wp2_with (first | (go_at_call 37; refine HA.out.mono ?_; rintro e w1 ⟨g1, rfl, hm1, hg1, hb1⟩; have HM1 := hid hm1; have HB1 := hid hb1; clear hm1 hb1; clear HA))
  have hg1lt := HM1.out.lt
  go_loopw [6] (fun i wr => ∃ k : Nat, k ≤ n ∧ i = .int .i64 k ∧ Hid (Mk wr g1 (upd (fun p _ => !p) (fun x => mem a x) (fun x => mem a x) k)) ∧ Below w.heap.size w wr) (fun i _ => n - (intOf i).toNat)
  case atStart => exact ⟨0, by omega, rfl, hid (HM1.out.congr (fun i _ => (upd_zero _ _ _ i).symm)), HB1.out⟩
  case round =>
    obtain ⟨k, hk, rfl, hx, hB⟩ := hrel
    clear HM1 HB1
    by_cases hlt : k < n
    · have hlt4 : k < 4096 := by omega
      have x1 := hx.out.cell hlt4
      have x3 := hx.out.frozen k
      rw [upd_at] at x1
      try dsimp only at x1
      obtain ⟨p, hp⟩ : ∃ p, mem a k = p := ⟨_, rfl⟩
      rw [hp] at x1
      have HPQ : Hid (∀ v, (!p) = v → (!(mem a k)) = v) := hid (fun v h => by rw [hp]; exact h)
      clear hp
      have hset := fun (v : Bool) => hid (hx.out.set hlt4 v)
      have HSET := hid hset
      clear hset
      cases p with
      | true =>
        go_wp2
        go_roundw
        case rel => exact ⟨k + 1, by omega, by go_num, hid ((HSET.out _).out.congr (fun i _ => upd_succ _ _ _ _ _ _ (HPQ.out _ rfl))), below_set _ hB hg1⟩
        case measure => simp [intOf]; omega
      | false =>
        go_wp2
        go_roundw
        case rel => exact ⟨k + 1, by omega, by go_num, hid ((HSET.out _).out.congr (fun i _ => upd_succ _ _ _ _ _ _ (HPQ.out _ rfl))), below_set _ hB hg1⟩
        case measure => simp [intOf]; omega
    · obtain rfl : k = n := by omega
      have HL := hid (list_any g1 k 4096 _ wr hx.out hn1 hn1 (Nat.le_refl _))
      go_wp2_with (go_at_call 36; refine HL.out.mono ?_; rintro e w3 ⟨v, l, rfl, h1, h2, h3, h4⟩)
      refine bodyPost_ret (results_tmp rfl _ _ _) rfl ?_
      exact ⟨v, l, rfl, h1, fun x => (h2 x).trans ((upd_end _ _ _ _ x).trans (compl_end a size k hn.symm x)), h3, below_both hB h4⟩

set_option maxHeartbeats 4000000 in
set_option maxRecDepth 100000 in
theorem refContains_any (l : List (Int × Int)) (v : Value) (x : Int) (w : World) (hv : Ext w v l) (hl : l.length ≤ 10000) :
    Calls Try.prog 30 #[v, .int .i64 x] w fun e w' => e = .returned (.bool (mem l x)) ∧ Below w.heap.size w w' := by
  have HA := hid (marks_any l v w hv hl)
  obtain ⟨A, ca, hva⟩ : ∃ A ca, v = .slice A l.length ca := by obtain ⟨_, A, ca, h, _⟩ := hv; exact ⟨A, ca, h⟩
  subst hva
  clear hv
  by_cases h : 0 ≤ x ∧ x < 4096
  · obtain ⟨h1, h2⟩ := h
    obtain ⟨k, rfl⟩ := Int.eq_ofNat_of_zero_le h1
    have hk : k < 4096 := by omega
    go_enter Try.func30, Try.ntmps30
    go_wp2_with (go_at_call 37; refine HA.out.mono ?_; rintro e w1 ⟨g1, rfl, hm1, hg1, hb1⟩; have x1 := hm1.cell hk; have HB1 := hid hb1; clear hm1 hb1; clear HA)
    refine bodyPost_ret (results_tmp rfl _ _ _) rfl ?_
    exact ⟨rfl, HB1.out⟩
  · have hm : mem l x = false := by
      cases e : mem l x with
      | false => rfl
      | true => exact absurd (mem_range e) h
    rw [hm]
    clear HA
    by_cases h0 : 0 ≤ x
    · have h1 : ¬ x < 4096 := by omega
      go_enter Try.func30, Try.ntmps30
      go_wp2
      refine bodyPost_ret (results_tmp rfl _ _ _) rfl ?_
      exact ⟨rfl, Below.refl _ _⟩
    · have h0' : ¬ x ≥ 0 := h0
      go_enter Try.func30, Try.ntmps30
      go_wp2
      refine bodyPost_ret (results_tmp rfl _ _ _) rfl ?_
      exact ⟨rfl, Below.refl _ _⟩

theorem cardTo_yes {p : Int → Bool} {k : Nat} (h : p k = true) : cardTo p (k + 1) = cardTo p k + 1 := by
  show cardTo p k + (if p k = true then 1 else 0) = _
  rw [if_pos h]
theorem cardTo_no {p : Int → Bool} {k : Nat} (h : p k = false) : cardTo p (k + 1) = cardTo p k := by
  show cardTo p k + (if p k = true then 1 else 0) = _
  rw [if_neg (by rw [h]; decide), Int.add_zero]

set_option maxHeartbeats 4000000 in
set_option maxRecDepth 100000 in
theorem refCount_any (l : List (Int × Int)) (v : Value) (w : World) (hv : Ext w v l) (hl : l.length ≤ 10000) :
    Calls Try.prog 26 #[v] w fun e w' => e = .returned (.int .i64 (card (fun x => mem l x))) ∧ Below w.heap.size w w' := by
  have HA := hid (marks_any l v w hv hl)
  obtain ⟨A, ca, hva⟩ : ∃ A ca, v = .slice A l.length ca := by obtain ⟨_, A, ca, h, _⟩ := hv; exact ⟨A, ca, h⟩
  subst hva
  clear hv
  have HC : Hid (card (fun x => mem l x) = cardTo (fun x => mem l x) 4096) := hid (by unfold card; rw [ns_eq])
  go_enter Try.func26, Try.ntmps26
  go_wp2_with (go_at_call 37; refine HA.out.mono ?_; rintro e w1 ⟨g1, rfl, hm1, hg1, hb1⟩; have HM1 := hid hm1; have HB1 := hid hb1; clear hm1 hb1; clear HA)
  go_loopw [4, 5] (fun n i wr => ∃ (k : Nat) (c : Int), k ≤ 4096 ∧ i = .int .i64 k ∧ n = .int .i64 c ∧ Hid (cardTo (fun x => mem l x) k = c) ∧ wr = w1) (fun _ i _ => 4096 - (intOf i).toNat)
  case atStart => exact ⟨0, 0, by omega, rfl, rfl, hid rfl, rfl⟩
  case round =>
    obtain ⟨k, c, hk, rfl, rfl, HK, rfl⟩ := hrel
    by_cases hlt : k < 4096
    · have x1 := HM1.out.cell hlt
      obtain ⟨hc1, hc2⟩ := cardTo_range (fun x => mem l x) k
      rw [HK.out] at hc1 hc2
      cases hp : mem l k with
      | true =>
        rw [hp] at x1
        have HP := hid hp
        clear hp
        go_wp2
        go_roundw
        case rel => exact ⟨k + 1, c + 1, by omega, by go_num, by go_num, hid (by rw [cardTo_yes (p := fun x => mem l x) HP.out, HK.out]), trivial⟩
        case measure => simp [intOf]; omega
      | false =>
        rw [hp] at x1
        have HP := hid hp
        clear hp
        go_wp2
        go_roundw
        case rel => exact ⟨k + 1, c, by omega, by go_num, rfl, hid (by rw [cardTo_no (p := fun x => mem l x) HP.out, HK.out]), trivial⟩
        case measure => simp [intOf]; omega
    · obtain rfl : k = 4096 := by omega
      go_wp2
      refine bodyPost_ret (results_tmp rfl _ _ _) rfl ?_
      exact ⟨ret_int (by rw [HC.out, HK.out]), HB1.out⟩

set_option maxHeartbeats 4000000 in
set_option maxRecDepth 100000 in
theorem refNormalize_any (l : List (Int × Int)) (v : Value) (w : World) (hv : Ext w v l) (hl : l.length ≤ 10000) :
    Calls Try.prog 17 #[v] w (Made2 w (nrm l) fun x => mem l x) := by
  have HU := hid (fun w1 (hb : Below w.heap.size w w1) => marks_any l v w1 (hv.below hb) hl)
  obtain ⟨hr, A, cap, rfl, hcap, hcm, b, off, hA, hc⟩ := hv
  have hfits := fun (s n : Int) (W : World) (hs : R64 s) (hn : R64 n) (hp : 0 < n) => within_any s n 4096 W hs hn hp (by omega) (by omega)
  have HF := hid hfits
  have HR := hid hr
  have HC := hid hc
  clear hfits hr hc
  go_enter Try.func17, Try.ntmps17
  go_wp2
  go_loopw [2, 3, 4] (fun r t i wr => ∃ k : Nat, k ≤ l.length ∧ i = .int .i64 k ∧ r = .slice none 0 0 ∧ t = .int .i64 0 ∧ Hid (fst0 (nrmAt l) k = 0) ∧ Below w.heap.size w wr) (fun _ _ i _ => l.length - (intOf i).toNat)
  case atStart => exact ⟨0, Nat.zero_le _, rfl, rfl, rfl, hid rfl, Below.refl _ _⟩
  case round =>
    obtain ⟨k, hk, rfl, rfl, rfl, H0, hB⟩ := hrel
    have hBs := hB.size
    by_cases hlt : k < l.length
    · obtain ⟨hA1, hb⟩ := hA (by omega)
      subst hA1
      obtain ⟨⟨s, n⟩, he⟩ : ∃ e, l[k]? = some e := ⟨l[k], List.getElem?_eq_getElem hlt⟩
      have hg : l.getD k (0, 0) = (s, n) := by simp [List.getD, he]
      obtain ⟨⟨hs1, hs2⟩, hn1, hn2⟩ := HR.out (s, n) (List.mem_of_getElem? he)
      have hc1 := (hB.cell (p := ⟨b, off + k * 2, none⟩) hb).trans (HC.out k _ he).1
      have hc2 := (hB.cell (p := ⟨b, off + k * 2 + 1, none⟩) hb).trans (HC.out k _ he).2
      have HG := hid hg
      clear hg he
      dsimp only at hc1 hc2 hs1 hs2 hn1 hn2
      by_cases hn : n < 0
      · go_wp2
        go_ret2
        exact made2_err (fst0_end H0.out hlt (nrmAt_1 HG hn) (by omega)).symm (by omega) hB
      · by_cases hn0 : 0 < n
        · by_cases hf : fitsB s n 4096 = false
          · go_wp2_with (go_at_call 35; refine (HF.out _ _ _ ⟨hs1, hs2⟩ ⟨hn1, hn2⟩ hn0).mono ?_; rintro e w1 ⟨rfl, hb1⟩; have hf1 := hf)
            go_ret2
            exact made2_err (fst0_end H0.out hlt (nrmAt_2 HG hn0 hf) (by omega)).symm (by omega) (hB.trans (hb1.mono hBs))
          · have HF' := hid (show fitsB s n 4096 = true by simpa using hf)
            clear hf
            go_wp2_with (go_at_call 35; refine (HF.out _ _ _ ⟨hs1, hs2⟩ ⟨hn1, hn2⟩ hn0).mono ?_; rintro e w1 ⟨rfl, hb1⟩; have hf1 := HF'.out)
            go_roundw
            case rel => exact ⟨k + 1, by omega, by go_num, rfl, rfl, hid (fst0_next H0.out (nrmAt_0 HG (by omega) (fun _ => HF'.out))), hB.trans (hb1.mono hBs)⟩
            case measure => simp [intOf]; omega
        · go_wp2
          go_roundw
          case rel => exact ⟨k + 1, by omega, by go_num, rfl, rfl, hid (fst0_next H0.out (nrmAt_0 HG (by omega) (fun h => absurd h hn0))), hB⟩
          case measure => simp [intOf]; omega
    · obtain rfl : k = l.length := by omega
      have HN : Hid (nrm l = 0) := H0
      go_wp2_with (first | (go_at_call 37; refine (HU.out _ hB).mono ?_; rintro e w1 ⟨g1, rfl, hm1, hg1, hb1⟩; have HL := hid (list_any g1 4096 4096 _ w1 hm1 (Nat.le_refl _) (Nat.le_refl _) (Nat.le_refl _)); have HB1 := hid hb1; clear hm1 hb1) | (go_at_call 36; refine HL.out.mono ?_; rintro e w3 ⟨v, l', rfl, h1, h2, h3, h4⟩))
      go_ret2
      refine ⟨v, l', ?_, ?_, h3, below_both (below_both hB HB1.out) h4⟩
      · rw [HN.out]; rfl
      · rw [HN.out, if_pos rfl]
        exact ⟨h1, fun x => by rw [h2 x]; exact both_range (fun p _ => p) rfl l l x⟩
end Go.Proofs.Ytkchenhkolpinaa
