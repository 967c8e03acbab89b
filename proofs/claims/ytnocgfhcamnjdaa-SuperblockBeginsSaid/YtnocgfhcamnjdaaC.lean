/- Disks as values; inside, Check and the reference's. -/
import Derived.Test.YtnocgfhcamnjdaaB
namespace Go.Proofs.Ytnocgfhcamnjdaa
open Go.RowKit Go.Lib

def R64 (x : Int) : Prop := -9223372036854775808 ≤ x ∧ x ≤ 9223372036854775807
/-- A sector of the cache: its number and its content. -/
abbrev Ca := Int × Sect
def cCa (x : Ca) : List Value := .int .i64 x.1 :: cSec x.2
def Cas (w : World) (v : Value) (l : List Ca) : Prop := (∀ x ∈ l, x.2.length = 8 ∧ B8 x.2 ∧ R64 x.1) ∧ NilOk v ∧ Arr w v 9 (l.map cCa)
theorem Cas.below {w w' : World} {v : Value} {l : List Ca} (h : Cas w v l) (hb : Below w.heap.size w w') : Cas w' v l := ⟨h.1, h.2.1, h.2.2.below hb⟩
theorem cas_form {w : World} {v : Value} {l : List Ca} (h : Cas w v l) : ∃ A c, v = .slice A l.length c := by
  obtain ⟨A, c, e⟩ := arr_form h.2.2
  rw [List.length_map] at e
  exact ⟨A, c, e⟩
theorem cCa_len {x : Ca} (h : x.2.length = 8) : (cCa x).length = 9 := by unfold cCa cSec; rw [List.length_cons, List.length_map, h]
theorem cas_cells {w : World} {A : Option Addr} {n c : Nat} {l : List Ca} (h : Cas w (.slice A n c) l) (hp : 0 < l.length) : ∃ b off, A = some ⟨b, off, none⟩ ∧ b < w.heap.size ∧ ∀ (i : Nat) (x : Ca), l[i]? = some x → ∀ (j : Nat) (u : Value), (cCa x)[j]? = some u → w.cell? ⟨b, off + i * 9 + j, none⟩ = some u := by
  obtain ⟨b, off, h1, h2, h3⟩ := arr_at1 h.2.2 (by rw [List.length_map]; exact hp)
  exact ⟨b, off, h1, h2, fun i x hx j u hu => h3 i (cCa x) (by rw [List.getElem?_map, hx]; rfl) j u hu⟩
/-- Do m sectors from s on exist among n? -/
def insB (n : Nat) (s m : Int) : Bool := decide (0 ≤ s ∧ 0 ≤ m ∧ m ≤ n - s)
set_option maxHeartbeats 2000000 in
set_option maxRecDepth 100000 in
theorem inside_any (A : Option Addr) (n c : Nat) (cv : Value) (s m : Int) (w : World) (hn : n ≤ 4000000000) (hs : R64 s) : Calls Try.prog 56 #[.agg #[.slice A n c, cv], .int .i64 s, .int .i64 m] w fun e w' => e = .returned (.bool (insB n s m)) ∧ Below w.heap.size w w' := by
  obtain ⟨r, hr⟩ : ∃ r, insB n s m = r := ⟨_, rfl⟩
  rw [hr]
  unfold insB at hr
  obtain ⟨hs1, hs2⟩ := hs
  obtain ⟨g, hg⟩ : ∃ g, w.heap.size = g := ⟨_, rfl⟩
  obtain ⟨W1, hW1⟩ : ∃ X, w.alloc (.cells #[.slice A n c, cv] 35) = X := ⟨_, rfl⟩
  have hx1 : W1.heap[g]? = some (.cells #[.slice A n c, cv] 35) := by rw [← hW1, ← hg]; exact heap_alloc_new w _
  have HB1 : Hid (Below w.heap.size w W1) := hid (by rw [← hW1]; exact al1 _ _)
  have x0 := cell_of_row _ _ 0 _ _ _ hx1
  have HW1 := hid hW1
  have HG := hid hg
  clear hx1 hW1 hg
  by_cases h0 : 0 ≤ s
  rotate_left
  · have d0 : decide (0 ≤ s) = false := decide_eq_false h0
    obtain rfl : false = r := by rw [← hr]; exact (decide_eq_false (by omega)).symm
    clear hr
    go_enter Try.func56, Try.ntmps56
    go_upto_region 1 with fail
    rw [HW1.out, HG.out]
    go_wp2_with fail
    go_ret
    exact ⟨rfl, HB1.out⟩
  have d0 : decide (0 ≤ s) = true := decide_eq_true h0
  by_cases h1 : 0 ≤ m
  rotate_left
  · have d1 : decide (0 ≤ m) = false := decide_eq_false h1
    obtain rfl : false = r := by rw [← hr]; exact (decide_eq_false (by omega)).symm
    clear hr
    go_enter Try.func56, Try.ntmps56
    go_upto_region 1 with fail
    rw [HW1.out, HG.out]
    go_wp2_with fail
    go_ret
    exact ⟨rfl, HB1.out⟩
  have d1 : decide (0 ≤ m) = true := decide_eq_true h1
  have e1 : IntKind.i64.wrap ((n : Int) - s) = (n : Int) - s := by rw [IntKind.wrap_i64]; omega
  obtain ⟨q, hq⟩ : ∃ q, (n : Int) - s = q := ⟨_, rfl⟩
  by_cases h2 : m ≤ q
  · have d2 : decide (m ≤ q) = true := decide_eq_true h2
    obtain rfl : true = r := by rw [← hr]; exact (decide_eq_true ⟨h0, h1, by omega⟩).symm
    clear hr
    go_enter Try.func56, Try.ntmps56
    go_upto_region 1 with fail
    rw [HW1.out, HG.out]
    go_wp2_with fail
    go_ret
    exact ⟨rfl, HB1.out⟩
  · have d2 : decide (m ≤ q) = false := decide_eq_false h2
    obtain rfl : false = r := by rw [← hr]; exact (decide_eq_false (by omega)).symm
    clear hr
    go_enter Try.func56, Try.ntmps56
    go_upto_region 1 with fail
    rw [HW1.out, HG.out]
    go_wp2_with fail
    go_ret
    exact ⟨rfl, HB1.out⟩
/-- The error of a disk with n sectors. -/
def chkC (n : Nat) : List Ca → Int
  | [] => 0
  | x :: r => if insB n x.1 1 = false then 2 else chkC n r
def chkD (n : Nat) (ca : List Ca) : Int := if 4096 < n then 2 else chkC n ca
theorem chkC_two {n : Nat} {l : List Ca} : chkC n l = 0 ∨ chkC n l = 2 := by
  induction l with
  | nil => exact .inl rfl
  | cons x r ih =>
    unfold chkC
    split
    · exact .inr rfl
    · exact ih
theorem drop_cons {α : Type} {l : List α} {k : Nat} {x : α} (h : l[k]? = some x) : l.drop k = x :: l.drop (k + 1) := by
  obtain ⟨hlt, he⟩ := List.getElem?_eq_some_iff.1 h
  rw [← he]
  exact List.drop_eq_getElem_cons hlt
set_option maxHeartbeats 4000000 in
set_option maxRecDepth 100000 in
theorem check_any (st : List Sect) (ca : List Ca) (sv cv : Value) (w : World) (hs : Sec w sv st) (hc : Cas w cv ca) :
    Calls Try.prog 40 #[.agg #[sv, cv]] w fun e w' => e = .returned (.int .i64 (chkD st.length ca)) ∧ Below w.heap.size w w' := by
  obtain ⟨A, c, rfl⟩ := sec_form hs
  obtain ⟨B, d, rfl⟩ := cas_form hc
  obtain ⟨n, hn⟩ : ∃ n, st.length = n := ⟨_, rfl⟩
  obtain ⟨N, hN⟩ : ∃ n, ca.length = n := ⟨_, rfl⟩
  rw [hn]
  rw [hN] at hc ⊢
  obtain ⟨r, hr⟩ : ∃ r, chkD n ca = r := ⟨_, rfl⟩
  rw [hr]
  unfold chkD at hr
  obtain ⟨g, hg⟩ : ∃ g, w.heap.size = g := ⟨_, rfl⟩
  obtain ⟨W1, hW1⟩ : ∃ X, w.alloc (.cells #[.slice A n c, .slice B N d] 35) = X := ⟨_, rfl⟩
  have hx1 : W1.heap[g]? = some (.cells #[.slice A n c, .slice B N d] 35) := by rw [← hW1, ← hg]; exact heap_alloc_new w _
  have hb1 : Below w.heap.size w W1 := by rw [← hW1]; exact al1 _ _
  have HB1 := hid hb1
  have HC := hid (hc.below hb1)
  have HX1 := hid hx1
  have HN := hid hN
  have HW1 := hid hW1
  have HG := hid hg
  have x0 := cell_of_row _ _ 0 _ _ _ hx1
  have x1 := cell_of_row _ _ 1 _ _ _ hx1
  clear hs hc hn hN hx1 hb1 hW1 hg
  by_cases h1 : 4096 < n
  · have d1 : decide ((4096 : Int) < (n : Int)) = true := decide_eq_true (by omega)
    obtain rfl : 2 = r := by rw [← hr, if_pos h1]
    clear hr
    go_enter Try.func40, Try.ntmps40
    go_upto_region 1 with fail
    rw [HW1.out, HG.out]
    go_wp2_with fail
    go_ret
    exact ⟨rfl, HB1.out⟩
  have d1 : decide ((4096 : Int) < (n : Int)) = false := decide_eq_false (by omega)
  rw [if_neg h1] at hr
  have HR := hid hr
  clear hr
  go_enter Try.func40, Try.ntmps40
  go_upto_region 4 with fail
  rw [HW1.out, HG.out]
  clear x0 x1
  go_loopw [12] (fun iv wr => ∃ k : Nat, k ≤ N ∧ iv = .int .i64 (k : Int) ∧ Hid (chkC n ca = chkC n (ca.drop k)) ∧ Hid (Below W1.heap.size W1 wr)) (fun i _ => N - (Go.RowKit.intOf i).toNat)
  case atStart => exact ⟨0, Nat.zero_le _, rfl, hid rfl, hid (Below.refl _ _)⟩
  case round =>
    obtain ⟨k, hk, rfl, HK, HB⟩ := hrel
    have hx := (HB.out.block g (box_lt HX1.out)).trans HX1.out
    have HBW := hid (HB1.out.trans (HB.out.mono HB1.out.size))
    by_cases hkn : k < N
    · have hkn' : (k : Int) < (N : Int) := by omega
      obtain ⟨b, off, rfl, hb, hcc⟩ := cas_cells HC.out (by rw [HN.out]; omega)
      obtain ⟨x, hxk⟩ : ∃ x, ca[k]? = some x := ⟨ca[k]'(by rw [HN.out]; exact hkn), List.getElem?_eq_getElem _⟩
      have h8 := HC.out.1 x (List.mem_of_getElem? hxk)
      have hcell := fun j u hu => (HB.out.cell (p := ⟨b, off + k * 9 + j, none⟩) hb).trans (hcc k x hxk j u hu)
      have HDR := hid (drop_cons hxk)
      obtain ⟨at_, s⟩ := x
      dsimp only at h8
      obtain ⟨s0, s1, s2, s3, s4, s5, s6, s7, rfl⟩ := list8 h8.1
      have c0 := hcell 0 (.int .i64 at_) rfl
      have c1 := hcell 1 (.int .u8 (s0 : Int)) rfl
      have c2 := hcell 2 (.int .u8 (s1 : Int)) rfl
      have c3 := hcell 3 (.int .u8 (s2 : Int)) rfl
      have c4 := hcell 4 (.int .u8 (s3 : Int)) rfl
      have c5 := hcell 5 (.int .u8 (s4 : Int)) rfl
      have c6 := hcell 6 (.int .u8 (s5 : Int)) rfl
      have c7 := hcell 7 (.int .u8 (s6 : Int)) rfl
      have c8 := hcell 8 (.int .u8 (s7 : Int)) rfl
      obtain ⟨W5, hW5⟩ : ∃ X, wr.alloc (.cells #[.int .i64 at_, .int .u8 (s0 : Int), .int .u8 (s1 : Int), .int .u8 (s2 : Int), .int .u8 (s3 : Int), .int .u8 (s4 : Int), .int .u8 (s5 : Int), .int .u8 (s6 : Int), .int .u8 (s7 : Int)] 112) = X := ⟨_, rfl⟩
      obtain ⟨h, hh⟩ : ∃ h, wr.heap.size = h := ⟨_, rfl⟩
      have hb5 : Below wr.heap.size wr W5 := by rw [← hW5]; exact al1 _ _
      have HY5 : Hid (W5.heap[h]? = some (.cells #[.int .i64 at_, .int .u8 (s0 : Int), .int .u8 (s1 : Int), .int .u8 (s2 : Int), .int .u8 (s3 : Int), .int .u8 (s4 : Int), .int .u8 (s5 : Int), .int .u8 (s6 : Int), .int .u8 (s7 : Int)] 112)) := hid (by rw [← hW5, ← hh]; exact heap_alloc_new _ _)
      have HX5 := hid ((hb5.block _ (box_lt hx)).trans hx)
      have HB5 := hid (HB.out.trans (hb5.mono HB.out.size))
      have HIN := hid (inside_any A n c (.slice (some ⟨b, off, none⟩) N d) at_ 1 W5 (by omega) h8.2.2)
      have HW5 := hid hW5
      have HH := hid hh
      clear hcc hxk h8 hcell hW5 hh hb5 hx
      rw [Nat.add_zero] at c0
      go_upto_region 6 with fail
      rw [HW5.out, HH.out]
      clear c0 c1 c2 c3 c4 c5 c6 c7 c8
      have x0 := cell_of_row _ _ 0 _ _ _ HX5.out
      have x1 := cell_of_row _ _ 1 _ _ _ HX5.out
      have y0 := cell_of_row _ _ 0 _ _ _ HY5.out
      go_wp2_with fail
      refine HIN.out.mono ?_
      rintro e w6 ⟨rfl, hb6⟩
      have HB6 := hid (HB5.out.trans (hb6.mono HB5.out.size))
      clear hb6 x0 x1 y0
      obtain ⟨i, hi⟩ : ∃ i, insB n at_ 1 = i := ⟨_, rfl⟩
      rw [hi]
      cases i
      · obtain rfl : 2 = r := by rw [← HR.out, HK.out, HDR.out, chkC, if_pos hi]
        clear hi
        go_wp2_with fail
        go_ret
        exact ⟨rfl, HB1.out.trans (HB6.out.mono HB1.out.size)⟩
      · have HK2 : Hid (chkC n ca = chkC n (ca.drop (k + 1))) := hid (by rw [HK.out, HDR.out, chkC, if_neg (by rw [hi]; simp)])
        have hNm : N ≤ 9223372036854775807 := by
          obtain ⟨_, h5, h6⟩ := arr_cap HC.out.2.2
          omega
        clear hi
        go_wp2_with fail
        go_roundw
        case rel => exact ⟨k + 1, by omega, by go_num, HK2, HB6⟩
        case measure => simp [Go.RowKit.intOf]; omega
    · obtain rfl : N = k := by omega
      have hkn' : ¬ ((N : Nat) : Int) < (N : Int) := by omega
      obtain rfl : 0 = r := by rw [← HR.out, HK.out, List.drop_of_length_le (by rw [HN.out]; exact Nat.le_refl _)]; rfl
      go_wp2_with fail
      go_ret
      exact ⟨rfl, HBW.out⟩
set_option maxHeartbeats 4000000 in
set_option maxRecDepth 100000 in
theorem refCheck_any (st : List Sect) (ca : List Ca) (sv cv : Value) (w : World) (hs : Sec w sv st) (hc : Cas w cv ca) :
    Calls Try.prog 48 #[.agg #[sv, cv]] w fun e w' => e = .returned (.int .i64 (chkD st.length ca)) ∧ Below w.heap.size w w' := by
  obtain ⟨A, c, rfl⟩ := sec_form hs
  obtain ⟨B, d, rfl⟩ := cas_form hc
  obtain ⟨n, hn⟩ : ∃ n, st.length = n := ⟨_, rfl⟩
  obtain ⟨N, hN⟩ : ∃ n, ca.length = n := ⟨_, rfl⟩
  rw [hn]
  rw [hN] at hc ⊢
  obtain ⟨r, hr⟩ : ∃ r, chkD n ca = r := ⟨_, rfl⟩
  rw [hr]
  unfold chkD at hr
  obtain ⟨g, hg⟩ : ∃ g, w.heap.size = g := ⟨_, rfl⟩
  obtain ⟨W1, hW1⟩ : ∃ X, w.alloc (.cells #[.slice A n c, .slice B N d] 35) = X := ⟨_, rfl⟩
  have hx1 : W1.heap[g]? = some (.cells #[.slice A n c, .slice B N d] 35) := by rw [← hW1, ← hg]; exact heap_alloc_new w _
  have hb1 : Below w.heap.size w W1 := by rw [← hW1]; exact al1 _ _
  have HB1 := hid hb1
  have HC := hid (hc.below hb1)
  have HX1 := hid hx1
  have HN := hid hN
  have HW1 := hid hW1
  have HG := hid hg
  have x0 := cell_of_row _ _ 0 _ _ _ hx1
  have x1 := cell_of_row _ _ 1 _ _ _ hx1
  clear hs hc hn hN hx1 hb1 hW1 hg
  by_cases h1 : 4096 < n
  · have d1 : decide ((4096 : Int) < (n : Int)) = true := decide_eq_true (by omega)
    obtain rfl : 2 = r := by rw [← hr, if_pos h1]
    clear hr
    go_enter Try.func48, Try.ntmps48
    go_upto_region 1 with fail
    rw [HW1.out, HG.out]
    go_wp2_with fail
    go_ret
    exact ⟨rfl, HB1.out⟩
  have d1 : decide ((4096 : Int) < (n : Int)) = false := decide_eq_false (by omega)
  rw [if_neg h1] at hr
  have HR := hid hr
  clear hr
  go_enter Try.func48, Try.ntmps48
  go_upto_region 4 with fail
  rw [HW1.out, HG.out]
  clear x0 x1
  go_loopw [3] (fun iv wr => ∃ k : Nat, k ≤ N ∧ iv = .int .i64 (k : Int) ∧ Hid (chkC n ca = chkC n (ca.drop k)) ∧ Hid (Below W1.heap.size W1 wr)) (fun i _ => N - (Go.RowKit.intOf i).toNat)
  case atStart => exact ⟨0, Nat.zero_le _, rfl, hid rfl, hid (Below.refl _ _)⟩
  case round =>
    obtain ⟨k, hk, rfl, HK, HB⟩ := hrel
    have hx := (HB.out.block g (box_lt HX1.out)).trans HX1.out
    have HBW := hid (HB1.out.trans (HB.out.mono HB1.out.size))
    by_cases hkn : k < N
    · have hkn' : (k : Int) < (N : Int) := by omega
      obtain ⟨b, off, rfl, hb, hcc⟩ := cas_cells HC.out (by rw [HN.out]; omega)
      obtain ⟨x, hxk⟩ : ∃ x, ca[k]? = some x := ⟨ca[k]'(by rw [HN.out]; exact hkn), List.getElem?_eq_getElem _⟩
      have h8 := HC.out.1 x (List.mem_of_getElem? hxk)
      have hcell := fun j u hu => (HB.out.cell (p := ⟨b, off + k * 9 + j, none⟩) hb).trans (hcc k x hxk j u hu)
      have HDR := hid (drop_cons hxk)
      obtain ⟨at_, s⟩ := x
      dsimp only at h8
      obtain ⟨s0, s1, s2, s3, s4, s5, s6, s7, rfl⟩ := list8 h8.1
      have c0 := hcell 0 (.int .i64 at_) rfl
      have c1 := hcell 1 (.int .u8 (s0 : Int)) rfl
      have c2 := hcell 2 (.int .u8 (s1 : Int)) rfl
      have c3 := hcell 3 (.int .u8 (s2 : Int)) rfl
      have c4 := hcell 4 (.int .u8 (s3 : Int)) rfl
      have c5 := hcell 5 (.int .u8 (s4 : Int)) rfl
      have c6 := hcell 6 (.int .u8 (s5 : Int)) rfl
      have c7 := hcell 7 (.int .u8 (s6 : Int)) rfl
      have c8 := hcell 8 (.int .u8 (s7 : Int)) rfl
      rw [Nat.add_zero] at c0
      have x0 := cell_of_row _ _ 0 _ _ _ hx
      have x1 := cell_of_row _ _ 1 _ _ _ hx
      have hNm : N ≤ 9223372036854775807 := by
        obtain ⟨_, h5, h6⟩ := arr_cap HC.out.2.2
        omega
      clear hcc hxk h8 hcell hx c1 c2 c3 c4 c5 c6 c7 c8
      by_cases hi0 : at_ < 0
      · have di : decide (at_ < 0) = true := decide_eq_true hi0
        obtain rfl : 2 = r := by rw [← HR.out, HK.out, HDR.out, chkC, if_pos (by unfold insB; exact decide_eq_false (by omega))]
        clear hi0
        go_upto_region 6 with fail
        go_quiet (fail)
        go_wp2_with fail
        go_ret
        exact ⟨rfl, below_both_drewN HBW.out _⟩
      have di : decide (at_ < 0) = false := decide_eq_false hi0
      by_cases hi1 : (n : Int) ≤ at_
      · have dj : decide ((n : Int) ≤ at_) = true := decide_eq_true hi1
        obtain rfl : 2 = r := by rw [← HR.out, HK.out, HDR.out, chkC, if_pos (by unfold insB; exact decide_eq_false (by omega))]
        clear hi0 hi1
        go_upto_region 6 with fail
        go_quiet (fail)
        go_wp2_with fail
        go_ret
        exact ⟨rfl, below_both_drewN HBW.out _⟩
      have dj : decide ((n : Int) ≤ at_) = false := decide_eq_false hi1
      have HK2 : Hid (chkC n ca = chkC n (ca.drop (k + 1))) := hid (by rw [HK.out, HDR.out, chkC, if_neg (by unfold insB; rw [decide_eq_true (by omega)]; simp)])
      clear hi0 hi1
      go_upto_region 6 with fail
      go_quiet (fail)
      go_wp2_with fail
      go_roundw
      case rel => exact ⟨k + 1, by omega, by go_num, HK2, hid (below_both_drewN HB.out _)⟩
      case measure => simp [Go.RowKit.intOf]; omega
    · obtain rfl : N = k := by omega
      have hkn' : ¬ ((N : Nat) : Int) < (N : Int) := by omega
      have x0 := cell_of_row _ _ 0 _ _ _ hx
      have x1 := cell_of_row _ _ 1 _ _ _ hx
      obtain rfl : 0 = r := by rw [← HR.out, HK.out, List.drop_of_length_le (by rw [HN.out]; exact Nat.le_refl _)]; rfl
      go_wp2_with fail
      go_ret
      exact ⟨rfl, HBW.out⟩
end Go.Proofs.Ytnocgfhcamnjdaa
