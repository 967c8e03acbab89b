/- Normalize and Contains of package extent. -/
import Derived.Test.YtkchenhkolpinaaH
import Derived.Test.YtkchenhkolpinaaC
namespace Go.Proofs.Ytkchenhkolpinaa
open Go.RowKit Go.Shelf
attribute [local go_sem] Oper.semAt_some

/-- The first number that is not 0 among f 0 .. f (n - 1), or 0. -/
def fst0 (f : Nat → Int) : Nat → Int
  | 0 => 0
  | n + 1 => if fst0 f n = 0 then f n else fst0 f n
theorem fst0_stay {f : Nat → Int} {n m : Nat} (h : fst0 f n ≠ 0) (hm : n ≤ m) : fst0 f m = fst0 f n := by
  induction m with
  | zero => obtain rfl : n = 0 := by omega
            rfl
  | succ m ih =>
    by_cases e : n = m + 1
    · rw [e]
    · have := ih (by omega)
      rw [fst0, this, if_neg h]
theorem fst0_end {f : Nat → Int} {k n : Nat} {r : Int} (h0 : fst0 f k = 0) (hk : k < n) (hr : f k = r) (hne : r ≠ 0) : fst0 f n = r := by
  have : fst0 f (k + 1) = r := by rw [fst0, if_pos h0, hr]
  rw [fst0_stay (by rw [this]; exact hne) hk, this]
theorem fst0_next {f : Nat → Int} {k : Nat} (h0 : fst0 f k = 0) (hr : f k = 0) : fst0 f (k + 1) = 0 := by
  rw [fst0, if_pos h0, hr]

def nrmAt (l : List (Int × Int)) (k : Nat) : Int :=
  if (l.getD k (0, 0)).2 < 0 then 1 else if 0 < (l.getD k (0, 0)).2 ∧ fitsB (l.getD k (0, 0)).1 (l.getD k (0, 0)).2 4096 = false then 2 else 0
def nrm (l : List (Int × Int)) : Int := fst0 (nrmAt l) l.length
theorem nrmAt_1 {s n : Int} {l : List (Int × Int)} {k : Nat} (hg : Hid (l.getD k (0, 0) = (s, n))) (hn : n < 0) : nrmAt l k = 1 := by
  rw [nrmAt, hg.out, if_pos hn]
theorem nrmAt_2 {s n : Int} {l : List (Int × Int)} {k : Nat} (hg : Hid (l.getD k (0, 0) = (s, n))) (hn : 0 < n) (hf : fitsB s n 4096 = false) : nrmAt l k = 2 := by
  rw [nrmAt, hg.out, if_neg (by omega), if_pos ⟨hn, hf⟩]
theorem nrmAt_0 {s n : Int} {l : List (Int × Int)} {k : Nat} (hg : Hid (l.getD k (0, 0) = (s, n))) (hn : 0 ≤ n) (hf : 0 < n → fitsB s n 4096 = true) : nrmAt l k = 0 := by
  rw [nrmAt, hg.out, if_neg (by omega), if_neg (fun h => by rw [hf h.1] at h; cases h.2)]

/-- A list and an error: nothing where there is an error. -/
def Made2 (w : World) (err : Int) (p : Int → Bool) (e : Ending) (w' : World) : Prop :=
  ∃ v l, e = .returned (.tuple #[v, .int .i64 err]) ∧ (if err = 0 then Canon 0 l ∧ ∀ x, mem l x = p x else l = []) ∧ Ext w' v l ∧ Below w.heap.size w w'
theorem made2_err {w w' : World} {err r : Int} {p : Int → Bool} (h : r = err) (hne : r ≠ 0) (hb : Below w.heap.size w w') : Made2 w err p (.returned (.tuple #[.slice none 0 0, .int .i64 r])) w' := by
  subst h
  exact ⟨_, [], rfl, by rw [if_neg hne], ext_nil _, hb⟩

set_option maxHeartbeats 2000000 in
theorem normalize_any (l : List (Int × Int)) (v : Value) (w : World) (hv : Ext w v l) (hl : l.length ≤ 10000) :
    Calls Try.prog 16 #[v] w (Made2 w (nrm l) fun x => mem l x) := by
  have HU := hid (fun w1 (hb : Below w.heap.size w w1) => union_any l [] v _ w1 (hv.below hb) (ext_nil w1) hl (by simp))
  obtain ⟨hr, A, cap, rfl, hcap, hcm, b, off, hA, hc⟩ := hv
  have hfits := fun (s n : Int) (W : World) (hs : R64 s) (hn : R64 n) => fits_any s n 4096 W hs hn (by omega) (by omega)
  have HF := hid hfits
  have HR := hid hr
  have HC := hid hc
  clear hfits hr hc
  go_enter Try.func16, Try.ntmps16
  go_wp2
  go_loopw [2, 3, 8] (fun r t i wr => ∃ k : Nat, k ≤ l.length ∧ i = .int .i64 k ∧ r = .slice none 0 0 ∧ t = .int .i64 0 ∧ Hid (fst0 (nrmAt l) k = 0) ∧ Below w.heap.size w wr) (fun _ _ i _ => l.length - (intOf i).toNat)
  case atStart => exact ⟨0, Nat.zero_le _, rfl, rfl, rfl, hid rfl, Below.refl _ _⟩
  case round =>
    obtain ⟨k, hk, rfl, rfl, rfl, H0, hB⟩ := hrel
    have hBs := hB.size
    by_cases hlt : k < l.length
    · obtain ⟨hA1, hb⟩ := hA (by omega)
      subst hA1
      obtain ⟨⟨s, n⟩, he⟩ : ∃ e, l[k]? = some e := ⟨l[k], List.getElem?_eq_getElem hlt⟩
      have hg : l.getD k (0, 0) = (s, n) := by simp [List.getD, he]
      obtain ⟨⟨hs1, hs2⟩, hn1, hn2⟩ := HR.out (s, n) (List.mem_of_getElem? he)
      have hc1 := (hB.cell (p := ⟨b, off + k * 2, none⟩) hb).trans (HC.out k _ he).1
      have hc2 := (hB.cell (p := ⟨b, off + k * 2 + 1, none⟩) hb).trans (HC.out k _ he).2
      have HG := hid hg
      clear hg he
      dsimp only at hc1 hc2 hs1 hs2 hn1 hn2
      by_cases hn : n < 0
      · go_wp2
        go_ret2
        exact made2_err (fst0_end H0.out hlt (nrmAt_1 HG hn) (by omega)).symm (by omega) (hB.trans ((Below.refl _ _).alloc hB.size _))
      · by_cases hn0 : 0 < n
        · by_cases hf : fitsB s n 4096 = false
          · go_wp2_with (go_at_call 34; refine (HF.out _ _ _ ⟨hs1, hs2⟩ ⟨hn1, hn2⟩).mono ?_; rintro e w1 ⟨rfl, hb1⟩; have hf1 := hf)
            go_ret2
            exact made2_err (fst0_end H0.out hlt (nrmAt_2 HG hn0 hf) (by omega)).symm (by omega) (hB.trans (below_more hb1 hB.size))
          · have HF' := hid (show fitsB s n 4096 = true by simpa using hf)
            clear hf
            go_wp2_with (go_at_call 34; refine (HF.out _ _ _ ⟨hs1, hs2⟩ ⟨hn1, hn2⟩).mono ?_; rintro e w1 ⟨rfl, hb1⟩; have hf1 := HF'.out)
            go_roundw
            case rel => exact ⟨k + 1, by omega, by go_num, rfl, rfl, hid (fst0_next H0.out (nrmAt_0 HG (by omega) (fun _ => HF'.out))), hB.trans (below_more hb1 hB.size)⟩
            case measure => simp [intOf]; omega
        · go_wp2
          go_roundw
          case rel => exact ⟨k + 1, by omega, by go_num, rfl, rfl, hid (fst0_next H0.out (nrmAt_0 HG (by omega) (fun h => absurd h hn0))), hB.trans ((Below.refl _ _).alloc hB.size _)⟩
          case measure => simp [intOf]; omega
    · obtain rfl : k = l.length := by omega
      have HN : Hid (nrm l = 0) := H0
      go_wp2_with (go_at_call 19; refine (HU.out _ hB).mono ?_; rintro e w1 ⟨v, l', rfl, h1, h2, h3, h4⟩)
      go_ret2
      refine ⟨v, l', ?_, ?_, h3, below_both hB h4⟩
      · rw [HN.out]; rfl
      · rw [HN.out, if_pos rfl]
        exact ⟨h1, fun x => by rw [h2 x]; simp [mem]⟩

/-! ### Contains -/
set_option maxHeartbeats 1000000 in
theorem inside_any (s n x : Int) (bx : Nat) (w : World) (hs : R64 s) (hn : R64 n) (hx : w.cell? ⟨bx, 0, none⟩ = some (.int .i64 x)) (hb : bx < w.heap.size) :
    Calls Try.prog 45 #[.agg #[.int .i64 s, .int .i64 n], .pointer (some ⟨bx, 0, none⟩)] w fun e w' => e = .returned (.bool (inE (s, n) x)) ∧ Below w.heap.size w w' := by
  have hin := inE_clip (s, n) x
  dsimp only at hin
  by_cases h1 : clipF s n ≤ x
  · by_cases h2 : x < clipE s n
    · have HI := hid (show inE (s, n) x = true by rw [hin]; simp [h1, h2])
      clear hin
      go_enter Try.func45, Try.ntmps45
      go_wp2_with (go_at_call 46; refine (clip_any s n _ hs hn).mono ?_; rintro e w1 ⟨rfl, hb1⟩; have hx1 := (hb1.cell (p := ⟨bx, 0, none⟩) (by simp; omega)).trans ((World.cell?_alloc_lt w _ ⟨bx, 0, none⟩ (by simp; omega)).trans hx))
      go_ret
      exact ⟨ret_bool HI.out.symm, below_more hb1 (Nat.le_refl _)⟩
    · have HI := hid (show inE (s, n) x = false by rw [hin]; simp [h2])
      clear hin
      go_enter Try.func45, Try.ntmps45
      go_wp2_with (go_at_call 46; refine (clip_any s n _ hs hn).mono ?_; rintro e w1 ⟨rfl, hb1⟩; have hx1 := (hb1.cell (p := ⟨bx, 0, none⟩) (by simp; omega)).trans ((World.cell?_alloc_lt w _ ⟨bx, 0, none⟩ (by simp; omega)).trans hx))
      go_ret
      exact ⟨ret_bool (by rw [HI.out]; simp; omega), below_more hb1 (Nat.le_refl _)⟩
  · have HI := hid (show inE (s, n) x = false by rw [hin]; simp [h1])
    clear hin
    go_enter Try.func45, Try.ntmps45
    go_wp2_with (go_at_call 46; refine (clip_any s n _ hs hn).mono ?_; rintro e w1 ⟨rfl, hb1⟩; have hx1 := (hb1.cell (p := ⟨bx, 0, none⟩) (by simp; omega)).trans ((World.cell?_alloc_lt w _ ⟨bx, 0, none⟩ (by simp; omega)).trans hx))
    go_ret
    exact ⟨ret_bool HI.out.symm, below_more hb1 (Nat.le_refl _)⟩

/-- The first place from k on at which p holds. -/
theorem ret_int' {a b : Int} (h : a = b) : Ending.returned (.int .i64 a) = .returned (.int .i64 b) := by rw [h]
theorem mem_take_succ {l : List (Int × Int)} {k : Nat} {e : Int × Int} {x : Int} (he : Hid (l[k]? = some e)) : mem (l.take (k + 1)) x = (mem (l.take k) x || inE e x) := by
  obtain ⟨hi, h⟩ := List.getElem?_eq_some_iff.1 he.out
  rw [List.take_succ_eq_append_getElem hi, mem_append, h]
  simp [mem]
theorem mem_of_take {l : List (Int × Int)} {k : Nat} {x : Int} (h : mem (l.take k) x = true) : mem l x = true := by
  have : l = l.take k ++ l.drop k := (List.take_append_drop k l).symm
  rw [this, mem_append, h]; rfl

set_option maxHeartbeats 2000000 in
theorem index_any (l : List (Int × Int)) (v : Value) (x : Int) (bx : Nat) (w : World) (hv : Ext w v l) (hl : l.length ≤ 10000) (hx : w.cell? ⟨bx, 0, none⟩ = some (.int .i64 x)) (hbx : bx < w.heap.size) :
    Calls Try.prog 52 #[v, .func (.func 45) #[] #[.pointer (some ⟨bx, 0, none⟩)]] w fun e w' => ∃ r : Int, e = .returned (.int .i64 r) ∧ Hid (decide (0 ≤ r) = mem l x) ∧ -1 ≤ r ∧ r ≤ 10000 ∧ Below w.heap.size w w' := by
  obtain ⟨hr, A, cap, rfl, hcap, hcm, b, off, hA, hc⟩ := hv
  have HR := hid hr
  have HC := hid hc
  clear hr hc
  go_enter Try.func52, Try.ntmps52
  go_wp2
  go_loopw [4, 8] (fun r i wr => ∃ k : Nat, k ≤ l.length ∧ i = .int .i64 k ∧ r = .int .i64 0 ∧ Hid (mem (l.take k) x = false) ∧ Below w.heap.size w wr) (fun _ i _ => l.length - (intOf i).toNat)
  case atStart => exact ⟨0, Nat.zero_le _, rfl, rfl, hid rfl, Below.refl _ _⟩
  case round =>
    obtain ⟨k, hk, rfl, rfl, H0, hB⟩ := hrel
    have hBs := hB.size
    by_cases hlt : k < l.length
    · obtain ⟨hA1, hb⟩ := hA (by omega)
      subst hA1
      obtain ⟨⟨s, n⟩, he⟩ : ∃ e, l[k]? = some e := ⟨l[k], List.getElem?_eq_getElem hlt⟩
      obtain ⟨hs, hn⟩ := HR.out (s, n) (List.mem_of_getElem? he)
      have hc1 := (hB.cell (p := ⟨b, off + k * 2, none⟩) hb).trans (HC.out k _ he).1
      have hc2 := (hB.cell (p := ⟨b, off + k * 2 + 1, none⟩) hb).trans (HC.out k _ he).2
      have hxw := (hB.cell (p := ⟨bx, 0, none⟩) hbx).trans hx
      have HE := hid he
      clear he
      dsimp only at hc1 hc2 hs hn
      by_cases hin : inE (s, n) x = true
      · have HI := hid hin
        clear hin
        go_wp2_with (go_at_call 45; refine (inside_any s n x bx _ hs hn hxw (by omega)).mono ?_; rintro e w1 ⟨rfl, hb1⟩; have hi1 := HI.out)
        go_ret
        refine ⟨k, rfl, hid ?_, by omega, by omega, below_both hB hb1⟩
        have h1 := mem_take_succ (x := x) HE
        rw [HI.out, Bool.or_true] at h1
        rw [mem_of_take h1]
        simp
      · have HI := hid (show inE (s, n) x = false by simpa using hin)
        clear hin
        go_wp2_with (go_at_call 45; refine (inside_any s n x bx _ hs hn hxw (by omega)).mono ?_; rintro e w1 ⟨rfl, hb1⟩; have hi1 := HI.out)
        go_roundw
        case rel => exact ⟨k + 1, by omega, by go_num, rfl, hid (by rw [mem_take_succ HE, H0.out, HI.out]; rfl), below_both hB hb1⟩
        case measure => simp [intOf]; omega
    · obtain rfl : k = l.length := by omega
      have H1 := H0.out
      rw [List.take_length] at H1
      have H1 := hid H1
      go_wp2
      go_ret
      exact ⟨-1, rfl, hid (by rw [H1.out]; rfl), by omega, by omega, hB⟩

set_option maxHeartbeats 1000000 in
theorem containsf_any (l : List (Int × Int)) (v : Value) (x : Int) (bx : Nat) (w : World) (hv : Ext w v l) (hl : l.length ≤ 10000) (hx : w.cell? ⟨bx, 0, none⟩ = some (.int .i64 x)) (hbx : bx < w.heap.size) :
    Calls Try.prog 44 #[v, .func (.func 45) #[] #[.pointer (some ⟨bx, 0, none⟩)]] w fun e w' => e = .returned (.bool (mem l x)) ∧ Below w.heap.size w w' := by
  have HX := hid (index_any l v x bx w hv hl hx hbx)
  obtain ⟨A, ca, hva⟩ : ∃ A ca, v = .slice A l.length ca := by obtain ⟨_, A, ca, h, _⟩ := hv; exact ⟨A, ca, h⟩
  subst hva
  clear hv hx
  go_enter Try.func44, Try.ntmps44
  go_wp2_with (go_at_call 52; refine HX.out.mono ?_; rintro e w1 ⟨r, rfl, hr, hr1, hr2, hb⟩)
  go_ret
  exact ⟨ret_bool hr.out, hb⟩

set_option maxHeartbeats 1000000 in
theorem contains_any (l : List (Int × Int)) (v : Value) (x : Int) (w : World) (hv : Ext w v l) (hl : l.length ≤ 10000) :
    Calls Try.prog 29 #[v, .int .i64 x] w fun e w' => e = .returned (.bool (mem l x)) ∧ Below w.heap.size w w' := by
  have hB : Below w.heap.size w (w.alloc (.cells #[.int .i64 x] 3)) := (Below.refl _ w).alloc (Nat.le_refl _) _
  have HX := hid (containsf_any l v x w.heap.size _ (hv.below hB) hl (cell_of_row _ _ _ _ _ _ (heap_alloc_new w _)) (by simp))
  obtain ⟨A, ca, hva⟩ : ∃ A ca, v = .slice A l.length ca := by obtain ⟨_, A, ca, h, _⟩ := hv; exact ⟨A, ca, h⟩
  subst hva
  clear hv
  go_enter Try.func29, Try.ntmps29
  go_wp2_with (go_at_call 44; refine HX.out.mono ?_; rintro e w1 ⟨rfl, hb⟩)
  go_ret
  exact ⟨rfl, below_both hB hb⟩
end Go.Proofs.Ytkchenhkolpinaa
