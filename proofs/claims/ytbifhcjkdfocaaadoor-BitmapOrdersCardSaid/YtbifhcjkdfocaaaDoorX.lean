/- Lists of extents as arguments; New once more, with the block that it makes; FromExtents. -/
import Derived.Test.YtbifhcjkdfocaaaDoorW
import Derived.Test.YtbifhcjkdfocaaaDoorU
namespace Go.Proofs.YtbifhcjkdfocaaaDoor
open Go.RowKit

/-- The value v reads as the list l of extents, in memory that is there. -/
def Ext (w : World) (v : Value) (l : List (Int × Int)) : Prop :=
  (∀ e ∈ l, R64 e.1 ∧ R64 e.2) ∧ ∃ A cap, v = .slice A l.length cap ∧ l.length ≤ cap ∧ cap ≤ maxLen ∧
    ∃ b off, (0 < l.length → A = some ⟨b, off, none⟩ ∧ b < w.heap.size) ∧ ∀ i e, l[i]? = some e →
      w.cell? ⟨b, off + i * 2, none⟩ = some (.int .i64 e.1) ∧ w.cell? ⟨b, off + i * 2 + 1, none⟩ = some (.int .i64 e.2)
theorem Ext.below {w w' : World} {v : Value} {l : List (Int × Int)} (h : Ext w v l) (hb : Below w.heap.size w w') : Ext w' v l := by
  obtain ⟨hr, A, cap, hv, h1, h2, b, off, hA, hc⟩ := h
  refine ⟨hr, A, cap, hv, h1, h2, b, off, fun h0 => ⟨(hA h0).1, Nat.lt_of_lt_of_le (hA h0).2 hb.size⟩, fun i e hi => ?_⟩
  have hlt : b < w.heap.size := (hA (Nat.lt_of_le_of_lt (Nat.zero_le _) (List.getElem?_eq_some_iff.1 hi).1)).2
  exact ⟨(hb.cell (p := ⟨b, _, none⟩) hlt).trans (hc i e hi).1, (hb.cell (p := ⟨b, _, none⟩) hlt).trans (hc i e hi).2⟩
theorem ext_nil (w : World) : Ext w (.slice none 0 0) [] :=
  ⟨(fun e h => by cases h), none, 0, rfl, Nat.le_refl _, by unfold maxLen; omega, 0, 0, fun h => absurd h (by simp), fun i e h => by simp at h⟩
theorem ext_form {w : World} {v : Value} {l : List (Int × Int)} (h : Ext w v l) : ∃ A cap, v = .slice A l.length cap := by
  obtain ⟨_, A, cap, h, _⟩ := h
  exact ⟨A, cap, h⟩
theorem ext_len {w : World} {v : Value} {l : List (Int × Int)} (h : Ext w v l) : l.length ≤ 9223372036854775807 := by
  obtain ⟨_, _, cap, _, h1, h2, _⟩ := h
  unfold maxLen at h2
  omega

def fitAll (s : Int) (l : List (Int × Int)) : Bool := l.all fun e => fitsB e.1 e.2 s
def feErr (s : Int) (l : List (Int × Int)) : Int := if 0 ≤ s ∧ s ≤ 4096 ∧ fitAll s l = true then 0 else 2
theorem feErr_ok {s : Int} {l : List (Int × Int)} (h0 : 0 ≤ s) (h1 : s ≤ 4096) (h : fitAll s l = true) : feErr s l = 0 := by unfold feErr; rw [if_pos ⟨h0, h1, h⟩]
theorem feErr_bad {s : Int} {l : List (Int × Int)} (h : ¬ (0 ≤ s ∧ s ≤ 4096 ∧ fitAll s l = true)) : feErr s l = 2 := by unfold feErr; rw [if_neg h]
theorem take_snoc {l : List (Int × Int)} {k : Nat} {e : Int × Int} (h : l[k]? = some e) : l.take (k + 1) = l.take k ++ [e] := by
  have hk := (List.getElem?_eq_some_iff.1 h).1
  rw [List.take_succ_eq_append_getElem hk]
  rw [List.getElem?_eq_getElem hk] at h
  injection h with h
  rw [h]
theorem fitAll_snoc {s : Int} {l : List (Int × Int)} {e : Int × Int} (h : fitAll s l = true) (he : fitsB e.1 e.2 s = true) : fitAll s (l ++ [e]) = true := by
  unfold fitAll at *
  rw [List.all_append, h]
  simpa using he
theorem fitAll_not {s : Int} {l : List (Int × Int)} {k : Nat} {e : Int × Int} (h : l[k]? = some e) (he : fitsB e.1 e.2 s = false) : ¬ fitAll s l = true := by
  unfold fitAll
  rw [List.all_eq_true]
  intro hh
  have := hh e (List.mem_of_getElem? h)
  rw [he] at this
  cases this

/-- New at a size that is allowed, with the block of its words. -/
def NewW (w : World) (s : Int) (n : Nat) (e : Ending) (w' : World) : Prop :=
  ∃ g, e = .returned (.tuple #[.agg #[.int .i64 s, .slice (some ⟨g, 0, none⟩) n n], .int .i64 0]) ∧ w.heap.size ≤ g ∧ Wk w' g (List.replicate n 0) ∧ Below w.heap.size w w'
set_option maxHeartbeats 2000000 in
set_option maxRecDepth 100000 in
theorem new_wk (s : Int) (n : Nat) (w : World) (h0' : 0 ≤ s) (h1' : s ≤ 4096) (hn : (s + 63) / 64 = (n : Int)) :
    Calls Tryd.prog 13 #[.int .i64 s] w (NewW w s n) := by
  have hn1 : n ≤ 64 := by omega
  obtain ⟨w0, hw0⟩ : ∃ w0, w.alloc (.cells #[.int .i64 0, .slice none 0 0] 24) = w0 := ⟨_, rfl⟩
  have hmk := make22 w0 n (by omega)
  have HW := hid (wordsFor_any s w0 h0' h1')
  have hwk := wk_made w0 n
  have hz0 : w0.heap.size = w.heap.size + 1 := by rw [← hw0]; simp
  have hbx : (w0.alloc (.cells (madeCells #[.int .u64 0] n) 55)).heap[w.heap.size]? = some (.cells #[.int .i64 0, .slice none 0 0] 24 (0, 0)) := by
    rw [← hw0]; exact (Below.heap_alloc _ _ _ (by simp)).trans (heap_alloc_new w _)
  have hB : Below w.heap.size w (w0.alloc (.cells (madeCells #[.int .u64 0] n) 55)) := by
    rw [← hw0]; exact ((Below.refl _ w).alloc (Nat.le_refl _) _).alloc (by simp) _
  obtain ⟨W1, hW1⟩ : ∃ W1, W1 = w0.alloc (.cells (madeCells #[.int .u64 0] n) 55) := ⟨_, rfl⟩
  rw [← hW1] at hmk hwk hB hbx
  rw [hz0] at hmk hwk
  rw [hn] at HW
  have HK := hid hwk
  have HB := hid hB
  have x0 := cell_of_row _ _ 0 _ _ _ hbx
  have x1 := cell_of_row _ _ 1 _ _ _ hbx
  have hfr : ∀ i, W1.frozen? ⟨w.heap.size, i, none⟩ = false := fun i => by unfold World.frozen?; rw [hbx]; simp
  have f0 := hfr 0
  have f1 := hfr 1
  have HBX := hid hbx
  clear hW1 hwk hB hn hbx hfr hz0
  go_enter Tryd.func13, Tryd.ntmps13
  go_wp2_with (go_at_call 39; refine HW.out.mono ?_; rintro e w1 ⟨rfl, rfl⟩)
  refine bodyPost_ret (results_bm rfl _ _ _ _ _ _ _ rfl (box2_set HBX.out)) rfl ?_
  exact ⟨_, rfl, by omega, HK.out.box2 (by omega), box2_below HB.out (Nat.le_refl _)⟩

set_option maxHeartbeats 4000000 in
set_option maxRecDepth 100000 in
theorem fromExtents_any (s : Int) (l : List (Int × Int)) (v : Value) (w : World) (hv : Ext w v l) :
    Calls Tryd.prog 34 #[.int .i64 s, v] w (MadeB w (feErr s l) s (fun i => inL l i)) := by
  have hln := ext_len hv
  obtain ⟨hr, A, cap, rfl, hcap, hcm, b, off, hA, hc⟩ := hv
  have HC := hid hc
  have HR := hid hr
  clear hc hr
  obtain ⟨w0, hw0⟩ : ∃ w0, w.alloc (.cells #[.int .i64 0, .slice none 0 0] 24) = w0 := ⟨_, rfl⟩
  have hz0 : w0.heap.size = w.heap.size + 1 := by rw [← hw0]; simp
  have r0 : w0.heap[w.heap.size]? = some (.cells #[.int .i64 0, .slice none 0 0] 24 (0, 0)) := by rw [← hw0]; exact heap_alloc_new w _
  have hB0 : Below w.heap.size w w0 := by rw [← hw0]; exact (Below.refl _ w).alloc (Nat.le_refl _) _
  have R0 := hid r0
  have HB0 := hid hB0
  clear r0 hB0
  by_cases hs : 0 ≤ s ∧ s ≤ 4096
  · obtain ⟨h0, h1⟩ := hs
    obtain ⟨n, hn⟩ : ∃ n : Nat, (s + 63) / 64 = (n : Int) := ⟨((s + 63) / 64).toNat, by omega⟩
    have HN := hid (new_wk s n w0 h0 h1 hn)
    have hn64 : n ≤ 64 := by omega
    have hsn : s ≤ 64 * (n : Int) := by omega
    have HNN := hid hn
    have hg := hid (good_rep h0 h1)
    clear hn
    go_enter Tryd.func34, Tryd.ntmps34
    go_wp2_with (go_at_call 13; refine HN.out.mono ?_; rintro e w1 ⟨g, rfl, hg0, hk1, hb1⟩; have HK1 := hid hk1; have HB1 := hid hb1; have hz1 := hb1.size; have hgl := hk1.lt; clear hk1 hb1)
    obtain ⟨w2, hw2⟩ : ∃ w2, w1.alloc (.cells #[.int .i64 s, .slice (some ⟨g, 0, none⟩) n n] 24) = w2 := ⟨_, rfl⟩
    obtain ⟨q, hq⟩ : ∃ q, w1.heap.size = q := ⟨_, rfl⟩
    have hz2 : w2.heap.size = q + 1 := by rw [← hw2]; simp; omega
    have r2 : w2.heap[q]? = some (.cells #[.int .i64 s, .slice (some ⟨g, 0, none⟩) n n] 24 (0, 0)) := by rw [← hw2, ← hq]; exact heap_alloc_new w1 _
    have hB12 : Below w1.heap.size w1 w2 := by rw [← hw2]; exact (Below.refl _ w1).alloc (Nat.le_refl _) _
    have r02 : w2.heap[w.heap.size]? = some (.cells #[.int .i64 0, .slice none 0 0] 24 (0, 0)) := (hB12.block _ (by omega)).trans ((HB1.out.block _ (by omega)).trans R0.out)
    have HW2 : Hid (Below w.heap.size w w2) := hid (below_both (below_both HB0.out HB1.out) hB12)
    have HK2 : Hid (Wk w2 g (List.replicate n 0)) := hid (HK1.out.below hB12)
    have HR2 := hid r2
    have HR02 := hid r02
    rw [hw2, hq]
    rw [hq] at hgl hz1
    clear r2 hB12 r02 HK1 HB1 hw2 hq
    go_loopw [21] (fun i wr => ∃ (k : Nat) (us : List Nat), k ≤ l.length ∧ i = .int .i64 k ∧ us.length = n ∧ Hid (Wide us) ∧ Hid (Wk wr g us) ∧ Hid (∀ i, bit us i = inL (l.take k) i) ∧ Hid (fitAll s (l.take k) = true) ∧ q < wr.heap.size ∧
      Hid (wr.heap[q]? = some (.cells #[.int .i64 s, .slice (some ⟨g, 0, none⟩) n n] 24 (0, 0))) ∧ Hid (wr.heap[w.heap.size]? = some (.cells #[.int .i64 0, .slice none 0 0] 24 (0, 0))) ∧ Hid (Below w.heap.size w wr)) (fun i _ => l.length - (intOf i).toNat)
    case atStart => exact ⟨0, _, Nat.zero_le _, rfl, List.length_replicate, hid (wide_rep n), HK2, hid (fun i => by rw [bit_rep]; rfl), hid rfl, by omega, HR2, HR02, HW2⟩
    case round =>
      clear HK2 HR2 HR02 HW2 hz2
      obtain ⟨k, us, hk, rfl, hlu, HWU, HKU, HBU, HFU, hqs, HQ, HRR, HBW⟩ := hrel
      have hBs := HBW.out.size
      by_cases hlt : k < l.length
      · obtain ⟨hA1, hb⟩ := hA (by omega)
        subst hA1
        obtain ⟨⟨a, c⟩, he⟩ : ∃ e, l[k]? = some e := ⟨l[k], List.getElem?_eq_getElem hlt⟩
        obtain ⟨hs1, hs2⟩ := HR.out (a, c) (List.mem_of_getElem? he)
        have hc1 := (HBW.out.cell (p := ⟨b, off + k * 2, none⟩) hb).trans (HC.out k _ he).1
        have hc2 := (HBW.out.cell (p := ⟨b, off + k * 2 + 1, none⟩) hb).trans (HC.out k _ he).2
        dsimp only at hc1 hc2 hs1 hs2
        have HE := hid he
        have HF := hid (fun W => fits_any a c s W hs1 hs2 h0 h1)
        clear he
        cases hf : fitsB a c s with
        | false =>
          have hfe := hid (feErr_bad (s := s) (l := l) (fun h => fitAll_not HE.out hf h.2.2))
          rw [hf] at HF
          clear hf
          go_wp2_with (go_at_call 51; refine (HF.out _).mono ?_; rintro e w5 ⟨rfl, hb5⟩; have HB5 := hid (below_more hb5 (Nat.le_refl _)); have HR5 := hid ((HB5.out.block w.heap.size (by omega)).trans HRR.out); have f0 := cell_of_row _ _ 0 _ _ _ HR5.out; have f1 := cell_of_row _ _ 1 _ _ _ HR5.out; have f2 : w5.frozen? ⟨w.heap.size, 0, none⟩ = false := by { unfold World.frozen?; rw [HR5.out]; simp }; have f3 : w5.frozen? ⟨w.heap.size, 1, none⟩ = false := by { unfold World.frozen?; rw [HR5.out]; simp }; clear hb5)
          refine bodyPost_ret (results_bm rfl _ _ _ _ _ _ _ rfl (box2_set HR5.out)) rfl ?_
          exact made_err hfe.out.symm (by omega) (box2_below (HBW.out.trans (HB5.out.mono hBs)) (Nat.le_refl _))
        | true =>
          have ⟨ha0, hc0, hac⟩ : 0 ≤ a ∧ 0 ≤ c ∧ c ≤ s - a := by simpa [fitsB] using hf
          obtain ⟨f, rfl⟩ := Int.eq_ofNat_of_zero_le ha0
          obtain ⟨m, rfl⟩ := Int.eq_ofNat_of_zero_le hc0
          rw [hf] at HF
          have HFT := hid (fitAll_snoc (e := ((f : Int), (m : Int))) HFU.out hf)
          rw [← take_snoc HE.out] at HFT
          have HIN := hid (show ∀ i, inL (l.take (k + 1)) i = (inL (l.take k) i || decide (f ≤ i ∧ i < f + m)) from fun i => by
            rw [take_snoc HE.out, inL_append, inL_one]
            congr 1
            simp only [decide_eq_decide]
            omega)
          have HFILL := hid (fun W (h : Wk W g us) => fill_any g f m n us W h HWU.out (by omega) (by omega) (by omega) (by unfold maxLen; omega))
          rw [hlu] at HFILL
          clear hf ha0 hc0
          go_wp2_with (first | (go_at_call 51; refine (HF.out _).mono ?_; rintro e w5 ⟨rfl, hb5⟩; have y0 := box_cell hb5 0; have y1 := box_cell hb5 1; have HB5 := hid (below_more hb5 (Nat.le_refl _)); have x1 := cell_of_row _ _ 1 _ _ _ ((HB5.out.block q (by omega)).trans HQ.out); have HK5 := hid (HKU.out.below HB5.out); clear hb5) | (go_at_call 52; refine (HFILL.out _ HK5.out).mono ?_; rintro e w6 ⟨rfl, us', hk6, hl6, hw6, hb6, hg6⟩; have HK6 := hid hk6; have HW6 := hid hw6; have HBB6 := hid hb6; have HG6 := hid hg6; have hz6 := hg6.size; have hz5 := HB5.out.size; clear hk6 hw6 hb6 hg6 y0 y1 x1))
          go_roundw
          case rel => exact ⟨k + 1, us', by omega, by go_num, by omega, HW6, HK6, hid (fun i => by rw [HBB6.out, HBU.out, HIN.out]), HFT, by omega, hid ((HG6.out.block q (by omega) (fun e => by injection e with e; omega)).trans ((HB5.out.block q (by omega)).trans HQ.out)), hid ((HG6.out.block w.heap.size (by omega) (fun e => by injection e with e; omega)).trans ((HB5.out.block w.heap.size (by omega)).trans HRR.out)), hid ((HBW.out.trans (HB5.out.mono hBs)).grown HG6.out (by omega) (fun k e => by injection e with e; omega))⟩
          case measure => simp [intOf]; omega
      · obtain rfl : k = l.length := by omega
        have f0 := cell_of_row _ _ 0 _ _ _ HRR.out
        have f1 := cell_of_row _ _ 1 _ _ _ HRR.out
        have f2 : wr.frozen? ⟨w.heap.size, 0, none⟩ = false := by { unfold World.frozen?; rw [HRR.out]; simp }
        have f3 : wr.frozen? ⟨w.heap.size, 1, none⟩ = false := by { unfold World.frozen?; rw [HRR.out]; simp }
        have q0 := cell_of_row _ _ 0 _ _ _ HQ.out
        have q1 := cell_of_row _ _ 1 _ _ _ HQ.out
        have HFE := hid (feErr_ok h0 h1 (by have := HFU.out; rw [List.take_length] at this; exact this))
        go_wp2
        refine bodyPost_ret (results_bm rfl _ _ _ _ _ _ _ rfl (box2_set HRR.out)) rfl ?_
        have hbm := fun W (h : Wk W g us) => h.bm HWU.out (s := s) ⟨by omega, by omega⟩ (cap := n) (by omega) (by unfold maxLen; omega)
        simp only [hlu] at hbm
        have hbits : ∀ i, bit us i = inL l i := fun i => by rw [HBU.out, List.take_length]
        refine made_ok HFE.out.symm (hbm _ (HKU.out.box2 (by omega))) ⟨h0, h1, by rw [hlu]; exact HNN.out.symm, fun i hi => ?_⟩ (fun i _ => hbits i) (box2_below HBW.out (Nat.le_refl _))
        rw [hbits]
        have hfa := HFU.out
        rw [List.take_length] at hfa
        unfold inL
        rw [List.any_eq_false]
        intro e he
        have := List.all_eq_true.1 hfa e he
        simp [fitsB] at this ⊢
        omega
  · have he := hid (feErr_bad (s := s) (l := l) (fun h => hs ⟨h.1, h.2.1⟩))
    have HN := hid (new_any s w0)
    have he2 := newErr_bad hs
    rw [he2] at HN
    clear he2
    go_enter Tryd.func34, Tryd.ntmps34
    go_wp2_with fail
    refine HN.out.mono ?_
    rintro e w1 ⟨v1, ws1, rfl, hbm1, hif1, hb1⟩
    obtain ⟨A1, c1, rfl⟩ := hbm1.form
    have HR5 := hid ((hb1.block w.heap.size (by omega)).trans R0.out)
    have HB1 := hid hb1
    have hz1 := hb1.size
    have hlt1 : w.heap.size < w1.heap.size := by omega
    have HR6 : Hid (∀ o, (w1.alloc o).heap[w.heap.size]? = some (.cells #[.int .i64 0, .slice none 0 0] 24 (0, 0))) := hid (fun o => (Below.heap_alloc _ _ _ (by omega)).trans HR5.out)
    have f0 := cell_of_row _ _ 0 _ _ _ HR5.out
    have f1 := cell_of_row _ _ 1 _ _ _ HR5.out
    have f2 : w1.frozen? ⟨w.heap.size, 0, none⟩ = false := by { unfold World.frozen?; rw [HR5.out]; simp }
    have f3 : w1.frozen? ⟨w.heap.size, 1, none⟩ = false := by { unfold World.frozen?; rw [HR5.out]; simp }
    clear hb1 hbm1 hif1
    go_wp2
    refine bodyPost_ret (results_bm rfl _ _ _ _ _ _ _ rfl ((Below.heap_alloc _ _ _ (by simp; omega)).trans (box2_set HR5.out))) rfl ?_
    exact made_err he.out.symm (by omega) ((box2_below (below_both HB0.out HB1.out) (Nat.le_refl _)).alloc (by simp; omega) _)
end Go.Proofs.YtbifhcjkdfocaaaDoor
