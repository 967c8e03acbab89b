/- Images that a call makes: New, and the copy that Apply writes to. -/
import Derived.Test.YtbcnikmhodkbfaaF
namespace Go.Proofs.Ytbcnikmhodkbfaa
open Go.RowKit Go.Lib

def zs : Sect := [0, 0, 0, 0, 0, 0, 0, 0]
def zv8 : List Value := [.int .u8 0, .int .u8 0, .int .u8 0, .int .u8 0, .int .u8 0, .int .u8 0, .int .u8 0, .int .u8 0]
/-- n sectors, of which the first have been laid. -/
def laid (l : List Sect) (m : Nat) : List Value := (l.map cSec).flatten ++ (List.replicate m zv8).flatten
set_option maxRecDepth 100000 in
theorem made_secs (n : Nat) : madeCells (Value.agg #[.int .u8 0, .int .u8 0, .int .u8 0, .int .u8 0, .int .u8 0, .int .u8 0, .int .u8 0, .int .u8 0]).cells (n * 8) = (laid [] n).toArray := by
  have hz : ∀ i : Nat, (#[.int .u8 0, .int .u8 0, .int .u8 0, .int .u8 0, .int .u8 0, .int .u8 0, .int .u8 0, .int .u8 0] : Array Value)[i % 8]! = .int .u8 0 := fun i => by
    have h : i % 8 = 0 ∨ i % 8 = 1 ∨ i % 8 = 2 ∨ i % 8 = 3 ∨ i % 8 = 4 ∨ i % 8 = 5 ∨ i % 8 = 6 ∨ i % 8 = 7 := by omega
    rcases h with h | h | h | h | h | h | h | h <;> rw [h] <;> rfl
  have hf : ∀ n : Nat, (List.replicate n zv8).flatten = List.replicate (n * 8) (.int .u8 0) := fun n => by
    induction n with
    | zero => rfl
    | succ n ih =>
      rw [List.replicate_succ, List.flatten_cons, ih, show (n + 1) * 8 = 8 + n * 8 by omega, ← List.replicate_append_replicate]
      rfl
  apply Array.ext'
  unfold madeCells
  rw [Array.toList_map, Array.toList_range]
  unfold laid
  rw [hf]
  apply List.ext_getElem?
  intro i
  rw [List.getElem?_map]
  simp only [List.map_nil, List.flatten_nil, List.nil_append]
  rcases Nat.lt_or_ge i (n * 8) with h | h
  · rw [List.getElem?_range h, List.getElem?_replicate, if_pos h]
    exact congrArg some (hz i)
  · rw [List.getElem?_eq_none (by rw [List.length_range]; exact h), List.getElem?_eq_none (by rw [List.length_replicate]; exact h)]
    rfl
theorem keep_setc {W : World} {g i : Nat} {T E : TypeId} {cs : Array Value} {v : Value} (h : W.heap[g]? = some (.cells cs E)) (hT : T ≠ E) : Keep T W (W.setCell ⟨g, i, none⟩ v) := fun k cs' hk => by
  refine (Below.heap_setCell W ⟨g, i, none⟩ v k (fun e => ?_)).trans hk
  have e' : k = g := e
  subst e'
  rw [h] at hk
  cases hk
  exact hT rfl
theorem rep_secs (n : Nat) : Secs (List.replicate n zs) := fun s hs => by
  obtain ⟨_, rfl⟩ := List.mem_replicate.1 hs
  exact ⟨rfl, fun x hx => by simp [zs] at hx; omega⟩
theorem laid_rep (n : Nat) : laid [] n = ((List.replicate n zs).map cSec).flatten := by
  unfold laid
  rw [List.map_replicate]
  rfl
theorem make40 (W : World) (n : Nat) (hn : n ≤ 1000000) : (Instr.makeSlice 40 (.int .i64 n) (.int .i64 n)).run Try.prog W = .ok (.slice (some ⟨W.heap.size, 0, none⟩) n n) (W.alloc (.cells (laid [] n).toArray 58)) := by
  obtain ⟨i0, hi, hz0, hz1, hz2⟩ := info_parts info58
  have h := run_make (P := Try.prog) W 40 58 i0 _ Try.underlying40 hi hz0 .i64 .i64 (n : Int) (n : Int) (by omega) (by omega) (by rw [hz2]; omega) (by omega)
  rw [hz1, Int.toNat_natCast, made_secs] at h
  exact h
theorem info40 : (Try.prog.info? 40).map (fun i => (i.zero, i.size, i.bytes)) = some (some (.slice none 0 0), 1, 24) := by kernel_rfl
theorem make23 (W : World) (n : Nat) (hn : n ≤ 1000000) : (Instr.makeSlice 23 (.int .i64 n) (.int .i64 n)).run Try.prog W = .ok (.slice (some ⟨W.heap.size, 0, none⟩) n n) (W.alloc (.cells (madeCells #[.slice none 0 0] n) 40)) := by
  obtain ⟨i0, hi, hz0, hz1, hz2⟩ := info_parts info40
  have h := run_make (P := Try.prog) W 23 40 i0 (.slice none 0 0) Try.underlying23 hi hz0 .i64 .i64 n n (by omega) (by omega) (by rw [hz2]; omega) (by omega)
  rw [hz1] at h
  simp only [Int.toNat_natCast, Nat.mul_one] at h
  exact h
set_option maxHeartbeats 1000000 in
theorem newRow_any (n : Nat) (w : World) (hn : n ≤ 1000000) : Calls Try.prog 45 #[.int .i64 (n : Int)] w (MadeS w (List.replicate n zs)) := by
  have hmk := fun W => make40 W n hn
  have HO : Hid ((w.alloc (.cells (laid [] n).toArray 58)).ownsRow w.heap.size 58 8 (.slice (some ⟨w.heap.size, 0, none⟩) n n) (List.replicate n zs).length ((List.replicate n zs).map cSec).flatten) := hid (by
    have hfl := flat_cells (rep_secs n)
    rw [List.length_replicate] at hfl ⊢
    refine ⟨by rw [hfl]; omega, .inr ⟨w.heap.size, n, _, rfl, Nat.le_refl _, heap_alloc_new w _, Nat.le_refl _, by unfold maxLen; omega, by rw [laid_rep, List.size_toArray, hfl]; omega, ?_⟩⟩
    rw [laid_rep]
    exact List.take_of_length_le (by rw [hfl]; omega))
  have HB := hid (al1 w (.cells (laid [] n).toArray 58))
  go_enter Try.func45, Try.ntmps45
  go_wp2
  go_ret
  exact ⟨_, rfl, HO.out, HB.out⟩

/-- Volumes whose rows a call has made, each of its own. -/
def Rows (w : World) (base : Nat) (ys : List Vol) : Prop := (∀ y ∈ ys, Secs y.l ∧ w.ownsRow base 58 8 y.d y.l.length (y.l.map cSec).flatten) ∧ (ys.map (·.d)).Pairwise (fun a b => ∀ k, a.ownBlock = some k → b.ownBlock ≠ some k)
theorem rows_nil (w : World) (base : Nat) : Rows w base [] := ⟨fun y h => by (cases h), List.Pairwise.nil⟩
theorem rows_keep {w w' : World} {base : Nat} {ys : List Vol} (h : Rows w base ys) (hk : Keep 58 w w') : Rows w' base ys := ⟨fun y hy => ⟨(h.1 y hy).1, own_keep (h.1 y hy).2 hk⟩, h.2⟩
theorem rows_snoc {w w' : World} {base : Nat} {ys : List Vol} {y : Vol} (h : Rows w base ys) (hk : Keep 58 w w') (hs : Secs y.l) (ho : w'.ownsRow w.heap.size 58 8 y.d y.l.length (y.l.map cSec).flatten) (hb : base ≤ w.heap.size) : Rows w' base (ys ++ [y]) := by
  refine ⟨fun z hz => ?_, ?_⟩
  · rcases List.mem_append.1 hz with hz | hz
    · exact (rows_keep h hk).1 z hz
    · rw [List.mem_singleton] at hz
      subst hz
      exact ⟨hs, own_base ho hb⟩
  · rw [List.map_append]
    refine List.pairwise_append.2 ⟨h.2, by simp, fun a ha b hb' k e1 e2 => ?_⟩
    obtain ⟨a', ha', rfl⟩ := List.mem_map.1 ha
    rw [List.map_singleton, List.mem_singleton] at hb'
    subst hb'
    have h1 := ((h.1 a' ha').2.lt k e1).2
    have h2 := (ho.lt k e2).1
    omega
/-- An image that a call has made, in block g. -/
def OwnIm (w : World) (base g : Nat) (ys : List Vol) : Prop := w.heap[g]? = some (.cells (ys.map (·.d)).toArray 40) ∧ base ≤ g ∧ Rows w base ys
theorem img_of_own {w : World} {base g : Nat} {ys : List Vol} (h : OwnIm w base g ys) (hl : ys.length ≤ 1000000) : Img w (.slice (some ⟨g, 0, none⟩) ys.length ys.length) ys := by
  refine ⟨fun y hy => ⟨sec_of_own (h.2.2.1 y hy).2 (h.2.2.1 y hy).1, ownAny_nilOk (h.2.2.1 y hy).2⟩, ?_⟩
  have := arr_row h.1 (by rw [List.length_map]) (by unfold maxLen; omega)
  rw [List.map_map] at this
  exact this
/-- What a call that makes an image answers. -/
def MadeM (w : World) (L : List (List Sect)) (e : Ending) (w' : World) : Prop := ∃ g ys, e = .returned (.slice (some ⟨g, 0, none⟩) ys.length ys.length) ∧ con ys = L ∧ OwnIm w' w.heap.size g ys ∧ Below w.heap.size w w'
theorem con_snoc (ys : List Vol) (y : Vol) : con (ys ++ [y]) = con ys ++ [y.l] := by unfold con; rw [List.map_append]; rfl
set_option maxHeartbeats 4000000 in
set_option maxRecDepth 100000 in
theorem mapped44_any (l : List Int) (v : Value) (w : World) (hv : Arr w v 1 (l.map cInt)) (hl : l.length ≤ 1000) (hz : ∀ x ∈ l, 1 ≤ x ∧ x ≤ 4096) :
    Calls Try.prog 44 #[v, .func (.func 45) #[] #[]] w (MadeM w (l.map fun x => List.replicate x.toNat zs)) := by
  obtain ⟨A, c, rfl⟩ := arr_form hv
  obtain ⟨_, hc1, hc2⟩ := arr_cap hv
  rw [List.length_map] at hc1 ⊢
  have HV := hid hv
  rw [List.length_map] at HV
  have HZ := hid hz
  obtain ⟨L, hL⟩ : ∃ L, (l.map fun x => List.replicate x.toNat zs) = L := ⟨_, rfl⟩
  rw [hL]
  have HL := hid hL
  obtain ⟨n, hn⟩ : ∃ n, l.length = n := ⟨_, rfl⟩
  have HN := hid hn
  rw [hn] at HV hc1 hl ⊢
  have HLL : Hid (L.length = n) := hid (by rw [← hL, List.length_map, hn])
  clear hv hn hL hz
  have hmk := fun W => make23 W n (by omega)
  obtain ⟨W1, hW1⟩ : ∃ W1, w.alloc (.cells (madeCells #[.slice none 0 0] n) 40) = W1 := ⟨_, rfl⟩
  have HB1 : Hid (Below w.heap.size w W1) := hid (by rw [← hW1]; exact al1 _ _)
  have HG1 : Hid (W1.heap[w.heap.size]? = some (.cells (fld [] n (.slice none 0 0)).toArray 40)) := hid (by rw [← hW1, made_one]; exact heap_alloc_new w _)
  go_enter Try.func44, Try.ntmps44
  go_wp2_with fail
  clear hW1 hmk
  go_loopw [13] (fun i wr => ∃ (k : Nat) (ys : List Vol), k ≤ n ∧ i = .int .i64 (k : Int) ∧ Hid (ys.length = k) ∧ Hid (con ys = L.take k) ∧ Hid (wr.heap[w.heap.size]? = some (.cells (fld (ys.map (·.d)) (n - k) (.slice none 0 0)).toArray 40)) ∧ Hid (Rows wr w.heap.size ys) ∧ Hid (Below w.heap.size w wr)) (fun i _ => n - (Go.RowKit.intOf i).toNat)
  case atStart => exact ⟨0, [], Nat.zero_le _, rfl, hid rfl, hid rfl, HG1, hid (rows_nil _ _), HB1⟩
  case round =>
    clear HG1 HB1
    obtain ⟨k, ys, hk, rfl, HK, HCN, HG, HR, HB⟩ := hrel
    by_cases hkn : k < n
    · have hzw := HB.out.size
      have hlt := box_lt HG.out
      have hkc : (k : Int) < (n : Int) := by omega
      obtain ⟨x, hx⟩ : ∃ x, l[k]? = some x := ⟨l[k]'(by rw [HN.out]; exact hkn), List.getElem?_eq_getElem _⟩
      obtain ⟨hx1, hx2⟩ := HZ.out x (List.mem_of_getElem? hx)
      obtain ⟨s, rfl⟩ := Int.eq_ofNat_of_zero_le (show 0 ≤ x by omega)
      have HLk : Hid (L[k]? = some (List.replicate s zs)) := hid (by rw [← HL.out, List.getElem?_map, hx]; rfl)
      obtain ⟨b, off, hbA, hb, hcell⟩ := arr_at1 HV.out (by rw [List.length_map, HN.out]; omega)
      subst hbA
      have hcx : wr.cell? ⟨b, off + k, none⟩ = some (.int .i64 (s : Int)) := by
        have h := hcell k _ (by rw [List.getElem?_map, hx]; rfl) 0 _ rfl
        rw [Nat.mul_one, Nat.add_zero] at h
        exact (HB.out.cell (p := ⟨b, off + k, none⟩) hb).trans h
      obtain ⟨t, ht⟩ : ∃ t, List.replicate s zs = t := ⟨_, rfl⟩
      have HC := hid (newRow_any s wr (by omega))
      have HTS := hid (rep_secs s)
      rw [ht] at HC HLk HTS
      clear hcell hx
      go_wp2_with fail
      refine HC.out.mono ?_
      rintro e w2 ⟨v2, rfl, ho2, hb2⟩
      obtain ⟨m, hm⟩ : ∃ m, n - k = m + 1 := ⟨n - k - 1, by omega⟩
      have hkl : (ys.map (·.d)).length = k := by rw [List.length_map, HK.out]
      have hg2 := (hb2.block w.heap.size hlt).trans HG.out
      rw [hm] at hg2
      have hzc : w2.cell? ⟨w.heap.size, k, none⟩ = some (.slice none 0 0) := by
        rw [cell_of_row _ _ k _ _ _ hg2]
        have h := fld_at (ys.map (·.d)) m (.slice none 0 0)
        rw [hkl] at h
        simpa using h
      have hfr : w2.frozen? ⟨w.heap.size, k, none⟩ = false := box_fr hg2 k
      have HG3 := hid (row_set hg2 (i := k) v2)
      have HST : Hid ((fld (ys.map (·.d)) (m + 1) (.slice none 0 0)).set k v2 = fld ((ys ++ [(⟨v2, t⟩ : Vol)]).map (·.d)) (n - (k + 1)) (.slice none 0 0)) := hid (by
        have h := fld_set (ys.map (·.d)) m (.slice none 0 0) v2
        rw [hkl] at h
        rw [h, List.map_append, show n - (k + 1) = m by omega]
        rfl)
      rw [HST.out] at HG3
      have HR3 := hid (rows_keep (rows_snoc (y := ⟨v2, t⟩) HR.out (keep_below hb2) HTS.out ho2 hzw) (keep_setc (i := k) (v := v2) hg2 (by decide)))
      have HB3 := hid ((HB.out.trans (hb2.mono hzw)).setCell (p := ⟨w.heap.size, k, none⟩) (Nat.le_refl _) v2)
      have HCN3 : Hid (con (ys ++ [⟨v2, t⟩]) = L.take (k + 1)) := hid (by rw [con_snoc, HCN.out, take_snoc HLk.out])
      have HK3 : Hid ((ys ++ [(⟨v2, t⟩ : Vol)]).length = k + 1) := hid (by rw [List.length_append, HK.out]; rfl)
      obtain ⟨vA, vc, rfl⟩ := ownAny_form ho2
      clear hg2 hm hkl HST ho2 hb2 HC HG HR HB
      go_wp2_with fail
      go_roundw
      case rel => exact ⟨k + 1, _, by omega, by go_num, HK3, HCN3, HG3, HR3, HB3⟩
      case measure => simp [Go.RowKit.intOf]; omega
    · obtain rfl : k = n := by omega
      go_wp2
      go_ret
      have h := HG.out
      rw [Nat.sub_self, fld_zero] at h
      refine ⟨w.heap.size, ys, by rw [HK.out]; rfl, ?_, ⟨h, Nat.le_refl _, HR.out⟩, HB.out⟩
      rw [HCN.out, List.take_of_length_le (by rw [HLL.out]; exact Nat.le_refl _)]
set_option maxHeartbeats 4000000 in
set_option maxRecDepth 100000 in
theorem mapped54_any (xs : List Vol) (v : Value) (w : World) (hv : Img w v xs) (hl : xs.length ≤ 1000) (hz : ∀ x ∈ xs, x.l.length ≤ 1000000) :
    Calls Try.prog 54 #[v, .func (.func 55) #[] #[]] w (MadeM w (con xs)) := by
  obtain ⟨A, c, rfl⟩ := img_form hv
  obtain ⟨_, hc1, hc2⟩ := arr_cap hv.2
  have HV := hid hv
  have HZ := hid hz
  obtain ⟨L, hL⟩ : ∃ L, con xs = L := ⟨_, rfl⟩
  rw [hL]
  have HL := hid hL
  obtain ⟨n, hn⟩ : ∃ n, xs.length = n := ⟨_, rfl⟩
  have HN := hid hn
  rw [hn] at HV hc1 hl ⊢
  have HLL : Hid (L.length = n) := hid (by rw [← hL, con_len, hn])
  clear hv hn hL hz
  have hmk := fun W => make23 W n (by omega)
  obtain ⟨W1, hW1⟩ : ∃ W1, w.alloc (.cells (madeCells #[.slice none 0 0] n) 40) = W1 := ⟨_, rfl⟩
  have HB1 : Hid (Below w.heap.size w W1) := hid (by rw [← hW1]; exact al1 _ _)
  have HG1 : Hid (W1.heap[w.heap.size]? = some (.cells (fld [] n (.slice none 0 0)).toArray 40)) := hid (by rw [← hW1, made_one]; exact heap_alloc_new w _)
  go_enter Try.func54, Try.ntmps54
  go_wp2_with fail
  clear hW1 hmk
  go_loopw [13] (fun i wr => ∃ (k : Nat) (ys : List Vol), k ≤ n ∧ i = .int .i64 (k : Int) ∧ Hid (ys.length = k) ∧ Hid (con ys = L.take k) ∧ Hid (wr.heap[w.heap.size]? = some (.cells (fld (ys.map (·.d)) (n - k) (.slice none 0 0)).toArray 40)) ∧ Hid (Rows wr w.heap.size ys) ∧ Hid (Below w.heap.size w wr)) (fun i _ => n - (Go.RowKit.intOf i).toNat)
  case atStart => exact ⟨0, [], Nat.zero_le _, rfl, hid rfl, hid rfl, HG1, hid (rows_nil _ _), HB1⟩
  case round =>
    clear HG1 HB1
    obtain ⟨k, ys, hk, rfl, HK, HCN, HG, HR, HB⟩ := hrel
    by_cases hkn : k < n
    · have hzw := HB.out.size
      have hlt := box_lt HG.out
      have hkc : (k : Int) < (n : Int) := by omega
      obtain ⟨x, hx⟩ : ∃ x, xs[k]? = some x := ⟨xs[k]'(by rw [HN.out]; exact hkn), List.getElem?_eq_getElem _⟩
      have HLk : Hid (L[k]? = some x.l) := hid (by rw [← HL.out]; unfold con; rw [List.getElem?_map, hx]; rfl)
      obtain ⟨b, off, hbA, hb, hcell⟩ := arr_at1 HV.out.2 (by rw [List.length_map, HN.out]; omega)
      subst hbA
      have hxm := List.mem_of_getElem? hx
      have hsx := (HV.out.1 x hxm).1
      have hnx := (HV.out.1 x hxm).2
      have hcx : wr.cell? ⟨b, off + k, none⟩ = some x.d := by
        have h := hcell k _ (by rw [List.getElem?_map, hx]; rfl) 0 _ rfl
        rw [Nat.mul_one, Nat.add_zero] at h
        exact (HB.out.cell (p := ⟨b, off + k, none⟩) hb).trans h
      have HC := hid (clone_any x.l x.d wr (hsx.below HB.out) hnx (HZ.out x hxm))
      obtain ⟨dA, dc, hd⟩ := sec_form hsx
      have HTS := hid hsx.1
      rw [hd] at hcx HC
      obtain ⟨t, ht⟩ : ∃ t, x.l = t := ⟨_, rfl⟩
      rw [ht] at HC HLk HTS hcx
      clear hsx hnx hxm hd
      clear hcell hx
      go_wp2_with fail
      refine HC.out.mono ?_
      rintro e w2 ⟨v2, rfl, ho2, hb2⟩
      obtain ⟨m, hm⟩ : ∃ m, n - k = m + 1 := ⟨n - k - 1, by omega⟩
      have hkl : (ys.map (·.d)).length = k := by rw [List.length_map, HK.out]
      have hg2 := (hb2.block w.heap.size hlt).trans HG.out
      rw [hm] at hg2
      have hzc : w2.cell? ⟨w.heap.size, k, none⟩ = some (.slice none 0 0) := by
        rw [cell_of_row _ _ k _ _ _ hg2]
        have h := fld_at (ys.map (·.d)) m (.slice none 0 0)
        rw [hkl] at h
        simpa using h
      have hfr : w2.frozen? ⟨w.heap.size, k, none⟩ = false := box_fr hg2 k
      have HG3 := hid (row_set hg2 (i := k) v2)
      have HST : Hid ((fld (ys.map (·.d)) (m + 1) (.slice none 0 0)).set k v2 = fld ((ys ++ [(⟨v2, t⟩ : Vol)]).map (·.d)) (n - (k + 1)) (.slice none 0 0)) := hid (by
        have h := fld_set (ys.map (·.d)) m (.slice none 0 0) v2
        rw [hkl] at h
        rw [h, List.map_append, show n - (k + 1) = m by omega]
        rfl)
      rw [HST.out] at HG3
      have HR3 := hid (rows_keep (rows_snoc (y := ⟨v2, t⟩) HR.out (keep_below hb2) HTS.out ho2 hzw) (keep_setc (i := k) (v := v2) hg2 (by decide)))
      have HB3 := hid ((HB.out.trans (hb2.mono hzw)).setCell (p := ⟨w.heap.size, k, none⟩) (Nat.le_refl _) v2)
      have HCN3 : Hid (con (ys ++ [⟨v2, t⟩]) = L.take (k + 1)) := hid (by rw [con_snoc, HCN.out, take_snoc HLk.out])
      have HK3 : Hid ((ys ++ [(⟨v2, t⟩ : Vol)]).length = k + 1) := hid (by rw [List.length_append, HK.out]; rfl)
      obtain ⟨vA, vc, rfl⟩ := ownAny_form ho2
      clear hg2 hm hkl HST ho2 hb2 HC HG HR HB
      go_wp2_with fail
      go_roundw
      case rel => exact ⟨k + 1, _, by omega, by go_num, HK3, HCN3, HG3, HR3, HB3⟩
      case measure => simp [Go.RowKit.intOf]; omega
    · obtain rfl : k = n := by omega
      go_wp2
      go_ret
      have h := HG.out
      rw [Nat.sub_self, fld_zero] at h
      refine ⟨w.heap.size, ys, by rw [HK.out]; rfl, ?_, ⟨h, Nat.le_refl _, HR.out⟩, HB.out⟩
      rw [HCN.out, List.take_of_length_le (by rw [HLL.out]; exact Nat.le_refl _)]
end Go.Proofs.Ytbcnikmhodkbfaa
