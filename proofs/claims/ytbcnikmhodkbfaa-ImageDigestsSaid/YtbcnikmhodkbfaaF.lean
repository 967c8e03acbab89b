/- Fits. -/
import Derived.Test.YtbcnikmhodkbfaaE
namespace Go.Proofs.Ytbcnikmhodkbfaa
open Go.RowKit Go.Lib

/-- The error of a write of m sectors from s on to volume v. -/
def fitE (L : List (List Sect)) (v s : Int) (m : Nat) : Int :=
  if chkS (siz L) ≠ 0 then chkS (siz L) else if ¬ (0 ≤ v ∧ v < L.length) then 7 else if m = 0 then 1 else if insB (L.getD v.toNat []).length s m = false then 2 else 0
theorem siz_len (L : List (List Sect)) : (siz L).length = L.length := by unfold siz; rw [List.length_map]
theorem con_len (xs : List Vol) : (con xs).length = xs.length := by unfold con; rw [List.length_map]
/-- Of images that are in order. -/
theorem chk_ok {L : List (List Sect)} (h : chkS (siz L) = 0) : 1 ≤ L.length ∧ L.length ≤ 8 ∧ ∀ l ∈ L, 1 ≤ l.length ∧ l.length ≤ 4096 := by
  unfold chkS at h
  rw [siz_len] at h
  split at h
  · cases h
  · split at h
    · rename_i h1 h2
      refine ⟨by omega, by omega, fun l hl => ?_⟩
      have := List.all_eq_true.1 h2 (l.length : Int) (by unfold siz; exact List.mem_map.2 ⟨l, hl, rfl⟩)
      have := of_decide_eq_true this
      omega
    · cases h
def R64 (x : Int) : Prop := -9223372036854775808 ≤ x ∧ x ≤ 9223372036854775807
set_option maxHeartbeats 4000000 in
set_option maxRecDepth 100000 in
theorem fits_any (xs : List Vol) (v : Value) (vo s : Int) (D : Option Addr) (m c : Nat) (w : World) (hv : Img w v xs) (hl : xs.length ≤ 1000) (hm : m ≤ 9223372036854775807) (hs : R64 s) :
    Calls Try.prog 21 #[v, .agg #[.int .i64 vo, .int .i64 s, .slice D m c]] w fun e w' => e = .returned (.int .i64 (fitE (con xs) vo s m)) ∧ Below w.heap.size w w' := by
  obtain ⟨A, ca, rfl⟩ := img_form hv
  obtain ⟨_, hc1, hc2⟩ := arr_cap hv.2
  obtain ⟨B, hB⟩ : ∃ B, w.alloc (.cells #[.int .i64 vo, .int .i64 s, .slice D m c] 42) = B := ⟨_, rfl⟩
  have hb : Below w.heap.size w B := by rw [← hB]; exact al1 _ _
  have hx := heap_alloc_new w (.cells #[.int .i64 vo, .int .i64 s, .slice D m c] 42)
  rw [hB] at hx
  have hz : w.heap.size < B.heap.size := box_lt hx
  have HC := hid (check_any xs _ B (hv.below hb) hl)
  have HB := hid hb
  have HX := hid hx
  have HV := hid hv
  clear hb hx hv
  obtain ⟨ck, hck⟩ : ∃ ck, chkS (siz (con xs)) = ck := ⟨_, rfl⟩
  rw [hck] at HC
  have HCK := hid hck
  obtain ⟨n, hn⟩ : ∃ n, xs.length = n := ⟨_, rfl⟩
  have HN := hid hn
  rw [hn] at HV HC hc1 hl ⊢
  clear hck hn
  go_enter Try.func21, Try.ntmps21
  go_wp2_with fail
  refine HC.out.mono ?_
  rintro e w2 ⟨rfl, hb2⟩
  have HB2 := hid (below_both HB.out hb2)
  have hx2 := (hb2.block w.heap.size hz).trans HX.out
  obtain ⟨g, hg⟩ : ∃ g, w.heap.size = g := ⟨_, rfl⟩
  rw [hg] at hx2 ⊢
  have c0 : w2.cell? ⟨g, 0, none⟩ = some (.int .i64 vo) := cell_of_row _ _ 0 _ _ _ hx2
  have c1 : w2.cell? ⟨g, 1, none⟩ = some (.int .i64 s) := cell_of_row _ _ 1 _ _ _ hx2
  have c2 : w2.cell? ⟨g, 2, none⟩ = some (.slice D m c) := cell_of_row _ _ 2 _ _ _ hx2
  clear hb2 hx2 HC HX HB hB hg hz
  by_cases hk : ck = 0
  · subst hk
    by_cases hv : 0 ≤ vo ∧ vo < (n : Int)
    · obtain ⟨k, rfl⟩ := Int.eq_ofNat_of_zero_le hv.1
      have hkn : k < n := by omega
      have hex := exists_any A n ca (k : Int) w2
      rw [decide_eq_true hv] at hex
      have HEX := hid hex
      obtain ⟨x, hxk⟩ : ∃ x, xs[k]? = some x := ⟨xs[k]'(by rw [HN.out]; exact hkn), List.getElem?_eq_getElem _⟩
      obtain ⟨b, off, hbA, hbl, hcell⟩ := arr_at1 HV.out.2 (by rw [List.length_map, HN.out]; omega)
      subst hbA
      obtain ⟨dA, dc, hd⟩ := sec_form (HV.out.1 x (List.mem_of_getElem? hxk)).1
      have hx4 : x.l.length ≤ 4096 := ((chk_ok HCK.out).2.2 x.l (by unfold con; exact List.mem_map.2 ⟨x, List.mem_of_getElem? hxk, rfl⟩)).2
      have hgd : ((con xs).getD ((k : Nat) : Int).toNat []) = x.l := by
        unfold con
        rw [Int.toNat_natCast, List.getD_eq_getElem?_getD, List.getElem?_map, hxk]
        rfl
      have HF : Hid (fitE (con xs) (k : Int) s m = if m = 0 then 1 else if insB x.l.length s m = false then 2 else 0) := hid (by
        unfold fitE
        rw [HCK.out, if_neg (by decide), if_neg (by rw [con_len, HN.out]; exact fun h => h hv), hgd])
      have hcx : w2.cell? ⟨b, off + k, none⟩ = some (.slice dA x.l.length dc) := by
        have h := hcell k _ (by rw [List.getElem?_map, hxk]; rfl) 0 _ rfl
        rw [Nat.mul_one, Nat.add_zero, hd] at h
        exact (HB2.out.cell (p := ⟨b, off + k, none⟩) hbl).trans h
      obtain ⟨X, hX⟩ : ∃ X, x.l.length = X := ⟨_, rfl⟩
      rw [hX] at HF hcx hx4
      have hkc : (k : Int) < (n : Int) := by omega
      clear hcell hd hxk hgd hex hv hX
      by_cases hm0 : m = 0
      · subst hm0
        have HF2 : Hid (fitE (con xs) (k : Int) s 0 = 1) := hid (by rw [HF.out, if_pos rfl])
        go_wp2_with fail
        refine HEX.out.mono ?_
        rintro e w3 ⟨rfl, rfl⟩
        go_wp2
        go_ret
        exact ⟨ret_eq HF2.out.symm, HB2.out⟩
      · have d1 : ((m : Int) == 0) = false := by rw [beq_eq_false_iff_ne]; omega
        have HIN := hid (fun W => inside_any dA X dc s (m : Int) W (by omega) hs.2)
        obtain ⟨q, hq⟩ : ∃ q, insB X s m = q := ⟨_, rfl⟩
        rw [hq] at HIN
        have HF2 : Hid (fitE (con xs) (k : Int) s m = if q = false then 2 else 0) := hid (by rw [HF.out, if_neg hm0, hq])
        clear hq hm0
        go_wp2_with fail
        refine HEX.out.mono ?_
        rintro e w3 ⟨rfl, rfl⟩
        rcases q with _ | _
        · go_wp2_with fail
          go_quiet ((go_at_call 52; refine Calls.quiet_of_same ((HIN.out _).mono fun _ _ ⟨h1, h2⟩ => ⟨h1, h2.symm⟩)))
          go_wp2
          go_ret
          exact ⟨ret_eq HF2.out.symm, ⟨HB2.out.os, HB2.out.tape, HB2.out.output, HB2.out.size, HB2.out.block⟩⟩
        · go_wp2_with fail
          go_quiet ((go_at_call 52; refine Calls.quiet_of_same ((HIN.out _).mono fun _ _ ⟨h1, h2⟩ => ⟨h1, h2.symm⟩)))
          go_wp2
          go_ret
          exact ⟨ret_eq HF2.out.symm, ⟨HB2.out.os, HB2.out.tape, HB2.out.output, HB2.out.size, HB2.out.block⟩⟩
    · have hex := exists_any A n ca vo w2
      rw [decide_eq_false hv] at hex
      have HEX := hid hex
      have HF : Hid (fitE (con xs) vo s m = 7) := hid (by
        unfold fitE
        rw [HCK.out, if_neg (by decide), if_pos (by rw [con_len, HN.out]; exact hv)])
      clear hex hv
      go_wp2_with fail
      refine HEX.out.mono ?_
      rintro e w3 ⟨rfl, rfl⟩
      go_wp2
      go_ret
      exact ⟨ret_eq HF.out.symm, HB2.out⟩
  · have d1 : (ck != 0) = true := by simpa using hk
    have HF : Hid (fitE (con xs) vo s m = ck) := hid (by unfold fitE; rw [HCK.out, if_pos hk])
    clear hk
    go_wp2
    go_ret
    exact ⟨ret_eq HF.out.symm, HB2.out⟩
end Go.Proofs.Ytbcnikmhodkbfaa
