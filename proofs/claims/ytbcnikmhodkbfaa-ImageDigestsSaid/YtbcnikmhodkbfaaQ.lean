/- Read. -/
import Derived.Test.YtbcnikmhodkbfaaN
namespace Go.Proofs.Ytbcnikmhodkbfaa
open Go.RowKit Go.Lib

/-- The error of a read of m sectors from s on of volume v; what it reads. -/
def redE (L : List (List Sect)) (v s m : Int) : Int :=
  if chkS (siz L) ≠ 0 then chkS (siz L) else if ¬ (0 ≤ v ∧ v < L.length) then 7 else if insB (L.getD v.toNat []).length s m = false then 2 else 0
def redL (L : List (List Sect)) (v s m : Int) : List Sect := ((L.getD v.toNat []).drop s.toNat).take m.toNat
/-- What Read answers. -/
def ReadQ (w : World) (L : List (List Sect)) (v s m : Int) (e : Ending) (w' : World) : Prop :=
  Below w.heap.size w w' ∧ ((redE L v s m ≠ 0 ∧ e = .returned (.tuple #[.slice none 0 0, .int .i64 (redE L v s m)])) ∨ (redE L v s m = 0 ∧ ∃ r, e = .returned (.tuple #[r, .int .i64 0]) ∧ Secs (redL L v s m) ∧ w'.ownsRow w.heap.size 58 8 r (redL L v s m).length ((redL L v s m).map cSec).flatten))
set_option maxHeartbeats 4000000 in
set_option maxRecDepth 100000 in
theorem read_any (xs : List Vol) (v : Value) (vo s m : Int) (w : World) (hv : Img w v xs) (hl : xs.length ≤ 1000) (hs : R64 s) :
    Calls Try.prog 25 #[v, .int .i64 vo, .agg #[.int .i64 s, .int .i64 m]] w (ReadQ w (con xs) vo s m) := by
  obtain ⟨A, ca, rfl⟩ := img_form hv
  obtain ⟨_, hc1, hc2⟩ := arr_cap hv.2
  obtain ⟨B, hB⟩ : ∃ B, w.alloc (.cells #[.int .i64 s, .int .i64 m] 51) = B := ⟨_, rfl⟩
  have hb : Below w.heap.size w B := by rw [← hB]; exact al1 _ _
  have hx := heap_alloc_new w (.cells #[.int .i64 s, .int .i64 m] 51)
  rw [hB] at hx
  have hz : w.heap.size < B.heap.size := box_lt hx
  have HC := hid (check_any xs _ B (hv.below hb) hl)
  have HB := hid hb
  have HX := hid hx
  have HV := hid hv
  clear hb hx hv
  obtain ⟨ck, hck⟩ : ∃ ck, chkS (siz (con xs)) = ck := ⟨_, rfl⟩
  rw [hck] at HC
  have HCK := hid hck
  obtain ⟨n, hn⟩ : ∃ n, xs.length = n := ⟨_, rfl⟩
  have HN := hid hn
  rw [hn] at HV HC hc1 hl ⊢
  clear hck hn
  go_enter Try.func25, Try.ntmps25
  go_wp2_with fail
  refine HC.out.mono ?_
  rintro e w2 ⟨rfl, hb2⟩
  have HB2 := hid (below_both HB.out hb2)
  have hx2 := (hb2.block w.heap.size hz).trans HX.out
  obtain ⟨g, hg⟩ : ∃ g, w.heap.size = g := ⟨_, rfl⟩
  rw [hg] at hx2 ⊢
  have c0 : w2.cell? ⟨g, 0, none⟩ = some (.int .i64 s) := cell_of_row _ _ 0 _ _ _ hx2
  have c1 : w2.cell? ⟨g, 1, none⟩ = some (.int .i64 m) := cell_of_row _ _ 1 _ _ _ hx2
  clear hb2 hx2 HC HX HB hB hg hz
  by_cases hk : ck = 0
  · subst hk
    by_cases hv : 0 ≤ vo ∧ vo < (n : Int)
    · obtain ⟨k, rfl⟩ := Int.eq_ofNat_of_zero_le hv.1
      have hkn : k < n := by omega
      have hex := exists_any A n ca (k : Int) w2
      rw [decide_eq_true hv] at hex
      have HEX := hid hex
      obtain ⟨x, hxk⟩ : ∃ x, xs[k]? = some x := ⟨xs[k]'(by rw [HN.out]; exact hkn), List.getElem?_eq_getElem _⟩
      obtain ⟨b, off, hbA, hbl, hcell⟩ := arr_at1 HV.out.2 (by rw [List.length_map, HN.out]; omega)
      subst hbA
      have hxS := HV.out.1 x (List.mem_of_getElem? hxk)
      have HXS := hid hxS
      obtain ⟨dA, dc, hd⟩ := sec_form hxS.1
      have hx4 : x.l.length ≤ 4096 := ((chk_ok HCK.out).2.2 x.l (by unfold con; exact List.mem_map.2 ⟨x, List.mem_of_getElem? hxk, rfl⟩)).2
      have hgd : ((con xs).getD ((k : Nat) : Int).toNat []) = x.l := by
        unfold con
        rw [Int.toNat_natCast, List.getD_eq_getElem?_getD, List.getElem?_map, hxk]
        rfl
      have HF : Hid (redE (con xs) (k : Int) s m = if insB x.l.length s m = false then 2 else 0) := hid (by
        unfold redE
        rw [HCK.out, if_neg (by decide), if_neg (by rw [con_len, HN.out]; exact fun h => h hv), hgd])
      have HRL : Hid (redL (con xs) (k : Int) s m = (x.l.drop s.toNat).take m.toNat) := hid (by unfold redL; rw [hgd])
      have hcx : w2.cell? ⟨b, off + k, none⟩ = some (.slice dA x.l.length dc) := by
        have h := hcell k _ (by rw [List.getElem?_map, hxk]; rfl) 0 _ rfl
        rw [Nat.mul_one, Nat.add_zero, hd] at h
        exact (HB2.out.cell (p := ⟨b, off + k, none⟩) hbl).trans h
      rw [hd] at HXS
      obtain ⟨X, hX⟩ : ∃ X, x.l.length = X := ⟨_, rfl⟩
      have HXL := hid hX
      rw [hX] at HF hcx hx4 HXS
      have hkc : (k : Int) < (n : Int) := by omega
      clear hcell hd hxk hgd hex hv hX hxS
      have HIN := hid (fun W => inside_any dA X dc s m W (by omega) hs.2)
      obtain ⟨q, hq⟩ : ∃ q, insB X s m = q := ⟨_, rfl⟩
      rw [hq] at HIN
      have HF2 : Hid (redE (con xs) (k : Int) s m = if q = false then 2 else 0) := hid (by rw [HF.out, hq])
      rcases q with _ | _
      · clear hq
        go_wp2_with fail
        refine HEX.out.mono ?_
        rintro e w3 ⟨rfl, rfl⟩
        go_wp2_with fail
        go_quiet ((go_at_call 52; refine Calls.quiet_of_same ((HIN.out _).mono fun _ _ ⟨h1, h2⟩ => ⟨h1, h2.symm⟩)))
        go_wp2
        refine bodyPost_ret (v := .tuple #[.slice none 0 0, .int .i64 2]) (by simp [results, Try.results25, go_sem]) rfl ?_
        exact ⟨⟨HB2.out.os, HB2.out.tape, HB2.out.output, HB2.out.size, HB2.out.block⟩, .inl ⟨by rw [HF2.out]; decide, by rw [HF2.out]; rfl⟩⟩
      · have hq' := of_decide_eq_true hq
        obtain ⟨sn, rfl⟩ := Int.eq_ofNat_of_zero_le hq'.1
        obtain ⟨mn, rfl⟩ := Int.eq_ofNat_of_zero_le hq'.2.1
        have hsm : sn + mn ≤ X := by omega
        have HCT : Hid (∀ W, Below w.heap.size w W → Calls Try.prog 56 #[.slice dA X dc, .agg #[.int .i64 (sn : Int), .int .i64 (mn : Int)]] W (MadeS W ((x.l.drop sn).take mn))) := hid (fun W hb => by
          have h := HXS.out
          exact contents_any x.l _ sn mn W (h.1.below hb) h.2 (by rw [HXL.out]; omega) (by rw [HXL.out]; exact hsm))
        have HSX : Hid (Secs ((x.l.drop sn).take mn)) := hid (fun t ht => HXS.out.1.1 t (List.mem_of_mem_drop (List.mem_of_mem_take ht)))
        clear hq hq'
        go_wp2_with fail
        refine HEX.out.mono ?_
        rintro e w3 ⟨rfl, rfl⟩
        go_wp2_with fail
        go_quiet ((go_at_call 52; refine Calls.quiet_of_same ((HIN.out _).mono fun _ _ ⟨h1, h2⟩ => ⟨h1, h2.symm⟩)))
        go_wp2_with fail
        have HB3 : Hid (∀ q, Below w.heap.size w (w2.drewN q)) := hid (fun q => ⟨HB2.out.os, HB2.out.tape, HB2.out.output, HB2.out.size, HB2.out.block⟩)
        go_region_law (first | (go_simp; go_at_call 56; refine (HCT.out _ (HB3.out _)).mono ?_; rintro e w6 ⟨v6, rfl, ho6, hb6⟩; have HO6 := hid ho6; have HB6 := hid hb6; clear ho6 hb6))
        all_goals
          go_wp2
          refine bodyPost_ret (v := .tuple #[v6, .int .i64 0]) (by simp [results, Try.results25, go_sem]) rfl ?_
          exact ⟨below_both (HB3.out _) HB6.out, .inr ⟨HF2.out, v6, rfl, by rw [HRL.out]; exact HSX.out, by rw [HRL.out]; exact own_base HO6.out (HB3.out _).size⟩⟩
    · have hex := exists_any A n ca vo w2
      rw [decide_eq_false hv] at hex
      have HEX := hid hex
      have HF : Hid (redE (con xs) vo s m = 7) := hid (by
        unfold redE
        rw [HCK.out, if_neg (by decide), if_pos (by rw [con_len, HN.out]; exact hv)])
      clear hex hv
      go_wp2_with fail
      refine HEX.out.mono ?_
      rintro e w3 ⟨rfl, rfl⟩
      go_wp2
      refine bodyPost_ret (v := .tuple #[.slice none 0 0, .int .i64 7]) (by simp [results, Try.results25, go_sem]) rfl ?_
      exact ⟨HB2.out, .inl ⟨by rw [HF.out]; decide, by rw [HF.out]⟩⟩
  · have d1 : (ck != 0) = true := by simpa using hk
    have HF : Hid (redE (con xs) vo s m = ck) := hid (by unfold redE; rw [HCK.out, if_pos hk])
    have HK := hid hk
    clear hk
    go_wp2
    refine bodyPost_ret (v := .tuple #[.slice none 0 0, .int .i64 ck]) (by simp [results, Try.results25, go_sem]) rfl ?_
    exact ⟨HB2.out, .inl ⟨by rw [HF.out]; exact HK.out, by rw [HF.out]⟩⟩
end Go.Proofs.Ytbcnikmhodkbfaa
