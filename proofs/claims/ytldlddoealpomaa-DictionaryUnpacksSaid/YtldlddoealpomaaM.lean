/- The decoder's token. -/
import Derived.Test.YtldlddoealpomaaL
namespace Go.Proofs.Ytldlddoealpomaa
open Go.RowKit Go.Lib

theorem tok_cons (t : List Nat) (room x : Nat) (r : List Nat) : tok t room (x :: r) = if x = 0 then .error 3 else if x < 128 then lit x t room r else mat (x - 124) t room r := rfl
set_option maxHeartbeats 4000000 in
set_option maxRecDepth 100000 in
theorem token_any (t : List Nat) (room x : Nat) (r : List Nat) (g base : Nat) (w0 w : World) (hb0 : Below w0.heap.size w0 w) (hd : Dc w0 w g base t room (x :: r)) (hw0 : w0.heap.size ≤ base) (hbg : base ≤ g) (ht : t.length ≤ 900000000000) (hl : r.length ≤ 800000000000) (hr : room ≤ 9223372036854775807) (h8 : B8 t) :
    Calls Try.prog 30 #[.pointer (some ⟨g, 0, none⟩)] w (DcQ w0 w g base (tok t room (x :: r))) := by
  obtain ⟨vt, vr, hb, ho, hs, hns⟩ := hd
  obtain ⟨A, c, rfl⟩ := byt_form hs
  obtain ⟨b, off, rfl, hcx⟩ : ∃ b off, A = some ⟨b, off, none⟩ ∧ w.cell? ⟨b, off, none⟩ = some (.int .u8 (x : Int)) := by
    obtain ⟨_, A', c', e1, h1, h2, b, off, hA, hc⟩ := hs
    injection e1 with e1 _ _
    obtain ⟨hA1, hlt⟩ := hA (by simp)
    rw [hA1] at e1
    exact ⟨b, off, e1, (hb0.cell (p := ⟨b, off, none⟩) hlt).trans (hc 0 x rfl)⟩
  have hcc : r.length + 1 ≤ c := byt_cap hs
  have hx8 : x < 256 := hs.1 x (by simp)
  have HF : Hid (Byt w0 (.slice (fromA (some ⟨b, off, none⟩) c 1) r.length (c - 1)) r) := hid (byt_from (k := 1) hs (by simp))
  have c2 : w.cell? ⟨g, 2, none⟩ = some (.slice (some ⟨b, off, none⟩) (r.length + 1) c) := cell_of_row _ _ 2 _ _ _ hb
  have f2 := box_fr hb 2
  have HD : Hid (∀ vr1, Byt w0 vr1 r → NilOk vr1 → Dc w0 (w.setCell ⟨g, 2, none⟩ vr1) g base t room r) := hid (fun vr1 h1 h2 => ⟨_, _, bx_2 hb vr1, ownsRow_setCell_other ho (own_not hb ho) _, h1, h2⟩)
  have HBE : Hid (∀ vr1, Below base w (w.setCell ⟨g, 2, none⟩ vr1)) := hid (fun vr1 => (Below.refl _ _).setCell hbg _)
  have HB0 : Hid (∀ vr1, Below w0.heap.size w0 (w.setCell ⟨g, 2, none⟩ vr1)) := hid (fun vr1 => hb0.setCell (p := ⟨g, 2, none⟩) (by show _ ≤ g; omega) _)
  have HLI : Hid (∀ vr1, 0 < x → Byt w0 vr1 r → NilOk vr1 → Calls Try.prog 47 #[.pointer (some ⟨g, 0, none⟩), .int .i64 (x : Int)] (w.setCell ⟨g, 2, none⟩ vr1) (DcQ w0 (w.setCell ⟨g, 2, none⟩ vr1) g base (lit x t room r))) := hid (fun vr1 h0 h1 h2 => lits_any x t room r g base w0 _ (HB0.out vr1) (HD.out vr1 h1 h2) hbg (by omega) h0 ht (by omega) hr)
  have HMA : Hid (∀ vr1, Byt w0 vr1 r → NilOk vr1 → Calls Try.prog 48 #[.pointer (some ⟨g, 0, none⟩), .int .i64 ((x - 124 : Nat) : Int)] (w.setCell ⟨g, 2, none⟩ vr1) (DcQ w0 (w.setCell ⟨g, 2, none⟩ vr1) g base (mat (x - 124) t room r))) := hid (fun vr1 h1 h2 => match_any (x - 124) t room r g base w0 _ (HB0.out vr1) (HD.out vr1 h1 h2) hbg (by omega) ht (by omega) hr h8)
  obtain ⟨R, hR⟩ : ∃ R, r.length = R := ⟨_, rfl⟩
  rw [hR] at HF c2 hcc hl
  have HR := hid hR
  clear hb ho hs hns hb0 hR h8
  by_cases hc1 : c = 1
  · have hR0 : R = 0 := by omega
    subst hc1 hR0
    rw [fromA, if_pos rfl, Nat.sub_self] at HF
    have HV : Hid (Byt w0 (.slice (some ⟨b, off, none⟩) 0 0) r) := HF
    have HVN := hid (nilOk_some ⟨b, off, none⟩ 0 0)
    by_cases hx0 : x = 0
    · have HT : Hid (tok t room (x :: r) = .error 3) := hid (by rw [tok_cons, if_pos hx0])
      have e1 : ((x : Int) == 0) = true := by simp; omega
      clear hx0 HLI HMA
      go_enter Try.func30, Try.ntmps30
      go_wp2
      go_ret
      exact ⟨HBE.out _, .inl ⟨3, HT.out, by decide, rfl⟩⟩
    have e1 : ((x : Int) == 0) = false := by rw [beq_eq_false_iff_ne]; omega
    by_cases hx1 : x < 128
    · have HT : Hid (tok t room (x :: r) = lit x t room r) := hid (by rw [tok_cons, if_neg hx0, if_pos hx1])
      have e2 : decide ((x : Int) < 128) = true := by simp; omega
      have HC := hid (HLI.out _ (by omega) HV.out HVN.out)
      clear hx0 hx1 HLI HMA
      go_enter Try.func30, Try.ntmps30
      go_wp2_with fail
      refine HC.out.mono ?_
      rintro e w1 ⟨hb1, h1⟩
      have HB1 := hid ((HBE.out _).trans hb1)
      rw [← HT.out] at h1
      rcases h1 with ⟨er, hx, hne, rfl⟩ | ⟨t', room', s', hx, rfl, hdc⟩
      · have HX := hid hx
        have HNE := hid hne
        clear hx hne hb1
        go_wp2
        go_ret
        exact ⟨HB1.out, .inl ⟨er, HX.out, HNE.out, rfl⟩⟩
      · have HX := hid hx
        have HDC := hid hdc
        clear hx hdc hb1
        go_wp2
        go_ret
        exact ⟨HB1.out, .inr ⟨t', room', s', HX.out, rfl, HDC.out⟩⟩
    · have HT : Hid (tok t room (x :: r) = mat (x - 124) t room r) := hid (by rw [tok_cons, if_neg hx0, if_neg hx1])
      have e2 : decide ((x : Int) < 128) = false := by simp; omega
      have HC := hid (HMA.out _ HV.out HVN.out)
      have hxe : ((x - 124 : Nat) : Int) = (x : Int) - 128 + 4 := by omega
      rw [hxe] at HC
      clear hx0 HLI HMA hxe
      go_enter Try.func30, Try.ntmps30
      go_wp2_with fail
      refine HC.out.mono ?_
      rintro e w1 ⟨hb1, h1⟩
      have HB1 := hid ((HBE.out _).trans hb1)
      rw [← HT.out] at h1
      rcases h1 with ⟨er, hx, hne, rfl⟩ | ⟨t', room', s', hx, rfl, hdc⟩
      · have HX := hid hx
        have HNE := hid hne
        clear hx hne hb1
        go_wp2
        go_ret
        exact ⟨HB1.out, .inl ⟨er, HX.out, HNE.out, rfl⟩⟩
      · have HX := hid hx
        have HDC := hid hdc
        clear hx hdc hb1
        go_wp2
        go_ret
        exact ⟨HB1.out, .inr ⟨t', room', s', HX.out, rfl, HDC.out⟩⟩
  · have e4 : fromA (some ⟨b, off, none⟩) c 1 = some ⟨b, off + 1, none⟩ := by unfold fromA; rw [if_neg hc1]; simp [Addr.add]
    rw [e4] at HF
    clear e4
    have HV : Hid (Byt w0 (.slice (some ⟨b, off + 1, none⟩) R (c - 1)) r) := HF
    have HVN := hid (nilOk_some ⟨b, off + 1, none⟩ R (c - 1))
    by_cases hx0 : x = 0
    · have HT : Hid (tok t room (x :: r) = .error 3) := hid (by rw [tok_cons, if_pos hx0])
      have e1 : ((x : Int) == 0) = true := by simp; omega
      clear hx0 HLI HMA
      go_enter Try.func30, Try.ntmps30
      go_wp2
      go_ret
      exact ⟨HBE.out _, .inl ⟨3, HT.out, by decide, rfl⟩⟩
    have e1 : ((x : Int) == 0) = false := by rw [beq_eq_false_iff_ne]; omega
    by_cases hx1 : x < 128
    · have HT : Hid (tok t room (x :: r) = lit x t room r) := hid (by rw [tok_cons, if_neg hx0, if_pos hx1])
      have e2 : decide ((x : Int) < 128) = true := by simp; omega
      have HC := hid (HLI.out _ (by omega) HV.out HVN.out)
      clear hx0 hx1 HLI HMA
      go_enter Try.func30, Try.ntmps30
      go_wp2_with fail
      refine HC.out.mono ?_
      rintro e w1 ⟨hb1, h1⟩
      have HB1 := hid ((HBE.out _).trans hb1)
      rw [← HT.out] at h1
      rcases h1 with ⟨er, hx, hne, rfl⟩ | ⟨t', room', s', hx, rfl, hdc⟩
      · have HX := hid hx
        have HNE := hid hne
        clear hx hne hb1
        go_wp2
        go_ret
        exact ⟨HB1.out, .inl ⟨er, HX.out, HNE.out, rfl⟩⟩
      · have HX := hid hx
        have HDC := hid hdc
        clear hx hdc hb1
        go_wp2
        go_ret
        exact ⟨HB1.out, .inr ⟨t', room', s', HX.out, rfl, HDC.out⟩⟩
    · have HT : Hid (tok t room (x :: r) = mat (x - 124) t room r) := hid (by rw [tok_cons, if_neg hx0, if_neg hx1])
      have e2 : decide ((x : Int) < 128) = false := by simp; omega
      have HC := hid (HMA.out _ HV.out HVN.out)
      have hxe : ((x - 124 : Nat) : Int) = (x : Int) - 128 + 4 := by omega
      rw [hxe] at HC
      clear hx0 HLI HMA hxe
      go_enter Try.func30, Try.ntmps30
      go_wp2_with fail
      refine HC.out.mono ?_
      rintro e w1 ⟨hb1, h1⟩
      have HB1 := hid ((HBE.out _).trans hb1)
      rw [← HT.out] at h1
      rcases h1 with ⟨er, hx, hne, rfl⟩ | ⟨t', room', s', hx, rfl, hdc⟩
      · have HX := hid hx
        have HNE := hid hne
        clear hx hne hb1
        go_wp2
        go_ret
        exact ⟨HB1.out, .inl ⟨er, HX.out, HNE.out, rfl⟩⟩
      · have HX := hid hx
        have HDC := hid hdc
        clear hx hdc hb1
        go_wp2
        go_ret
        exact ⟨HB1.out, .inr ⟨t', room', s', HX.out, rfl, HDC.out⟩⟩
end Go.Proofs.Ytldlddoealpomaa
