/- PutBytes and the reference's PutBytes. -/
import Derived.Test.YtchpoddfjbopbaaF
namespace Go.Proofs.Ytchpoddfjbopbaa
open Go.RowKit Go.Lib

theorem cl_nat {n : Nat} (h : n ≤ 9007199254740991) : cl (n : Int) = n := by rw [cl_in (by omega) (by omega)]; rfl
theorem enc_len {n : Nat} (h : n ≤ 90000) : (enc n).length ≤ 8 := enc_le8 (by unfold top; omega)

set_option maxHeartbeats 2000000 in
set_option maxRecDepth 100000 in
theorem rputBytes_own (l b : List Nat) (v u : Value) (w : World) (hv : Byt w v l) (hn : NilOk v) (hu : Byt w u b) (hnu : NilOk u) (hl : l.length ≤ 40000) (hb : b.length ≤ 40000) :
    Calls Try.prog 16 #[v, u] w (MadeO w (l ++ eBytes b)) := by
  have hp := rput_own (b.length : Int) l v w hv hn (by omega)
  rw [cl_nat (by omega)] at hp
  have HP := hid hp
  have he := enc_len (n := b.length) (by omega)
  have e : l ++ eBytes b = (l ++ enc b.length) ++ b := by unfold eBytes; rw [List.append_assoc]
  rw [e]
  obtain ⟨m, hm⟩ : ∃ m, l ++ enc b.length = m := ⟨_, rfl⟩
  have hml : m.length ≤ 40008 := by rw [← hm, List.length_append]; omega
  rw [hm] at HP ⊢
  have HU := hid hu
  have HNU := hid hnu
  obtain ⟨A, ca, rfl⟩ := byt_form hv
  obtain ⟨C, cc, rfl⟩ := byt_form hu
  clear hv hn hu hnu hm hp e he
  go_enter Try.func16, Try.ntmps16
  go_wp2_with (first | (go_at_call 14; refine HP.out.mono ?_; rintro e w1 ⟨v1, rfl, ho1, hb1⟩; obtain ⟨a1, c1, rfl⟩ := own_form ho1; have HO1 := hid ho1; have HB1 := hid hb1; clear ho1 hb1) | (at_builtin; refine append_byt rfl (.tmp 8) (.tmp 9) rfl w.heap.size (.slice a1 m.length c1) m.length _ rfl HO1.out b _ rfl (HU.out.below HB1.out) HNU.out (by omega) HB1.out.size ?_; intro v2 w2 hown2 hg2; obtain ⟨a2, c2, rfl⟩ := own_form hown2; have HB2 := hid (below_own HB1.out HO1.out hg2 HB1.out.size (Nat.le_refl _)); have HO2 := hid hown2; clear hown2 hg2))
  go_ret
  refine ⟨_, rfl, ?_, HB2.out⟩
  have h := HO2.out
  rw [own_snoc] at h
  rw [List.length_append]
  exact h
end Go.Proofs.Ytchpoddfjbopbaa
