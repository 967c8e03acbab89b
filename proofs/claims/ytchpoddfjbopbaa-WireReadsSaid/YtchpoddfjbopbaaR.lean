/- The reader's number in any state; length, take, extent. -/
import Derived.Test.YtchpoddfjbopbaaQ
namespace Go.Proofs.Ytchpoddfjbopbaa
open Go.RowKit Go.Lib

set_option maxHeartbeats 2000000 in
set_option maxRecDepth 100000 in
theorem rnum_old (er : Int) (g : Nat) (w0 w : World) (hr : Rd w0 w g [] er) (he : er ≠ 0) :
    Calls Try.prog 64 #[.pointer (some ⟨g, 0, none⟩)] w (Got dNum VNat ShNat w0 w g [] er) := by
  have HF := hid (fail_old [] 10 er g w0 w hr he)
  have HE := hid he
  obtain ⟨v, hb, hv, hn⟩ := hr
  obtain ⟨A, c, rfl⟩ := byt_form hv
  rw [List.length_nil] at hb
  have c0 : w.cell? ⟨g, 0, none⟩ = some (.slice A 0 c) := cell_of_row _ _ 0 _ _ _ hb
  clear hb hv hn he
  go_enter Try.func64, Try.ntmps64
  go_wp2
  go_loopw [3, 6] (fun n i wr => i = .int .i64 0 ∧ n = .int .i64 0 ∧ w = wr) (fun _ i _ => 8 - (intOf i).toNat)
  case atStart => exact ⟨rfl, rfl, rfl⟩
  case round =>
    obtain ⟨rfl, rfl, rfl⟩ := hrel
    go_wp2_with fail
    refine HF.out.mono ?_
    rintro e w1 ⟨⟨v1, rfl⟩, hu, hr⟩
    have HU := hid hu
    have HRd := hid hr
    clear hu hr
    go_wp2
    go_ret
    exact ⟨_, rfl, ⟨0, by omega, rfl⟩, HU.out, .inr ⟨er, HE.out, fun h => absurd h HE.out, fun _ => rfl, HRd.out⟩⟩
theorem rnum_any (s : List Nat) (er : Int) (g : Nat) (w0 w : World) (hb0 : Below w0.heap.size w0 w) (hr : Rd w0 w g s er) (he : er ≠ 0 → s = []) (hl : s.length ≤ 90000) :
    Calls Try.prog 64 #[.pointer (some ⟨g, 0, none⟩)] w (Got dNum VNat ShNat w0 w g s er) := by
  rcases Classical.em (er = 0) with h | h
  · subst h; exact rnum_new s g w0 w hb0 hr hl
  · obtain rfl := he h; exact rnum_old er g w0 w hr h

/-- A length. -/
def dLength : Reads Nat := dLen (fun n t => .ok (n, t))
def ShLen (v : Value) : Prop := ∃ n : Nat, n ≤ 65536 ∧ v = .int .i64 (n : Int)
theorem dLen_err {α : Type} {D : Nat → Reads α} {s : List Nat} {er : Int} (h : dNum s = .error er) : dLen D s = .error er := by
  unfold dLen; rw [h]
theorem dLen_long {α : Type} {D : Nat → Reads α} {s t : List Nat} {n : Nat} (h : dNum s = .ok (n, t)) (hn : 65536 < n) : dLen D s = .error 5 := by
  unfold dLen; rw [h]; exact if_pos hn
theorem dLen_ok {α : Type} {D : Nat → Reads α} {s t : List Nat} {n : Nat} (h : dNum s = .ok (n, t)) (hn : ¬ 65536 < n) : dLen D s = D n t := by
  unfold dLen; rw [h]; exact if_neg hn

set_option maxHeartbeats 2000000 in
set_option maxRecDepth 100000 in
theorem rlen_any (s : List Nat) (er : Int) (g : Nat) (w0 w : World) (hb0 : Below w0.heap.size w0 w) (hr : Rd w0 w g s er) (he : er ≠ 0 → s = []) (hl : s.length ≤ 90000) :
    Calls Try.prog 95 #[.pointer (some ⟨g, 0, none⟩)] w (Got dLength VNat ShLen w0 w g s er) := by
  have HP := hid (rnum_any s er g w0 w hb0 hr he hl)
  clear hr he
  go_enter Try.func95, Try.ntmps95
  go_wp2_with fail
  refine HP.out.mono ?_
  rintro e w1 ⟨v, rfl, ⟨n, hn, rfl⟩, hu, h⟩
  have HU := hid hu
  rcases h with ⟨x, t, he, hd, hv, hr⟩ | ⟨er', he', h0, h1, hr⟩
  · have hx : x = n := by unfold VNat at hv; injection hv with _ h; omega
    subst hx
    have HE := hid he
    have HD := hid hd
    have HR := hid hr
    have HF := hid (fail_new t 5 g w0 w1 hr)
    clear he hd hv hr hu
    by_cases hbig : 65536 < x
    · have d1 : decide ((65536 : Int) < (x : Int)) = true := by simp; omega
      go_wp2_with fail
      refine HF.out.mono ?_
      rintro e w2 ⟨⟨v2, rfl⟩, hu2, hr2⟩
      have HU2 := hid (HU.out.trans hu2)
      have HR2 := hid hr2
      clear hu2 hr2
      go_wp2
      go_ret
      exact ⟨_, rfl, ⟨0, by omega, rfl⟩, HU2.out, .inr ⟨5, by decide, fun _ => dLen_long HD.out hbig, fun h => absurd HE.out h, HR2.out⟩⟩
    · have d1 : decide ((65536 : Int) < (x : Int)) = false := by simp; omega
      go_wp2
      go_ret
      exact ⟨_, rfl, ⟨x, by omega, rfl⟩, HU.out, .inl ⟨x, t, HE.out, dLen_ok HD.out hbig, rfl, HR.out⟩⟩
  · have HE := hid he'
    have H0 := hid h0
    have H1 := hid h1
    have HR := hid hr
    have HF := hid (fail_old [] 5 er' g w0 w1 hr he')
    clear he' h0 h1 hr hu
    by_cases hbig : 65536 < n
    · have d1 : decide ((65536 : Int) < (n : Int)) = true := by simp; omega
      go_wp2_with fail
      refine HF.out.mono ?_
      rintro e w2 ⟨⟨v2, rfl⟩, hu2, hr2⟩
      have HU2 := hid (HU.out.trans hu2)
      have HR2 := hid hr2
      clear hu2 hr2
      go_wp2
      go_ret
      exact ⟨_, rfl, ⟨0, by omega, rfl⟩, HU2.out, .inr ⟨er', HE.out, fun h => dLen_err (H0.out h), H1.out, HR2.out⟩⟩
    · have d1 : decide ((65536 : Int) < (n : Int)) = false := by simp; omega
      go_wp2
      go_ret
      exact ⟨_, rfl, ⟨n, by omega, rfl⟩, HU.out, .inr ⟨er', HE.out, fun h => dLen_err (H0.out h), H1.out, HR.out⟩⟩
end Go.Proofs.Ytchpoddfjbopbaa
