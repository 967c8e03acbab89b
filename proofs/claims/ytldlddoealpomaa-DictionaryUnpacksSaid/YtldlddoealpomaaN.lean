/- Decode. -/
import Derived.Test.YtldlddoealpomaaM
namespace Go.Proofs.Ytldlddoealpomaa
open Go.RowKit Go.Lib

theorem b8_cons {x : Nat} {r : List Nat} (h : B8 (x :: r)) : x < 256 ∧ B8 r := ⟨h x (by simp), fun y hy => h y (by simp [hy])⟩
theorem b8_take {s : List Nat} (h : B8 s) (k : Nat) : B8 (s.take k) := fun x hx => h x (List.mem_of_mem_take hx)
theorem lit_ok {n : Nat} {t : List Nat} {room : Nat} {r t' : List Nat} {room' : Nat} {s' : List Nat} (h : lit n t room r = .ok (t', room', s')) (h8 : B8 t) (hr : B8 r) :
    t.length ≤ t'.length ∧ t'.length ≤ t.length + n ∧ s'.length ≤ r.length ∧ room' ≤ room ∧ B8 t' ∧ B8 s' ∧ t' = t ++ t'.drop t.length := by
  unfold lit at h
  split at h
  · cases h
  · split at h
    · cases h
    · cases h
      refine ⟨by simp, by simp; omega, by simp, by omega, h8.append (b8_take hr n), b8_drop hr n, by simp⟩
theorem cp_pre (d : Nat) (t : List Nat) : ∀ n, ∃ e, cp d t n = t ++ e
  | 0 => ⟨[], by simp [cp]⟩
  | n + 1 => by
    obtain ⟨e, he⟩ := cp_pre d t n
    exact ⟨e ++ [(cp d t n).getD ((cp d t n).length - d) 0], by rw [cp]; rw [← List.append_assoc, ← he]⟩
theorem mat_ok {n : Nat} {t : List Nat} {room : Nat} {r t' : List Nat} {room' : Nat} {s' : List Nat} (h : mat n t room r = .ok (t', room', s')) (h8 : B8 t) (hr : B8 r) :
    t.length ≤ t'.length ∧ t'.length ≤ t.length + n ∧ s'.length ≤ r.length ∧ room' ≤ room ∧ B8 t' ∧ B8 s' ∧ t' = t ++ t'.drop t.length := by
  unfold mat at h
  split at h
  · cases h
  · split at h
    · cases h
    · split at h
      · cases h
      · cases h
        refine ⟨by rw [cp_len]; omega, by rw [cp_len]; omega, by simp, by omega, cp_b8 _ h8 _, b8_drop hr _, ?_⟩
        obtain ⟨e, he⟩ := cp_pre _ t n
        rw [he]; simp
theorem tok_ok {t : List Nat} {room x : Nat} {r t' : List Nat} {room' : Nat} {s' : List Nat} (h : tok t room (x :: r) = .ok (t', room', s')) (h8 : B8 t) (hr : B8 (x :: r)) :
    t.length ≤ t'.length ∧ t'.length ≤ t.length + 131 ∧ s'.length ≤ r.length ∧ room' ≤ room ∧ B8 t' ∧ B8 s' ∧ t' = t ++ t'.drop t.length := by
  obtain ⟨hx, hr⟩ := b8_cons hr
  rw [tok_cons] at h
  split at h
  · cases h
  · split at h
    · have := lit_ok h h8 hr; exact ⟨this.1, by omega, this.2.2⟩
    · have := mat_ok h h8 hr; exact ⟨this.1, by omega, this.2.2⟩
theorem toks_nil (f : Nat) (t : List Nat) (room : Nat) : toks f t room [] = .ok t := by cases f <;> rfl
theorem toks_err {f : Nat} {t : List Nat} {room x : Nat} {r : List Nat} {er : Int} (h : tok t room (x :: r) = .error er) : toks (f + 1) t room (x :: r) = .error er := by
  rw [toks, h]
theorem toks_ok {f : Nat} {t : List Nat} {room x : Nat} {r t' : List Nat} {room' : Nat} {s' : List Nat} (h : tok t room (x :: r) = .ok (t', room', s')) : toks (f + 1) t room (x :: r) = toks f t' room' s' := by
  rw [toks, h]
theorem near_len (l : List Nat) : (near l).length ≤ 4096 := by unfold near; rw [List.length_drop]; omega
theorem near_b8 {l : List Nat} (h : B8 l) : B8 (near l) := b8_drop h _
def DecQ (w : World) (d b : List Nat) (most : Int) (e : Ending) (w' : World) : Prop :=
  Below w.heap.size w w' ∧ ((∃ er, decL d b most = .error er ∧ er ≠ 0 ∧ e = .returned (.tuple #[.slice none 0 0, .int .i64 er])) ∨ (∃ l v, decL d b most = .ok l ∧ e = .returned (.tuple #[v, .int .i64 0]) ∧ Byt w' v l ∧ NilOk v))
def lenAt (g : Nat) (w : World) : Nat := match w.cell? ⟨g, 2, none⟩ with
  | some (.slice _ n _) => n
  | _ => 0
theorem lenAt_dc {w0 w : World} {g base : Nat} {t : List Nat} {room : Nat} {s : List Nat} (h : Dc w0 w g base t room s) : lenAt g w = s.length := by
  obtain ⟨vt, vr, hb, _, hs, _⟩ := h
  obtain ⟨A, c, rfl⟩ := byt_form hs
  have c2 : w.cell? ⟨g, 2, none⟩ = some (.slice A s.length c) := cell_of_row _ _ 2 _ _ _ hb
  unfold lenAt
  rw [c2]
set_option maxHeartbeats 4000000 in
set_option maxRecDepth 100000 in
theorem decode_any (d b : List Nat) (v u : Value) (most : Int) (w : World) (hv : Byt w v d) (hn : NilOk v) (hu : Byt w u b) (hun : NilOk u) (hd : d.length ≤ 800000000) (hl : b.length ≤ 800000000) (hm : most ≤ 9223372036854775807) :
    Calls Try.prog 16 #[v, u, .int .i64 most] w (DecQ w d b most) := by
  have HR := hid (reach_any d v w hv hn (by omega))
  obtain ⟨A, c, rfl⟩ := byt_form hv
  obtain ⟨B, c', rfl⟩ := byt_form hu
  by_cases hneg : most < 0
  · have HT : Hid (decL d b most = .error 2) := hid (if_pos hneg)
    have d1 : decide (most < 0) = true := decide_eq_true hneg
    clear hv hn hu hun HR hneg
    go_enter Try.func16, Try.ntmps16
    go_wp2
    refine bodyPost_ret (v := .tuple #[.slice none 0 0, .int .i64 2]) (by simp [results, Try.results16, go_sem]) rfl ?_
    exact ⟨Below.refl _ _, .inl ⟨2, HT.out, by decide, rfl⟩⟩
  have d1 : decide (most < 0) = false := decide_eq_false hneg
  obtain ⟨M, rfl⟩ : ∃ M : Nat, most = (M : Int) := ⟨most.toNat, by omega⟩
  have HT : Hid (decL d b M = match toks b.length (near d) M b with | .error e => .error e | .ok t => .ok (t.drop (near d).length)) := hid (if_neg hneg)
  have HN8 := hid (near_b8 hv.1)
  have HB8 := hid hu.1
  have hnl := near_len d
  obtain ⟨N, hN⟩ : ∃ N, near d = N := ⟨_, rfl⟩
  rw [hN] at HT HN8 hnl
  have HNE := hid hN
  have HU := hid hu
  have HUN := hid hun
  clear hv hn hu hun hneg hN
  go_enter Try.func16, Try.ntmps16
  go_wp2_with fail
  refine HR.out.mono ?_
  rintro e w1 ⟨r, rfl, rfl, hr, hrn⟩
  rw [HNE.out] at hr
  obtain ⟨rA, rc, rfl⟩ := byt_form hr
  have HC := hid (clone_any N _ w1 hr hrn (by omega))
  clear hr hrn HR
  go_wp2_with fail
  refine HC.out.mono ?_
  rintro e w2 ⟨v2, rfl, ho2, hb2⟩
  have HO2 := hid ho2
  have HB2 := hid hb2
  obtain ⟨tA, tc, rfl⟩ := own_form ho2
  clear ho2 hb2 HC
  go_wp2_with fail
  have hal := al1 w2 (.cells #[.slice tA N.length tc, .int .i64 (M : Int), .slice B b.length c'] 57)
  have HD0 : Hid (Dc w1 (w2.alloc (.cells #[.slice tA N.length tc, .int .i64 (M : Int), .slice B b.length c'] 57)) w2.heap.size w1.heap.size N M b) := hid ⟨_, _, heap_alloc_new _ _, own_keep HO2.out (keep_below hal), HU.out, HUN.out⟩
  have HB0 := hid (HB2.out.trans (hal.mono HB2.out.size))
  have hgb : w1.heap.size ≤ w2.heap.size := HB2.out.size
  obtain ⟨T, hT⟩ : ∃ T, toks b.length N M b = T := ⟨_, rfl⟩
  rw [hT] at HT
  have HTT := hid hT
  obtain ⟨W, hW⟩ : ∃ W, w2.alloc (.cells #[.slice tA N.length tc, .int .i64 (M : Int), .slice B b.length c'] 57) = W := ⟨_, rfl⟩
  rw [hW] at HD0 HB0 ⊢
  clear hW hal hT HO2 HB2
  have HEQ : Hid (toks b.length N M b = T) := HTT
  obtain ⟨g, hg⟩ : ∃ g, w2.heap.size = g := ⟨_, rfl⟩
  rw [hg] at HD0 hgb ⊢
  obtain ⟨nl, hnll⟩ : ∃ nl, N.length = nl := ⟨_, rfl⟩
  have HNL := hid hnll
  rw [hnll] at hnl HT ⊢
  clear hg hnll
  go_loopw [] (fun wr => ∃ (f room : Nat) (t s : List Nat), s.length ≤ f ∧ t.length + 131 * s.length ≤ 4096 + 131 * b.length ∧ nl ≤ t.length ∧ room ≤ M ∧ Hid (Dc w1 wr g w1.heap.size t room s) ∧ Hid (toks f t room s = T) ∧ Hid (B8 t) ∧ Hid (B8 s) ∧ Hid (Below w1.heap.size w1 wr)) (fun wr => lenAt g wr)
  case atStart => exact ⟨b.length, M, N, b, Nat.le_refl _, by have := HNL.out; omega, by have := HNL.out; omega, Nat.le_refl _, HD0, HEQ, HN8, HB8, HB0⟩
  case round =>
    clear HD0 HB0 HN8
    obtain ⟨f, room, t, s, hf, htl, hnt, hrm, HD, HE, H8, HS8, HB⟩ := hrel
    have HME := hid (lenAt_dc HD.out)
    rcases s with _ | ⟨x, r⟩
    · obtain ⟨vt, vr, hb, ho, hs, hns⟩ := HD.out
      obtain ⟨A, c, rfl⟩ := byt_form hs
      obtain ⟨aT, cT, rfl⟩ := own_form ho
      have c0 : wr.cell? ⟨g, 0, none⟩ = some (.slice aT t.length cT) := cell_of_row _ _ 0 _ _ _ hb
      have c2 : wr.cell? ⟨g, 2, none⟩ = some (.slice A 0 c) := cell_of_row _ _ 2 _ _ _ hb
      have hbt := byt_of_own ho H8.out
      have HV := hid (byt_from (k := nl) hbt hnt)
      have HVN := hid (nilOk_from (k := nl) (own_nilOk ho))
      have hsf := run_slice_from aT t.length cT nl hnt
      have HR : Hid (decL d b M = .ok (t.drop nl)) := hid (by rw [HT.out, ← HE.out, toks_nil])
      clear hb ho hs hns hbt HD HE HME htl
      go_wp2
      refine bodyPost_ret (v := .tuple #[.slice (fromA aT cT nl) (t.length - nl) (cT - nl), .int .i64 0]) (by simp [results, Try.results16, go_sem]) rfl ?_
      exact ⟨HB.out, .inr ⟨_, _, HR.out, rfl, HV.out, HVN.out⟩⟩
    · have HTK := hid (token_any t room x r g w1.heap.size w1 wr HB.out HD.out (Nat.le_refl _) hgb (by omega) (by simp at htl; omega) (by omega) H8.out)
      obtain ⟨vt, vr, hb, ho, hs, hns⟩ := HD.out
      obtain ⟨A, c, rfl⟩ := byt_form hs
      obtain ⟨m, hm2⟩ : ∃ m, (x :: r).length = m := ⟨_, rfl⟩
      have hm0 : 0 < m := by rw [← hm2]; simp
      have c2 : wr.cell? ⟨g, 2, none⟩ = some (.slice A (x :: r).length c) := cell_of_row _ _ 2 _ _ _ hb
      rw [hm2] at c2 hf htl
      have HM2 := hid hm2
      obtain ⟨f, rfl⟩ : ∃ f', f = f' + 1 := ⟨f - 1, by omega⟩
      clear hb ho hs hns hm2 HD
      go_wp2_with fail
      refine HTK.out.mono ?_
      rintro e w3 ⟨hb3, hc3⟩
      have HB3 := hid (HB.out.trans hb3)
      rcases hc3 with ⟨er, hx, hne, rfl⟩ | ⟨t', room', s', hx, rfl, hdc⟩
      · have HR : Hid (decL d b M = .error er) := hid (by rw [HT.out, ← HE.out, toks_err hx])
        have H0 := hid hne
        have d2 : (er != 0) = true := by simpa using hne
        clear hx hne hb3 HTK HE HME HT c2
        go_wp2
        refine bodyPost_ret (v := .tuple #[.slice none 0 0, .int .i64 er]) (by simp [results, Try.results16, go_sem]) rfl ?_
        exact ⟨HB3.out, .inl ⟨er, HR.out, H0.out, rfl⟩⟩
      · obtain ⟨k1, k2, k3, k4, k5, k6, _⟩ := tok_ok hx H8.out HS8.out
        have HE2 := hid ((toks_ok hx).symm.trans HE.out)
        have HM3 := hid (lenAt_dc hdc)
        have HD3 := hid hdc
        have hml : r.length + 1 = m := HM2.out
        have K5 := hid k5
        have K6 := hid k6
        clear hx hb3 hdc HTK HE H8 HS8 HT c2 k5 k6
        go_wp2
        go_roundw
        case rel => exact ⟨f, room', t', s', by omega, by omega, by omega, by omega, HD3, HE2, K5, K6, HB3⟩
        case measure => rw [HM3.out, HME.out, HM2.out]; omega
end Go.Proofs.Ytldlddoealpomaa
