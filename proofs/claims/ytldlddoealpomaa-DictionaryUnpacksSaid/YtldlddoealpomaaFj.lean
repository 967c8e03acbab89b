/- The encoder's encode. -/
import Derived.Test.YtldlddoealpomaaFi
namespace Go.Proofs.Ytldlddoealpomaa
open Go.RowKit Go.Lib

theorem run_mid (b off n c lo hi : Nat) (h1 : lo ≤ hi) (h2 : hi ≤ n) (h3 : n ≤ c) (W : World) : (Instr.slice 22 (.slice (some ⟨b, off, none⟩) n c) (some (.int .i64 (lo : Int))) (some (.int .i64 (hi : Int))) none).run Try.prog W = .ok (.slice (fromA (some ⟨b, off, none⟩) c lo) (hi - lo) (c - lo)) W := by
  simp [Instr.slice, run_underlying Try.underlying22, Instr.sliceBounds, Sem.run_bind, run_sliceBound_if, fromA, h1, Nat.le_trans h2 h3]
theorem byt_mid {w : World} {A : Option Addr} {n c lo hi : Nat} {l : List Nat} (h : Byt w (.slice A n c) l) (hn : l.length = n) (h1 : lo ≤ hi) (h2 : hi ≤ n) : Byt w (.slice (fromA A c lo) (hi - lo) (c - lo)) ((l.drop lo).take (hi - lo)) := by
  subst hn
  have h3 := byt_from h (show lo ≤ l.length by omega)
  have e : (l.drop lo).length = l.length - lo := List.length_drop
  rw [← e] at h3
  exact byt_cut h3 (by omega)
theorem from_block {A : Option Addr} {c k : Nat} {ad : Addr} (h : fromA A c k = some ad) : ∃ a0, A = some a0 ∧ a0.block = ad.block := by
  unfold fromA at h
  split at h
  · exact ⟨ad, h, rfl⟩
  · rcases A with _ | a0
    · cases h
    · refine ⟨a0, rfl, ?_⟩
      injection h with h
      rw [← h]; unfold Addr.add; split <;> rfl
/-- What the tokens' row does leaves the places. -/
theorem Plc.chg {w w' : World} {g bm a base : Nat} {x l : List Nat} {v v' vx vm : Value} (h : Plc w bm x a) (he : Enc w g base v vx vm l) (hc : Chg g v v' w w') : Plc w' bm x a := by
  obtain ⟨es, clock, hb, hs, hn, hr, hall, hap⟩ := h
  refine ⟨es, clock, (hc.block bm (box_lt hb) (fun e => by rw [e, he.1] at hb; cases hb) (fun e => ?_)).trans hb, hs, hn, fun e hem => ?_, hall, hap⟩
  · obtain ⟨cs, hcs⟩ := own_type he.2.1 e.symm
    rw [hb] at hcs; cases hcs
  · obtain ⟨κ, q1, q2, q3, q4⟩ := hr e hem
    refine ⟨κ, q1, q2, q3, q4.1, ?_⟩
    rcases q4.2 with h0 | ⟨k, cap, cur, ek, hbk, hgb, h2⟩
    · exact .inl h0
    · exact .inr ⟨k, cap, cur, ek, hbk, (chg_keep he hc (by decide) (by decide) k cur hgb), h2⟩
theorem St.chg {W0 w w' : World} {g a : Nat} {x l l' : List Nat} {vx vt vt' : Value} (hb : w.heap[g]? = some (.cells #[vt, vx, .map (some W0.heap.size)] 51)) (ho : w.ownsRow (W0.heap.size + 1) 5 1 vt l.length (l.map byteV)) (hp : Plc w W0.heap.size x a) (hbw : Below W0.heap.size W0 w) (hg : W0.heap.size < g)
    (he : Enc w' g (W0.heap.size + 1) vt' vx (.map (some W0.heap.size)) l') (hc : Chg g vt vt' w w') : St W0 w' g x vx a l' :=
  ⟨vt', he.1, he.2.1, hp.chg (base := W0.heap.size + 1) ⟨hb, ho, by have := box_lt hb; omega⟩ hc, ⟨hc.low.os.trans hbw.os, hc.low.tape.trans hbw.tape, hc.low.output.trans hbw.output, Nat.le_trans hbw.size hc.low.size, fun k hk => (hc.block k (Nat.lt_of_lt_of_le hk hbw.size) (by omega) (fun e => by have := (ho.lt k e.symm).1; omega)).trans (hbw.block k hk)⟩, hg⟩
theorem bst_in {x : List Nat} {a : Nat} : ∀ d, (bst x a d).2 ≤ x.length - a
  | 0 => Nat.zero_le _
  | d + 1 => by
    have := cm_end x (a - (d + 1)) a 131 0
    have ih := bst_in (x := x) (a := a) d
    rw [bst]
    split
    · dsimp only; omega
    · exact ih
theorem en_len : ∀ (x : List Nat) (f a : Nat) (l : List Nat), a ≤ x.length → (en x f a l).length ≤ 12 * (x.length - a) + 2 * l.length
  | x, 0, a, l, _ => by rw [en]; have := lt_len l.length l; omega
  | x, f + 1, a, l, ha => by
    rw [en]
    split
    · rename_i h
      have h1 := bst_ok x a (min 4096 a)
      have h2 := bst_in (x := x) (a := a) (min 4096 a)
      split
      · have := en_len x f (a + 1) (l ++ [x.getD a 0]) (by omega)
        rw [List.length_append, List.length_singleton] at this
        omega
      · have h3 := en_len x f (a + (bst x a (min 4096 a)).2) [] (by omega)
        have h4 := lt_len l.length l
        have h5 := enc_le8 (n := (bst x a (min 4096 a)).1) (by unfold top; omega)
        rw [List.length_append, List.length_append, List.length_append, List.length_singleton]
        simp only [List.length_nil] at h3
        omega
    · have := lt_len l.length l; omega
set_option maxHeartbeats 8000000 in
set_option maxRecDepth 100000 in
theorem encodeAll_any (W0 w : World) (g from' : Nat) (x : List Nat) (vx : Value) (hs : St W0 w g x vx 0 []) (hx : Byt W0 vx x) (hxl : x.length ≤ 1000000000) (hfr : from' ≤ x.length) :
    Calls Try.prog 25 #[.pointer (some ⟨g, 0, none⟩), .int .i64 (from' : Int)] w fun e w' => (∃ r, e = .returned r) ∧ ∃ a, St W0 w' g x vx a (en x x.length from' []) := by
  have HS := hid hs
  have HX := hid hx
  obtain ⟨A, c, rfl⟩ := byt_form hx
  obtain ⟨n, hn⟩ : ∃ n, x.length = n := ⟨_, rfl⟩
  have hcap := byt_cap hx
  obtain ⟨TOT, hT⟩ : ∃ T, en x n from' [] = T := ⟨_, rfl⟩
  have HTL : Hid (TOT.length ≤ 12 * n) := hid (by have := en_len x n from' [] hfr; rw [hT] at this; simp only [List.length_nil] at this; rw [← hn]; omega)
  rw [hn] at hcap hxl hfr HX HS ⊢
  rw [hT]
  have HN := hid hn
  have HT := hid hT
  clear hs hx hn hT
  go_enter Try.func25, Try.ntmps25
  go_wp2_with fail
  go_loopw [4, 9] (fun t4 i wr => ∃ k : Nat, k ≤ from' ∧ i = .int .i64 (k : Int) ∧ Hid (St W0 wr g x (.slice A n c) k [])) (fun _ i _ => from' - (Go.RowKit.intOf i).toNat)
  case atStart => exact ⟨0, Nat.zero_le _, rfl, HS⟩
  case round =>
    clear HS
    obtain ⟨k, hk, rfl, HS⟩ := hrel
    by_cases hkf : k < from'
    · have hkf' : (k : Int) < (from' : Int) := by omega
      have HEN := hid (enter_any W0 wr g k x [] (.slice A n c) HS.out HX.out (by rw [HN.out]; omega) (by rw [HN.out]; omega))
      go_wp2_with fail
      refine HEN.out.mono ?_
      rintro e w2 ⟨⟨r, rfl⟩, hs2, _, _⟩
      have HS2 := hid hs2
      clear hs2 HEN HS
      go_wp2_with fail
      go_roundw
      case rel => exact ⟨k + 1, by omega, by go_num, HS2⟩
      case measure => simp [Go.RowKit.intOf]; omega
    · obtain rfl : k = from' := by omega
      go_wp2_with fail
      have hcl : ∀ (W : World) (a : Nat) (l : List Nat), St W0 W g x (.slice A n c) a l → W.cell? ⟨g, 1, none⟩ = some (.slice A n c) := fun W a l hs => by
        obtain ⟨vt, h1, _⟩ := hs
        exact cell_of_row _ _ 1 _ _ _ h1
      have HCL := hid hcl
      have HS0 : Hid (St W0 wr g x (.slice A n c) k []) := HS
      clear hcl HS
      go_loopw [5, 6] (fun u5 u6 wz => ∃ (u a f : Nat) (out : List Nat), u ≤ a ∧ a ≤ n ∧ n - a ≤ f ∧ u5 = .int .i64 (u : Int) ∧ u6 = .int .i64 (a : Int) ∧ Hid (out ++ en x f a ((x.drop u).take (a - u)) = TOT) ∧ Hid (St W0 wz g x (.slice A n c) a out)) (fun _ i _ => n - (Go.RowKit.intOf i).toNat)
      case atStart => exact ⟨k, k, n, [], Nat.le_refl _, hfr, by omega, rfl, rfl, hid (by rw [Nat.sub_self, List.take_zero, List.nil_append]; exact HT.out), HS0⟩
      case round =>
        clear HS0
        obtain ⟨u, a, f, out, hua, han, hf, rfl, rfl, HE, HS⟩ := hrel
        have c1 := HCL.out _ _ _ HS.out
        have hol : out.length ≤ 12 * n := by
          have h1 := congrArg List.length HE.out
          have h2 := HTL.out
          rw [List.length_append] at h1
          omega
        by_cases hlt : a < n
        · have hlt' : (a : Int) < (n : Int) := by omega
          obtain ⟨f', rfl⟩ : ∃ f', f = f' + 1 := ⟨f - 1, by omega⟩
          obtain ⟨b, off, rfl, hbl, _⟩ := byt_at HX.out (by rw [HN.out]; omega)
          obtain ⟨⟨D, N⟩, hDN⟩ : ∃ r, bst x a (min 4096 a) = r := ⟨_, rfl⟩
          have hok := bst_ok x a (min 4096 a)
          have hin := bst_in (x := x) (a := a) (min 4096 a)
          rw [hDN] at hok hin
          rw [HN.out] at hin
          dsimp only at hok hin
          have HLG := hid (longest_any W0 wr g a x out _ HS.out HX.out (by rw [HN.out]; omega) (by rw [HN.out]; exact han))
          rw [hDN] at HLG
          have HEN : Hid (en x (f' + 1) a ((x.drop u).take (a - u)) = if N = 0 then en x f' (a + 1) ((x.drop u).take (a - u) ++ [x.getD a 0]) else lt ((x.drop u).take (a - u)).length ((x.drop u).take (a - u)) ++ ([124 + N] ++ (enc D ++ en x f' (a + N) []))) := hid (by
            rw [en, if_pos (by rw [HN.out]; exact hlt), hDN])
          clear hDN
          go_wp2_with fail
          refine HLG.out.mono ?_
          rintro e w2 ⟨rfl, hb2⟩
          obtain ⟨W3, hW3⟩ : ∃ W3, w2.alloc (.cells #[.int .i64 (D : Int), .int .i64 (N : Int)] 68) = W3 := ⟨_, rfl⟩
          obtain ⟨tb, htb⟩ : ∃ tb, w2.heap.size = tb := ⟨_, rfl⟩
          have hb3 : Below w2.heap.size w2 W3 := by rw [← hW3]; exact al1 _ _
          have HS3 := hid ((St.below HS.out hb2).below hb3)
          have htbx : W3.heap[tb]? = some (.cells #[.int .i64 (D : Int), .int .i64 (N : Int)] 68) := by rw [← hW3, ← htb]; exact heap_alloc_new _ _
          have HTB := hid htbx
          have y1 : (w2.alloc (.cells #[.int .i64 (D : Int), .int .i64 (N : Int)] 68)).cell? ⟨w2.heap.size, 1, none⟩ = some (.int .i64 (N : Int)) := cell_of_row _ _ 1 _ _ _ (heap_alloc_new _ _)
          have HW3 := hid hW3
          have HTBE := hid htb
          clear hb2 hb3 htbx hW3 htb HLG HS c1
          by_cases hN0 : N = 0
          · have d0 : ((N : Int) == 0) = true := by rw [beq_iff_eq]; omega
            have HE2 : Hid (out ++ en x f' (a + 1) ((x.drop u).take (a + 1 - u)) = TOT) := hid (by
              have h := HE.out
              rw [HEN.out, if_pos hN0] at h
              have e : (x.drop u).take (a + 1 - u) = (x.drop u).take (a - u) ++ [x.getD a 0] := by
                have ha' : a < x.length := by rw [HN.out]; exact hlt
                rw [show a + 1 - u = (a - u) + 1 by omega, List.take_add_one, List.getElem?_drop, show u + (a - u) = a by omega, List.getElem?_eq_getElem ha', List.getD_eq_getElem?_getD, List.getElem?_eq_getElem ha']
                rfl
              rw [e]; exact h)
            have HEE := hid (enter_any W0 W3 g a x out _ HS3.out HX.out (by rw [HN.out]; omega) (by rw [HN.out]; exact han))
            clear hN0 HEN HE
            go_wp2_with fail
            rw [HW3.out]
            refine HEE.out.mono ?_
            rintro e w4 ⟨⟨r, rfl⟩, hs4, _, _⟩
            have HS4 := hid hs4
            clear hs4 HEE HS3 y1
            go_wp2_with fail
            go_roundw
            case rel => exact ⟨u, a + 1, f', out, by omega, by omega, by omega, rfl, by go_num, HE2, HS4⟩
            case measure => simp [Go.RowKit.intOf]; omega
          · have d0 : ((N : Int) == 0) = false := by rw [beq_eq_false_iff_ne]; omega
            have hN4 : 4 ≤ N := by omega
            obtain ⟨L, hL⟩ : ∃ L, (x.drop u).take (a - u) = L := ⟨_, rfl⟩
            have hLl : L.length = a - u := by rw [← hL, List.length_take, List.length_drop, HN.out]; omega
            have HE2 : Hid ((out ++ lt L.length L ++ [124 + N] ++ enc D) ++ en x f' (a + N) [] = TOT) := hid (by
              have h := HE.out
              rw [HEN.out, if_neg hN0, hL] at h
              rw [← h]; simp only [List.append_assoc])
            have hbL : Byt W0 (.slice (fromA (some ⟨b, off, none⟩) c u) (a - u) (c - u)) L := by rw [← hL]; exact byt_mid HX.out HN.out hua han
            have HBL := hid hbL
            have HLL := hid hLl
            have hsl := run_mid b off n c u a hua han hcap
            have hol2 : (out ++ lt L.length L).length ≤ 12 * n := by
              have h1 := congrArg List.length HE2.out
              have h2 := HTL.out
              simp only [List.length_append] at h1 ⊢
              omega
            have c3 := HCL.out _ _ _ HS3.out
            obtain ⟨q, hq⟩ : ∃ q, fromA (some ⟨b, off, none⟩) c u = q := ⟨_, rfl⟩
            have hqb : ∀ ad, q = some ad → ad.block = b := fun ad e => by
              obtain ⟨a0, h1, h2⟩ := from_block (hq.trans e)
              injection h1 with h1
              rw [← h2, ← h1]
            rw [hq] at hsl
            rw [hq] at HBL
            have HQB := hid hqb
            clear hN0 HEN HE hL hLl hbL hq hqb
            go_wp2_with fail
            rw [HW3.out, HTBE.out]
            refine region_tail 10 (fun X : World => X.cell? ⟨g, 1, none⟩ = some (.slice (some ⟨b, off, none⟩) n c)) (by kernel_rfl) ?_
            have hHeld : (fun X : World => X.cell? ⟨g, 1, none⟩ = some (.slice (some ⟨b, off, none⟩) n c)) W3.drew := c3
            dsimp only at hHeld
            refine' wpAnyT_take (i := 0) (oi := ?oiea0) (v := ?vea0) ?hiea0 (by kernel_rfl) (by kernel_rfl) ?hqea0 ?hyea0 hHeld ?restea0
            case hiea0 => (simp only [List.getElem?_toArray, List.getElem?_cons_zero]; rfl)
            case hqea0 => exact fun _ _ _ h => h
            case hyea0 => (refine Or.inl ⟨by rfl, ?_⟩; intro w' hSw; (try dsimp only at hSw); go_simp; try with_reducible rfl)
            (try simp only [Act.put, List.setIfInBounds_toArray, List.set_cons_zero, List.set_cons_succ])
            refine' wpAnyT_take (i := 1) (oi := ?oiea1) (v := ?vea1) ?hiea1 (by kernel_rfl) (by kernel_rfl) ?hqea1 ?hyea1 hHeld ?restea1
            case hiea1 => (simp only [List.getElem?_toArray, List.getElem?_cons_zero, List.getElem?_cons_succ]; rfl)
            case hqea1 => exact fun _ _ _ h => h
            case hyea1 => (refine Or.inl ⟨by rfl, ?_⟩; intro w' hSw; (try dsimp only at hSw); go_simp; try with_reducible rfl)
            (try simp only [Act.put, List.setIfInBounds_toArray, List.set_cons_zero, List.set_cons_succ])
            refine' wpAnyT_take (i := 2) (oi := ?oiea2) (v := ?vea2) ?hiea2 (by kernel_rfl) (by kernel_rfl) ?hqea2 ?hyea2 hHeld ?restea2
            case hiea2 => (simp only [List.getElem?_toArray, List.getElem?_cons_zero, List.getElem?_cons_succ]; rfl)
            case hqea2 => exact fun _ _ _ h => h
            case hyea2 => (refine Or.inl ⟨by rfl, ?_⟩; intro w' hSw; (try dsimp only at hSw); go_simp; try with_reducible rfl)
            (try simp only [Act.put, List.setIfInBounds_toArray, List.set_cons_zero, List.set_cons_succ])
            refine' wpAnyT_take (i := 3) (oi := ?oiea3) (v := ?vea3) ?hiea3 (by kernel_rfl) (by kernel_rfl) ?hqea3 ?hyea3 hHeld ?restea3
            case hiea3 => (simp only [List.getElem?_toArray, List.getElem?_cons_zero, List.getElem?_cons_succ]; rfl)
            case hqea3 => exact fun _ _ _ h => h
            case hyea3 => (refine Or.inl ⟨by rfl, ?_⟩; intro w' hSw; (try dsimp only at hSw); go_simp; try with_reducible rfl)
            (try simp only [Act.put, List.setIfInBounds_toArray, List.set_cons_zero, List.set_cons_succ])
            refine' wpAnyT_take (i := 4) (oi := ?oiea4) (v := ?vea4) ?hiea4 (by kernel_rfl) (by kernel_rfl) ?hqea4 ?hyea4 hHeld ?restea4
            case hiea4 => (simp only [List.getElem?_toArray, List.getElem?_cons_zero, List.getElem?_cons_succ]; rfl)
            case hqea4 => exact fun _ _ _ h => h
            case hyea4 => (refine Or.inl ⟨by rfl, ?_⟩; intro w' hSw; (try dsimp only at hSw); go_simp; try with_reducible rfl)
            (try simp only [Act.put, List.setIfInBounds_toArray, List.set_cons_zero, List.set_cons_succ])
            refine' wpAnyT_take (i := 5) (oi := ?oiea5) (v := ?vea5) ?hiea5 (by kernel_rfl) (by kernel_rfl) ?hqea5 ?hyea5 hHeld ?restea5
            case hiea5 => (simp only [List.getElem?_toArray, List.getElem?_cons_zero, List.getElem?_cons_succ]; rfl)
            case hqea5 => exact fun _ _ _ h => h
            case hyea5 => (refine Or.inl ⟨by rfl, ?_⟩; intro w' hSw; (try dsimp only at hSw); go_simp; try with_reducible rfl)
            (try simp only [Act.put, List.setIfInBounds_toArray, List.set_cons_zero, List.set_cons_succ])
            refine' wpAnyT_take (i := 6) (oi := ?oiea6) (v := ?vea6) ?hiea6 (by kernel_rfl) (by kernel_rfl) ?hqea6 ?hyea6 hHeld ?restea6
            case hiea6 => (simp only [List.getElem?_toArray, List.getElem?_cons_zero, List.getElem?_cons_succ]; rfl)
            case hqea6 => exact fun _ _ _ h => h
            case hyea6 => (refine Or.inl ⟨by rfl, ?_⟩; intro w' hSw; (try dsimp only at hSw); go_simp; try with_reducible rfl)
            (try simp only [Act.put, List.setIfInBounds_toArray, List.set_cons_zero, List.set_cons_succ])
            refine' wpAnyT_take (i := 7) (oi := ?oiea7) (v := ?vea7) ?hiea7 (by kernel_rfl) (by kernel_rfl) ?hqea7 ?hyea7 hHeld ?restea7
            case hiea7 => (simp only [List.getElem?_toArray, List.getElem?_cons_zero, List.getElem?_cons_succ]; rfl)
            case hqea7 => exact fun _ _ _ h => h
            case hyea7 => (refine Or.inl ⟨by rfl, ?_⟩; intro w' hSw; (try dsimp only at hSw); go_simp; try with_reducible rfl)
            (try simp only [Act.put, List.setIfInBounds_toArray, List.set_cons_zero, List.set_cons_succ])
            refine' wpAnyT_take (i := 8) (oi := ?oiea8) (v := ?vea8) ?hiea8 (by kernel_rfl) (by kernel_rfl) ?hqea8 ?hyea8 hHeld ?restea8
            case hiea8 => (simp only [List.getElem?_toArray, List.getElem?_cons_zero, List.getElem?_cons_succ]; rfl)
            case hqea8 => exact fun _ _ _ h => h
            case hyea8 => (refine Or.inl ⟨by rfl, ?_⟩; intro w' hSw; (try dsimp only at hSw); go_simp; try with_reducible rfl)
            (try simp only [Act.put, List.setIfInBounds_toArray, List.set_cons_zero, List.set_cons_succ])
            refine' wpAnyT_take (i := 9) (oi := ?oiea9) (v := ?vea9) ?hiea9 (by kernel_rfl) (by kernel_rfl) ?hqea9 ?hyea9 hHeld ?restea9
            case hiea9 => (simp only [List.getElem?_toArray, List.getElem?_cons_zero, List.getElem?_cons_succ]; rfl)
            case hqea9 => exact fun _ _ _ h => h
            case hyea9 => (refine Or.inl ⟨by rfl, ?_⟩; intro w' hSw; (try dsimp only at hSw); go_simp; try with_reducible rfl)
            (try simp only [Act.put, List.setIfInBounds_toArray, List.set_cons_zero, List.set_cons_succ])
            refine' wpAnyT_one (i := 10) (o := ?oiea10) (by kernel_rfl) ?hiea10 (fun K hK => ?stea10)
            case hiea10 => (simp only [List.getElem?_toArray, List.getElem?_cons_zero, List.getElem?_cons_succ]; rfl)
            go_simp
            go_at_call 44
            obtain ⟨vt3, he3, ho3, hp3, hbw3, hg3⟩ := id HS3.out
            have hen3 : Enc W3.drew g (W0.heap.size + 1) vt3 (.slice (some ⟨b, off, none⟩) n c) (.map (some W0.heap.size)) out := ⟨he3, ho3, by have h := box_lt he3; show _ ≤ W3.heap.size; omega⟩
            refine (outLits_any L out g (W0.heap.size + 1) vt3 _ (.map (some W0.heap.size)) (.slice q (a - u) (c - u)) W3.drew hen3 (show Byt W3 _ L from HBL.out.below hbw3) (fun ad nn cc e hp e2 => by injection e with e; have h1 := HQB.out ad e; have h2 := (ho3.lt _ e2).1; omega) (fun ad nn cc e _ => by injection e with e; have h1 := HQB.out ad e; omega) (by omega) (by rw [HLL.out]; omega)).mono ?_
            rintro e w5 ⟨⟨r, rfl⟩, v5, he5, hc5⟩
            have hs5 : St W0 w5 g x (.slice (some ⟨b, off, none⟩) n c) a (out ++ lt L.length L) := St.chg (w := W3.drew) he3 ho3 (hp3.below (below_drew (Below.refl W3.heap.size W3))) (show Below W0.heap.size W0 W3.drew from ⟨hbw3.os, hbw3.tape, hbw3.output, hbw3.size, hbw3.block⟩) hg3 he5 hc5
            have htb5 : w5.heap[tb]? = some (.cells #[.int .i64 (D : Int), .int .i64 (N : Int)] 68) := chg_keep hen3 hc5 (by decide) (by decide) _ _ HTB.out
            go_simp
            refine hK.out _ _ (fun h => absurd h (by decide)) ?_
            clear hK K
            (try simp only [Act.put, List.setIfInBounds_toArray, List.set_cons_zero, List.set_cons_succ])
            refine wpAnyT_done (by kernel_rfl) ?_ _
            have HS5 := hid hs5
            have HTB5 := hid htb5
            clear hs5 htb5
            obtain ⟨vt5, he5, ho5, hp5, hbw5, hg5⟩ := HS5.out
            have HM5 := hid (fun X (hX : Below w5.heap.size w5 X) => outMatch_any D N (out ++ lt L.length L) g (W0.heap.size + 1) vt5 (.slice (some ⟨b, off, none⟩) n c) (.map (some W0.heap.size)) X ⟨(hX.block g (box_lt he5)).trans he5, own_keep ho5 (keep_below hX), by have := box_lt he5; have := hX.size; omega⟩ hN4 hok.2.2 (by omega) (by omega))
            have y0 := cell_of_row _ _ 0 _ _ _ HTB5.out
            have y1 := cell_of_row _ _ 1 _ _ _ HTB5.out
            go_wp2_with fail
            refine region_tail 4 (fun X : World => X.cell? ⟨tb, 0, none⟩ = some (.int .i64 (D : Int)) ∧ X.cell? ⟨tb, 1, none⟩ = some (.int .i64 (N : Int))) (by kernel_rfl) ?_
            have hHeld : (fun X : World => X.cell? ⟨tb, 0, none⟩ = some (.int .i64 (D : Int)) ∧ X.cell? ⟨tb, 1, none⟩ = some (.int .i64 (N : Int))) w5.drew := ⟨y0, y1⟩
            dsimp only at hHeld
            refine' wpAnyT_take (i := 0) (oi := ?oieb0) (v := ?veb0) ?hieb0 (by kernel_rfl) (by kernel_rfl) ?hqeb0 ?hyeb0 hHeld ?resteb0
            case hieb0 => (simp only [List.getElem?_toArray, List.getElem?_cons_zero]; rfl)
            case hqeb0 => exact fun _ _ _ h => h
            case hyeb0 => (refine Or.inl ⟨by rfl, ?_⟩; intro w' hSw; (try dsimp only at hSw); go_simp; try with_reducible rfl)
            (try simp only [Act.put, List.setIfInBounds_toArray, List.set_cons_zero, List.set_cons_succ])
            refine' wpAnyT_take (i := 1) (oi := ?oieb1) (v := ?veb1) ?hieb1 (by kernel_rfl) (by kernel_rfl) ?hqeb1 ?hyeb1 hHeld ?resteb1
            case hieb1 => (simp only [List.getElem?_toArray, List.getElem?_cons_zero, List.getElem?_cons_succ]; rfl)
            case hqeb1 => exact fun _ _ _ h => h
            case hyeb1 => (refine Or.inl ⟨by rfl, ?_⟩; intro w' hSw; (try dsimp only at hSw); go_simp; try with_reducible rfl)
            (try simp only [Act.put, List.setIfInBounds_toArray, List.set_cons_zero, List.set_cons_succ])
            refine' wpAnyT_take (i := 2) (oi := ?oieb2) (v := ?veb2) ?hieb2 (by kernel_rfl) (by kernel_rfl) ?hqeb2 ?hyeb2 hHeld ?resteb2
            case hieb2 => (simp only [List.getElem?_toArray, List.getElem?_cons_zero, List.getElem?_cons_succ]; rfl)
            case hqeb2 => exact fun _ _ _ h => h
            case hyeb2 => (refine Or.inl ⟨by rfl, ?_⟩; intro w' hSw; (try dsimp only at hSw); go_simp; try with_reducible rfl)
            (try simp only [Act.put, List.setIfInBounds_toArray, List.set_cons_zero, List.set_cons_succ])
            refine' wpAnyT_take (i := 3) (oi := ?oieb3) (v := ?veb3) ?hieb3 (by kernel_rfl) (by kernel_rfl) ?hqeb3 ?hyeb3 hHeld ?resteb3
            case hieb3 => (simp only [List.getElem?_toArray, List.getElem?_cons_zero, List.getElem?_cons_succ]; rfl)
            case hqeb3 => exact fun _ _ _ h => h
            case hyeb3 => (refine Or.inl ⟨by rfl, ?_⟩; intro w' hSw; (try dsimp only at hSw); go_simp; try with_reducible rfl)
            (try simp only [Act.put, List.setIfInBounds_toArray, List.set_cons_zero, List.set_cons_succ])
            refine' wpAnyT_one (i := 4) (o := ?oieb4) (by kernel_rfl) ?hieb4 (fun K hK => ?steb4)
            case hieb4 => (simp only [List.getElem?_toArray, List.getElem?_cons_zero, List.getElem?_cons_succ]; rfl)
            go_simp
            go_at_call 45
            have hen5 : Enc w5.drew g (W0.heap.size + 1) vt5 (.slice (some ⟨b, off, none⟩) n c) (.map (some W0.heap.size)) (out ++ lt L.length L) := ⟨he5, ho5, by have h := box_lt he5; show _ ≤ w5.heap.size; omega⟩
            refine (HM5.out w5.drew (below_drew (Below.refl w5.heap.size w5))).mono ?_
            rintro e w6 ⟨⟨r, rfl⟩, v6, he6, hc6⟩
            have hs6 : St W0 w6 g x (.slice (some ⟨b, off, none⟩) n c) a (out ++ lt L.length L ++ [124 + N] ++ enc D) := St.chg (w := w5.drew) he5 ho5 (hp5.below (below_drew (Below.refl w5.heap.size w5))) (show Below W0.heap.size W0 w5.drew from ⟨hbw5.os, hbw5.tape, hbw5.output, hbw5.size, hbw5.block⟩) hg5 he6 hc6
            have htb6 : w6.heap[tb]? = some (.cells #[.int .i64 (D : Int), .int .i64 (N : Int)] 68) := chg_keep hen5 hc6 (by decide) (by decide) _ _ HTB5.out
            go_simp
            refine hK.out _ _ (fun h => absurd h (by decide)) ?_
            clear hK K
            (try simp only [Act.put, List.setIfInBounds_toArray, List.set_cons_zero, List.set_cons_succ])
            refine wpAnyT_done (by kernel_rfl) ?_ _
            have HS6 := hid hs6
            have HTB6 := hid htb6
            clear hs6 htb6 HS5 HTB5 HM5
            have y1 := cell_of_row _ _ 1 _ _ _ HTB6.out
            have hNN : (0 : Int) < (N : Int) := by omega
            obtain ⟨o6, ho6⟩ : ∃ o, out ++ lt L.length L ++ [124 + N] ++ enc D = o := ⟨_, rfl⟩
            rw [ho6] at HS6 HE2
            clear ho6
            go_wp2_with fail
            go_loopw [6, 54] (fun u6 j wy => ∃ i : Nat, i ≤ N ∧ u6 = .int .i64 ((a + i : Nat) : Int) ∧ j = .int .i64 (i : Int) ∧ Hid (St W0 wy g x (.slice (some ⟨b, off, none⟩) n c) (a + i) o6)) (fun _ j _ => N - (Go.RowKit.intOf j).toNat)
            case atStart => exact ⟨0, Nat.zero_le _, rfl, rfl, HS6⟩
            case round =>
              clear HS6
              obtain ⟨i, hi, rfl, rfl, HSI⟩ := hrel
              by_cases hiN : i < N
              · have hiN' : (i : Int) < (N : Int) := by omega
                have HEI := hid (enter_any W0 wr g (a + i) x o6 _ HSI.out HX.out (by rw [HN.out]; omega) (by rw [HN.out]; omega))
                go_wp2_with fail
                refine HEI.out.mono ?_
                rintro e w8 ⟨⟨r, rfl⟩, hs8, _, _⟩
                have HS8 := hid hs8
                clear hs8 HEI HSI
                go_wp2_with fail
                go_roundw
                case rel => exact ⟨i + 1, by omega, by go_num, by go_num, HS8⟩
                case measure => simp [Go.RowKit.intOf]; omega
              · obtain rfl : i = N := by omega
                go_wp2_with fail
                go_roundw
                case rel => exact ⟨a + i, a + i, f', o6, Nat.le_refl _, by omega, by omega, rfl, rfl, hid (by rw [Nat.sub_self, List.take_zero]; exact HE2.out), HSI⟩
                case measure => simp [Go.RowKit.intOf]; omega
        · obtain rfl : a = n := by omega
          obtain ⟨L, hL⟩ : ∃ L, x.drop u = L := ⟨_, rfl⟩
          have hLl : L.length = a - u := by rw [← hL, List.length_drop, HN.out]
          have HE2 : Hid (out ++ lt L.length L = TOT) := hid (by
            have h := HE.out
            rw [hL, List.take_of_length_le (by omega)] at h
            rcases f with _ | f
            · exact h
            · rw [en, if_neg (by rw [HN.out]; omega)] at h; exact h)
          have hbL : Byt W0 (.slice (fromA A c u) (a - u) (c - u)) L := by
            have h := byt_mid HX.out HN.out hua (Nat.le_refl _)
            rw [hL, List.take_of_length_le (by omega)] at h
            exact h
          have HBL := hid hbL
          have HLL := hid hLl
          have hsl := run_slice_from A a c u hua
          obtain ⟨q, hq⟩ : ∃ q, fromA A c u = q := ⟨_, rfl⟩
          have hqb : ∀ ad, q = some ad → 0 < L.length → ad.block < W0.heap.size := fun ad e hp => by
            obtain ⟨a0, h1, h2⟩ := from_block (hq.trans e)
            obtain ⟨b, off, h3, h4, _⟩ := byt_at HX.out (by rw [HN.out]; omega)
            rw [h1] at h3; injection h3 with h3
            rw [← h2, h3]; exact h4
          rw [hq] at hsl
          rw [hq] at HBL
          have HQB := hid hqb
          clear hL hLl hbL hq hqb HE
          go_wp2_with fail
          refine region_tail 9 (fun X : World => X.cell? ⟨g, 1, none⟩ = some (.slice A a c)) (by kernel_rfl) ?_
          have hHeld : (fun X : World => X.cell? ⟨g, 1, none⟩ = some (.slice A a c)) wr.drew := c1
          dsimp only at hHeld
          refine' wpAnyT_take (i := 0) (oi := ?oiec0) (v := ?vec0) ?hiec0 (by kernel_rfl) (by kernel_rfl) ?hqec0 ?hyec0 hHeld ?restec0
          case hiec0 => (simp only [List.getElem?_toArray, List.getElem?_cons_zero]; rfl)
          case hqec0 => exact fun _ _ _ h => h
          case hyec0 => (refine Or.inl ⟨by rfl, ?_⟩; intro w' hSw; (try dsimp only at hSw); go_simp; try with_reducible rfl)
          (try simp only [Act.put, List.setIfInBounds_toArray, List.set_cons_zero, List.set_cons_succ])
          refine' wpAnyT_take (i := 1) (oi := ?oiec1) (v := ?vec1) ?hiec1 (by kernel_rfl) (by kernel_rfl) ?hqec1 ?hyec1 hHeld ?restec1
          case hiec1 => (simp only [List.getElem?_toArray, List.getElem?_cons_zero, List.getElem?_cons_succ]; rfl)
          case hqec1 => exact fun _ _ _ h => h
          case hyec1 => (refine Or.inl ⟨by rfl, ?_⟩; intro w' hSw; (try dsimp only at hSw); go_simp; try with_reducible rfl)
          (try simp only [Act.put, List.setIfInBounds_toArray, List.set_cons_zero, List.set_cons_succ])
          refine' wpAnyT_take (i := 2) (oi := ?oiec2) (v := ?vec2) ?hiec2 (by kernel_rfl) (by kernel_rfl) ?hqec2 ?hyec2 hHeld ?restec2
          case hiec2 => (simp only [List.getElem?_toArray, List.getElem?_cons_zero, List.getElem?_cons_succ]; rfl)
          case hqec2 => exact fun _ _ _ h => h
          case hyec2 => (refine Or.inl ⟨by rfl, ?_⟩; intro w' hSw; (try dsimp only at hSw); go_simp; try with_reducible rfl)
          (try simp only [Act.put, List.setIfInBounds_toArray, List.set_cons_zero, List.set_cons_succ])
          refine' wpAnyT_take (i := 3) (oi := ?oiec3) (v := ?vec3) ?hiec3 (by kernel_rfl) (by kernel_rfl) ?hqec3 ?hyec3 hHeld ?restec3
          case hiec3 => (simp only [List.getElem?_toArray, List.getElem?_cons_zero, List.getElem?_cons_succ]; rfl)
          case hqec3 => exact fun _ _ _ h => h
          case hyec3 => (refine Or.inl ⟨by rfl, ?_⟩; intro w' hSw; (try dsimp only at hSw); go_simp; try with_reducible rfl)
          (try simp only [Act.put, List.setIfInBounds_toArray, List.set_cons_zero, List.set_cons_succ])
          refine' wpAnyT_take (i := 4) (oi := ?oiec4) (v := ?vec4) ?hiec4 (by kernel_rfl) (by kernel_rfl) ?hqec4 ?hyec4 hHeld ?restec4
          case hiec4 => (simp only [List.getElem?_toArray, List.getElem?_cons_zero, List.getElem?_cons_succ]; rfl)
          case hqec4 => exact fun _ _ _ h => h
          case hyec4 => (refine Or.inl ⟨by rfl, ?_⟩; intro w' hSw; (try dsimp only at hSw); go_simp; try with_reducible rfl)
          (try simp only [Act.put, List.setIfInBounds_toArray, List.set_cons_zero, List.set_cons_succ])
          refine' wpAnyT_take (i := 5) (oi := ?oiec5) (v := ?vec5) ?hiec5 (by kernel_rfl) (by kernel_rfl) ?hqec5 ?hyec5 hHeld ?restec5
          case hiec5 => (simp only [List.getElem?_toArray, List.getElem?_cons_zero, List.getElem?_cons_succ]; rfl)
          case hqec5 => exact fun _ _ _ h => h
          case hyec5 => (refine Or.inl ⟨by rfl, ?_⟩; intro w' hSw; (try dsimp only at hSw); go_simp; try with_reducible rfl)
          (try simp only [Act.put, List.setIfInBounds_toArray, List.set_cons_zero, List.set_cons_succ])
          refine' wpAnyT_take (i := 6) (oi := ?oiec6) (v := ?vec6) ?hiec6 (by kernel_rfl) (by kernel_rfl) ?hqec6 ?hyec6 hHeld ?restec6
          case hiec6 => (simp only [List.getElem?_toArray, List.getElem?_cons_zero, List.getElem?_cons_succ]; rfl)
          case hqec6 => exact fun _ _ _ h => h
          case hyec6 => (refine Or.inl ⟨by rfl, ?_⟩; intro w' hSw; (try dsimp only at hSw); go_simp; try with_reducible rfl)
          (try simp only [Act.put, List.setIfInBounds_toArray, List.set_cons_zero, List.set_cons_succ])
          refine' wpAnyT_take (i := 7) (oi := ?oiec7) (v := ?vec7) ?hiec7 (by kernel_rfl) (by kernel_rfl) ?hqec7 ?hyec7 hHeld ?restec7
          case hiec7 => (simp only [List.getElem?_toArray, List.getElem?_cons_zero, List.getElem?_cons_succ]; rfl)
          case hqec7 => exact fun _ _ _ h => h
          case hyec7 => (refine Or.inl ⟨by rfl, ?_⟩; intro w' hSw; (try dsimp only at hSw); go_simp; try with_reducible rfl)
          (try simp only [Act.put, List.setIfInBounds_toArray, List.set_cons_zero, List.set_cons_succ])
          refine' wpAnyT_take (i := 8) (oi := ?oiec8) (v := ?vec8) ?hiec8 (by kernel_rfl) (by kernel_rfl) ?hqec8 ?hyec8 hHeld ?restec8
          case hiec8 => (simp only [List.getElem?_toArray, List.getElem?_cons_zero, List.getElem?_cons_succ]; rfl)
          case hqec8 => exact fun _ _ _ h => h
          case hyec8 => (refine Or.inl ⟨by rfl, ?_⟩; intro w' hSw; (try dsimp only at hSw); go_simp; try with_reducible rfl)
          (try simp only [Act.put, List.setIfInBounds_toArray, List.set_cons_zero, List.set_cons_succ])
          refine' wpAnyT_one (i := 9) (o := ?oiec9) (by kernel_rfl) ?hiec9 (fun K hK => ?stec9)
          case hiec9 => (simp only [List.getElem?_toArray, List.getElem?_cons_zero, List.getElem?_cons_succ]; rfl)
          go_simp
          go_at_call 44
          obtain ⟨vt3, he3, ho3, hp3, hbw3, hg3⟩ := id HS.out
          refine (outLits_any L out g (W0.heap.size + 1) vt3 _ (.map (some W0.heap.size)) (.slice q (a - u) (c - u)) wr.drew ⟨he3, ho3, by have h := box_lt he3; show _ ≤ wr.heap.size; omega⟩ (show Byt wr _ L from HBL.out.below hbw3) (fun ad nn cc e hp e2 => by injection e with e e4; have h1 := HQB.out ad e (by rw [HLL.out]; omega); have h2 := (ho3.lt _ e2).1; omega) (fun ad nn cc e hp => by injection e with e e4; have h1 := HQB.out ad e (by rw [HLL.out]; omega); omega) (by omega) (by rw [HLL.out]; omega)).mono ?_
          rintro e w5 ⟨⟨r, rfl⟩, v5, he5, hc5⟩
          have hsf : St W0 w5 g x (.slice A a c) a TOT := by
            rw [← HE2.out]
            exact St.chg (w := wr.drew) he3 ho3 (hp3.below (below_drew (Below.refl wr.heap.size wr))) (show Below W0.heap.size W0 wr.drew from ⟨hbw3.os, hbw3.tape, hbw3.output, hbw3.size, hbw3.block⟩) hg3 he5 hc5
          go_simp
          refine hK.out _ _ (fun h => absurd h (by decide)) ?_
          clear hK K
          (try simp only [Act.put, List.setIfInBounds_toArray, List.set_cons_zero, List.set_cons_succ])
          refine wpAnyT_done (by kernel_rfl) ?_ _
          have HSF := hid hsf
          clear hsf
          go_wp2_with fail
          go_end0
          exact ⟨⟨_, rfl⟩, a, HSF.out⟩
end Go.Proofs.Ytldlddoealpomaa
