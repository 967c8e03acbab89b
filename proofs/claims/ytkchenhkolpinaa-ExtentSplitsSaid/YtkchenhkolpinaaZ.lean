/- The reference's Split. -/
import Derived.Test.YtkchenhkolpinaaQ
namespace Go.Proofs.Ytkchenhkolpinaa
open Go.RowKit

/-- What stands behind rounds over the pieces of an extent. -/
structure CutR (w0 wr : World) (eb : Nat) (v : Value) (s n : Int) (xs : List (Int × Int)) : Prop where
  ext : wr.heap[eb]? = some (.cells #[.int .i64 s, .int .i64 n] 44 (0, 0))
  own : wr.ownsRow w0.heap.size 44 2 v xs.length (xflat xs)
  ne : v.ownBlock ≠ some eb
  bel : Below w0.heap.size w0 wr

theorem cutr_step {w0 wr w1 : World} {eb : Nat} {v v' : Value} {s n m : Int} {xs : List (Int × Int)} (h : CutR w0 wr eb v s n xs) (heb : w0.heap.size ≤ eb)
    (hown' : w1.ownsRow w0.heap.size 44 2 v' (xs.length + 1) (xflat xs ++ xflat [(s, m)])) (hgrow : (wr.alloc (.cells (xflat [(s, m)]).toArray 44)).grownBy w1 v.ownBlock) (hat : v'.ownBlock = v.ownBlock ∨ v'.ownBlock = some (wr.alloc (.cells (xflat [(s, m)]).toArray 44)).heap.size) :
    w1.cell? ⟨eb, 0, none⟩ = some (.int .i64 s) ∧ w1.cell? ⟨eb, 1, none⟩ = some (.int .i64 n) ∧ w1.frozen? ⟨eb, 0, none⟩ = false ∧ w1.frozen? ⟨eb, 1, none⟩ = false ∧ (∃ g' cap', v' = .slice (some ⟨g', 0, none⟩) (xs.length + 1) cap') ∧
      Hid (CutR w0 ((w1.setCell ⟨eb, 0, none⟩ (.int .i64 (s + m))).setCell ⟨eb, 1, none⟩ (.int .i64 (n - m))) eb v' (s + m) (n - m) (xs ++ [(s, m)])) := by
  have hlt := (Array.getElem?_eq_some_iff.1 h.ext).1
  have he1 : w1.heap[eb]? = some (.cells #[.int .i64 s, .int .i64 n] 44 (0, 0)) := (hgrow.block eb (by simp; omega) (fun e => h.ne e.symm)).trans ((Below.heap_alloc _ _ _ hlt).trans h.ext)
  have hv'ne : v'.ownBlock ≠ some eb := by
    rcases hat with e | e
    · rw [e]; exact h.ne
    · rw [e]; simp; omega
  have hb1 : Below w0.heap.size w0 w1 := (h.bel.alloc h.bel.size _).grown hgrow (by have := h.bel.size; simp; omega) (fun q hq => (h.own.lt q hq).1)
  refine ⟨cell_of_row _ _ _ _ _ _ he1, cell_of_row _ _ _ _ _ _ he1, by unfold World.frozen?; rw [he1]; simp, by unfold World.frozen?; rw [he1]; simp, ownsRow_succ hown', hid ⟨?_, ?_, hv'ne, ?_⟩⟩
  · simp [World.setCell, Array.getElem?_modify, he1]
  · rw [xflat_append, List.length_append]
    exact ownsRow_setCell_other (ownsRow_setCell_other hown' hv'ne _) hv'ne _
  · exact (hb1.setCell (p := ⟨eb, 0, none⟩) heb _).setCell (p := ⟨eb, 1, none⟩) heb _

theorem splitL_take {most : Int} {l : List (Int × Int)} {k : Nat} {s n : Int} (he : Hid (l[k]? = some (s, n))) : splitL most (l.take (k + 1)) = splitL most (l.take k) ++ piece most s n := by
  rw [List.take_add_one, he.out]
  simp [splitL]
theorem cnt_le_range {l : List (Int × Int)} (h : Canon 0 l) : cnt l ≤ 4096 := (cnt_range h).2
theorem splitL_prefix {most : Int} (hm : 1 ≤ most) {l : List (Int × Int)} (h : Canon 0 l) (k : Nat) : (splitL most (l.take k)).length ≤ 4096 := by
  have h1 := splitL_length hm h
  have h2 := cnt_le_range h
  have h3 : splitL most l = splitL most (l.take k) ++ splitL most (l.drop k) := by rw [← splitL_append, List.take_append_drop]
  rw [h3, List.length_append] at h1
  omega

set_option maxHeartbeats 4000000 in
set_option maxRecDepth 100000 in
theorem refSplit_in (a : List (Int × Int)) (va : Value) (most : Int) (w : World) (ha : Ext w va a) (la : a.length ≤ 10000) (hm : 1 ≤ most) (hmr : R64 most) :
    Calls Try.prog 32 #[va, .int .i64 most] w fun e w' => ∃ v l, e = .returned (.tuple #[v, .int .i64 0]) ∧ Canon 0 l ∧ (∀ x, mem l x = mem a x) ∧ Ext w' v (splitL most l) ∧ Below w.heap.size w w' := by
  have HA := hid (marks_any a va w ha la)
  obtain ⟨i0, hinf, hz0, hz1, hz2⟩ := info_parts info44
  obtain ⟨A, ca, hva⟩ : ∃ A ca, va = .slice A a.length ca := by obtain ⟨_, A, ca, h, _⟩ := ha; exact ⟨A, ca, h⟩
  subst hva
  clear ha
  obtain ⟨_, hmr2⟩ := hmr
  go_enter Try.func32, Try.ntmps32
  go_wp2_with (first | (go_at_call 37; refine HA.out.mono ?_; rintro e w1 ⟨g1, rfl, hm1, hg1, hb1⟩; have HL := hid (list_any g1 4096 4096 _ w1 hm1 (Nat.le_refl _) (Nat.le_refl _) (Nat.le_refl _)); have HB1 := hid hb1; clear hm1 hb1; clear HA) | (go_at_call 36; refine HL.out.mono ?_; rintro e w3 ⟨vl, l, rfl, hcan, hmem, hext, hb3⟩; have HCAN := hid hcan; have HMEM := hid (fun x => (hmem x).trans (both_range (fun p _ => p) rfl a a x)); have HB3 := hid (below_both HB1.out hb3); have hll := len_of_canon hcan; clear hcan hmem hb3; obtain ⟨hr, A3, cap3, hvl, hcap3, hcm3, b, off, hA, hc⟩ := hext; subst hvl; have HC := hid hc; clear hc hr))
  clear HL HB1
  go_loopw [6, 8] (fun v i wr => ∃ k : Nat, k ≤ l.length ∧ i = .int .i64 k ∧ wr.ownsRow w3.heap.size 44 2 v (splitL most (l.take k)).length (xflat (splitL most (l.take k))) ∧ Below w3.heap.size w3 wr) (fun _ i _ => l.length - (intOf i).toNat)
  case atStart => exact ⟨0, Nat.zero_le _, rfl, World.ownsRow_nil _ _ _ _, Below.refl _ _⟩
  case round =>
    obtain ⟨k, hk, rfl, hown, hB⟩ := hrel
    by_cases hlt : k < l.length
    · obtain ⟨hA1, hb⟩ := hA (by omega)
      subst hA1
      obtain ⟨⟨s, n⟩, he⟩ : ∃ e, l[k]? = some e := ⟨l[k], List.getElem?_eq_getElem hlt⟩
      obtain ⟨hs0, hn0, hsn⟩ := canon_each HCAN.out (s, n) (List.mem_of_getElem? he)
      have hc1 := (hB.cell (p := ⟨b, off + k * 2, none⟩) hb).trans (HC.out k _ he).1
      have hc2 := (hB.cell (p := ⟨b, off + k * 2 + 1, none⟩) hb).trans (HC.out k _ he).2
      have HE := hid he
      clear he
      dsimp only at hc1 hc2 hs0 hn0 hsn
      have heb := hB.size
      have HCUT : Hid (CutR w3 (wr.alloc (.cells #[.int .i64 s, .int .i64 n] 44)) wr.heap.size u6 s n (splitL most (l.take k))) := hid ⟨heap_alloc_new wr _, hown.alloc _, fun e => by have := (hown.lt _ e).2; omega, hB.alloc heb _⟩
      have hnext := splitL_take (most := most) HE
      have HN := hid hnext
      have hpre := splitL_prefix hm HCAN.out (k + 1)
      rw [hnext, List.length_append] at hpre
      obtain ⟨p0, hp0⟩ : ∃ p0, splitL most (l.take k) = p0 := ⟨_, rfl⟩
      obtain ⟨eb, heb2⟩ : ∃ eb, wr.heap.size = eb := ⟨_, rfl⟩
      rw [hp0] at HCUT hpre
      rw [heb2] at HCUT heb
      have HP0 := hid hp0
      have HEB := hid heb2
      clear hnext hown hB hp0 heb2
      go_wp2
      rw [HEB.out]
      go_loopw [6] (fun v wi => ∃ (s' n' : Int) (dn : List (Int × Int)), Hid (CutR w3 wi eb v s' n' (p0 ++ dn)) ∧ Hid (dn ++ piece most s' n' = piece most s n) ∧ 0 ≤ s' ∧ 0 ≤ n' ∧ s' + n' ≤ 4096) (fun _ wi => cellNat wi eb)
      case atStart => exact ⟨s, n, [], by rw [List.append_nil]; exact HCUT, hid rfl, hs0, by omega, hsn⟩
      case round =>
        obtain ⟨s', n', dn, HCut', HD, hs', hn', hsn'⟩ := hrel
        clear HCUT
        have x0 : wr.cell? ⟨eb, 0, none⟩ = some (.int .i64 s') := cell_of_row _ _ _ _ _ _ HCut'.out.ext
        have x1 : wr.cell? ⟨eb, 1, none⟩ = some (.int .i64 n') := cell_of_row _ _ _ _ _ _ HCut'.out.ext
        have HCN := hid (cellNat_of HCut'.out.ext)
        have hsz := HCut'.out.bel.size
        by_cases hpos : 0 < n'
        · have hown' := HCut'.out.own
          have hpp := piece_pos (s := s') hm hpos
          have hlen : (p0 ++ dn).length ≤ 4096 := by
            have h := congrArg List.length HD.out
            rw [List.length_append] at h ⊢
            omega
          obtain ⟨xs, hxs⟩ : ∃ xs, p0 ++ dn = xs := ⟨_, rfl⟩
          rw [hxs] at hown' hlen HCut'
          have HXS := hid hxs
          obtain ⟨m, hmin⟩ : ∃ m, min n' most = m := ⟨_, rfl⟩
          have hm1 : 1 ≤ m := by omega
          have hm2 : m ≤ n' := by omega
          rw [hmin] at hpp
          have HPP := hid hpp
          clear hpp hxs
          have hb44 := fun X => build44 s' m X
          have hb44' := fun X => build44 (s' + m) (n' - m) X
          go_wp2_with (at_builtin; refine wpList_append_own_at _ rfl _ _ 22 rfl w3.heap.size 44 i0 (.agg #[.int .i64 0, .int .i64 0]) 2 16 Try.underlying22 hinf hz0 hz1 hz2 rfl (by decide) _ _ _ rfl (hown'.alloc _) ⟨wr.heap.size, 0, none⟩ 1 1 _ rfl (xflat_length [(s', m)]) (cells_new wr 44 _) (one_cells s' m) (by unfold maxLen; omega) (by omega) (by simp; omega) ?_; intro v'' w4 hown'' hgrow _ hat; obtain ⟨y0, y1, y2, y3, ⟨g', cap', hv'⟩, HS⟩ := cutr_step HCut'.out heb hown'' hgrow hat; subst hv'; clear hown'' hgrow hat hown')
          go_roundw
          case rel =>
            refine ⟨s' + m, n' - m, dn ++ [(s', m)], ?_, hid ?_, by omega, by omega, by omega⟩
            · rw [← List.append_assoc, HXS.out]
              exact HS
            · rw [← HD.out, HPP.out]
              simp
          case measure =>
            rw [HCN.out, cellNat_of HS.out.ext]
            omega
        · have hpn := piece_none (most := most) (s := s') hpos
          have hdn : dn = piece most s n := by have := HD.out; rw [hpn, List.append_nil] at this; exact this
          subst hdn
          clear hpn
          have hown2 := HCut'.out.own
          have hbel2 := HCut'.out.bel
          rw [← HP0.out, ← HN.out] at hown2
          have HO2 := hid hown2
          have HBEL2 := hid hbel2
          clear hown2 hbel2
          go_wp2
          go_roundw
          case rel => exact ⟨k + 1, by omega, by go_num, HO2.out, HBEL2.out⟩
          case measure => simp [intOf]; omega
    · obtain rfl : k = l.length := by omega
      rw [List.take_length] at hown
      go_wp2
      go_ret2
      exact ⟨_, l, rfl, HCAN.out, HMEM.out, ext_of_own hown (splitL_r64 hm HCAN.out), below_both HB3.out hB⟩

theorem refSplit_any (a : List (Int × Int)) (va : Value) (most : Int) (w : World) (ha : Ext w va a) (la : a.length ≤ 10000) (hmr : R64 most) :
    Calls Try.prog 32 #[va, .int .i64 most] w fun e w' => ∃ v l, e = .returned (.tuple #[v, .int .i64 (if most ≤ 0 then 1 else 0)]) ∧ Canon 0 l ∧ (0 < most → ∀ x, mem l x = mem a x) ∧ Ext w' v (if most ≤ 0 then [] else splitL most l) ∧ Below w.heap.size w w' := by
  by_cases hm : most ≤ 0
  · rw [if_pos hm]
    simp only [if_pos hm]
    have HM := hid hm
    obtain ⟨A, ca, hva⟩ : ∃ A ca, va = .slice A a.length ca := by obtain ⟨_, A, ca, h, _⟩ := ha; exact ⟨A, ca, h⟩
    subst hva
    clear ha
    have hm1 : most < 1 := by omega
    go_enter Try.func32, Try.ntmps32
    go_wp2
    go_ret2
    exact ⟨_, [], rfl, trivial, fun h => by have := HM.out; omega, ext_nil _, Below.refl _ _⟩
  · rw [if_neg hm]
    simp only [if_neg hm]
    refine (refSplit_in a va most w ha la (by omega) hmr).mono ?_
    rintro e w' ⟨v, l, he, h1, h2, h3, h4⟩
    exact ⟨v, l, he, h1, fun _ => h2, h3, h4⟩
end Go.Proofs.Ytkchenhkolpinaa
