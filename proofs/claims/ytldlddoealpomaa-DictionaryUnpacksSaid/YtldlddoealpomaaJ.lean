/- The decoder's box; literals. -/
import Derived.Test.YtldlddoealpomaaRe
namespace Go.Proofs.Ytldlddoealpomaa
open Go.RowKit Go.Lib

theorem bx_0 {w : World} {g : Nat} {a b c : Value} {t : TypeId} (h : w.heap[g]? = some (.cells #[a, b, c] t)) (v : Value) : (w.setCell ⟨g, 0, none⟩ v).heap[g]? = some (.cells #[v, b, c] t) := by
  show (w.heap.modify g _)[g]? = _
  obtain ⟨hlt, hk⟩ := Array.getElem?_eq_some_iff.1 h
  rw [Array.getElem?_eq_getElem (by rw [Array.size_modify]; exact hlt), Array.getElem_modify_self, hk]
  rfl
theorem bx_1 {w : World} {g : Nat} {a b c : Value} {t : TypeId} (h : w.heap[g]? = some (.cells #[a, b, c] t)) (v : Value) : (w.setCell ⟨g, 1, none⟩ v).heap[g]? = some (.cells #[a, v, c] t) := by
  show (w.heap.modify g _)[g]? = _
  obtain ⟨hlt, hk⟩ := Array.getElem?_eq_some_iff.1 h
  rw [Array.getElem?_eq_getElem (by rw [Array.size_modify]; exact hlt), Array.getElem_modify_self, hk]
  rfl
theorem bx_2 {w : World} {g : Nat} {a b c : Value} {t : TypeId} (h : w.heap[g]? = some (.cells #[a, b, c] t)) (v : Value) : (w.setCell ⟨g, 2, none⟩ v).heap[g]? = some (.cells #[a, b, v] t) := by
  show (w.heap.modify g _)[g]? = _
  obtain ⟨hlt, hk⟩ := Array.getElem?_eq_some_iff.1 h
  rw [Array.getElem?_eq_getElem (by rw [Array.size_modify]; exact hlt), Array.getElem_modify_self, hk]
  rfl
/-- The decoder in block g: the text t in a row of its own, room, and the rest s. -/
def Dc (w0 w : World) (g base : Nat) (t : List Nat) (room : Nat) (s : List Nat) : Prop :=
  ∃ vt vr, w.heap[g]? = some (.cells #[vt, .int .i64 (room : Int), vr] 57) ∧ w.ownsRow base 5 1 vt t.length (t.map byteV) ∧ Byt w0 vr s ∧ NilOk vr
/-- What a step of the decoder answers. -/
def DcQ (w0 w : World) (g base : Nat) (x : Except Int (List Nat × Nat × List Nat)) (e : Ending) (w' : World) : Prop :=
  Below base w w' ∧ ((∃ er, x = .error er ∧ er ≠ 0 ∧ e = .returned (.int .i64 er)) ∨ (∃ t room s, x = .ok (t, room, s) ∧ e = .returned (.int .i64 0) ∧ Dc w0 w' g base t room s))
theorem own_not {w : World} {g base n : Nat} {a : Array Value} {v : Value} {xs : List Value} (hb : w.heap[g]? = some (.cells a 57)) (ho : w.ownsRow base 5 1 v n xs) : v.ownBlock ≠ some g := by
  rcases ho.2 with ⟨rfl, _⟩ | ⟨k, cap, cur, rfl, _, hgb, _⟩
  · simp [Value.ownBlock]
  · intro e
    obtain rfl : k = g := by simpa [Value.ownBlock] using e
    have := hb.symm.trans hgb
    simp at this
theorem box_grown {w w2 : World} {g base n : Nat} {a : Array Value} {v : Value} {xs : List Value} (hb : w.heap[g]? = some (.cells a 57)) (ho : w.ownsRow base 5 1 v n xs) (hg : w.grownBy w2 v.ownBlock) : w2.heap[g]? = some (.cells a 57) :=
  keep_grown (T := 57) ho (by decide) hg g a hb
theorem run_slice_to' (A : Option Addr) (n c k : Nat) (hk : k ≤ n) (hc : n ≤ c) (W : World) : (Instr.slice 22 (.slice A n c) none (some (.int .i64 (k : Int))) none).run Try.prog W = .ok (.slice A k c) W := run_slice_to A n c k (by omega) W

set_option maxHeartbeats 2000000 in
set_option maxRecDepth 100000 in
theorem lits_any (n : Nat) (t : List Nat) (room : Nat) (s : List Nat) (g base : Nat) (w0 w : World) (hb0 : Below w0.heap.size w0 w) (hd : Dc w0 w g base t room s) (hbg : base ≤ g) (hn : n ≤ 1000) (hn0 : 0 < n) (ht : t.length ≤ 900000000000) (hl : s.length ≤ 900000000000) (hr : room ≤ 9223372036854775807) :
    Calls Try.prog 47 #[.pointer (some ⟨g, 0, none⟩), .int .i64 (n : Int)] w (DcQ w0 w g base (lit n t room s)) := by
  obtain ⟨vt, vr, hb, ho, hs, hns⟩ := hd
  obtain ⟨A, c, rfl⟩ := byt_form hs
  obtain ⟨aT, cT, rfl⟩ := own_form ho
  have hcc := byt_cap hs
  have c0 : w.cell? ⟨g, 0, none⟩ = some (.slice aT t.length cT) := cell_of_row _ _ 0 _ _ _ hb
  have c1 : w.cell? ⟨g, 1, none⟩ = some (.int .i64 (room : Int)) := cell_of_row _ _ 1 _ _ _ hb
  have c2 : w.cell? ⟨g, 2, none⟩ = some (.slice A s.length c) := cell_of_row _ _ 2 _ _ _ hb
  have hgl := box_lt hb
  unfold lit
  by_cases h1 : s.length < n
  · rw [if_pos h1]
    clear hb ho hs hns
    go_enter Try.func47, Try.ntmps47
    go_wp2
    go_ret
    exact ⟨Below.refl _ _, .inl ⟨10, rfl, by decide, rfl⟩⟩
  · rw [if_neg h1]
    by_cases h2 : room < n
    · rw [if_pos h2]
      clear hb ho hs hns
      go_enter Try.func47, Try.ntmps47
      go_wp2
      go_ret
      exact ⟨Below.refl _ _, .inl ⟨5, rfl, by decide, rfl⟩⟩
    · rw [if_neg h2]
      obtain ⟨ad, rfl⟩ : ∃ ad, A = some ad := by
        rcases A with _ | ad
        · have := byt_none hs; subst this; simp at h1; omega
        · exact ⟨ad, rfl⟩
      have HB := hid hb
      have HO := hid (show w.drew.ownsRow base 5 1 (.slice aT t.length cT) t.length (t.map byteV) from ho)
      have HC : Hid (Byt w.drew (.slice (some ad) n c) (s.take n)) := hid ((byt_cut (k := n) hs (by omega)).below (below_drew hb0))
      have HF := hid (byt_from (k := n) hs (by omega))
      have HFN := hid (nilOk_from (k := n) hns)
      have HB0 := hid hb0
      have htk : (s.take n).length = n := by rw [List.length_take]; omega
      have HTK := hid htk
      have hst := run_slice_to' (some ad) s.length c n (by omega) hcc
      have hsf := run_slice_from (some ad) s.length c n (by omega)
      have hHeld : w.drew.cell? ⟨g, 0, none⟩ = some (.slice aT t.length cT) ∧ w.drew.cell? ⟨g, 2, none⟩ = some (.slice (some ad) s.length c) := ⟨c0, c2⟩
      obtain ⟨N, hN⟩ : ∃ N, t.length = N := ⟨_, rfl⟩
      have HN := hid hN
      rw [hN] at HO hHeld HB c0 ht
      clear hb ho hs hns hb0 hN htk
      go_enter Try.func47, Try.ntmps47
      go_wp2_with fail
      refine region_tail 14 (fun X : World => X.cell? ⟨g, 0, none⟩ = some (.slice aT N cT) ∧ X.cell? ⟨g, 2, none⟩ = some (.slice (some ad) s.length c)) (by kernel_rfl) ?_
      refine' wpAnyT_take (i := 0) (oi := ?oia0) (v := ?va0) ?hia0 (by kernel_rfl) (by kernel_rfl) ?hqa0 ?hya0 hHeld ?resta0
      case hia0 => (simp only [List.getElem?_toArray, List.getElem?_cons_zero]; rfl)
      case hqa0 => exact fun _ _ _ h => h
      case hya0 => (refine Or.inl ⟨by rfl, ?_⟩; intro w' hSw; (try dsimp only at hSw); go_simp; try with_reducible rfl)
      (try simp only [Act.put, List.setIfInBounds_toArray, List.set_cons_zero, List.set_cons_succ])
      refine' wpAnyT_take (i := 1) (oi := ?oia1) (v := ?va1) ?hia1 (by kernel_rfl) (by kernel_rfl) ?hqa1 ?hya1 hHeld ?resta1
      case hia1 => (simp only [List.getElem?_toArray, List.getElem?_cons_zero, List.getElem?_cons_succ]; rfl)
      case hqa1 => exact fun _ _ _ h => h
      case hya1 => (refine Or.inl ⟨by rfl, ?_⟩; intro w' hSw; (try dsimp only at hSw); go_simp; try with_reducible rfl)
      (try simp only [Act.put, List.setIfInBounds_toArray, List.set_cons_zero, List.set_cons_succ])
      refine' wpAnyT_take (i := 2) (oi := ?oia2) (v := ?va2) ?hia2 (by kernel_rfl) (by kernel_rfl) ?hqa2 ?hya2 hHeld ?resta2
      case hia2 => (simp only [List.getElem?_toArray, List.getElem?_cons_zero, List.getElem?_cons_succ]; rfl)
      case hqa2 => exact fun _ _ _ h => h
      case hya2 => (refine Or.inl ⟨by rfl, ?_⟩; intro w' hSw; (try dsimp only at hSw); go_simp; try with_reducible rfl)
      (try simp only [Act.put, List.setIfInBounds_toArray, List.set_cons_zero, List.set_cons_succ])
      refine' wpAnyT_take (i := 3) (oi := ?oia3) (v := ?va3) ?hia3 (by kernel_rfl) (by kernel_rfl) ?hqa3 ?hya3 hHeld ?resta3
      case hia3 => (simp only [List.getElem?_toArray, List.getElem?_cons_zero, List.getElem?_cons_succ]; rfl)
      case hqa3 => exact fun _ _ _ h => h
      case hya3 => (refine Or.inl ⟨by rfl, ?_⟩; intro w' hSw; (try dsimp only at hSw); go_simp; try with_reducible rfl)
      (try simp only [Act.put, List.setIfInBounds_toArray, List.set_cons_zero, List.set_cons_succ])
      refine' wpAnyT_take (i := 4) (oi := ?oia4) (v := ?va4) ?hia4 (by kernel_rfl) (by kernel_rfl) ?hqa4 ?hya4 hHeld ?resta4
      case hia4 => (simp only [List.getElem?_toArray, List.getElem?_cons_zero, List.getElem?_cons_succ]; rfl)
      case hqa4 => exact fun _ _ _ h => h
      case hya4 => (refine Or.inl ⟨by rfl, ?_⟩; intro w' hSw; (try dsimp only at hSw); go_simp; try with_reducible rfl)
      (try simp only [Act.put, List.setIfInBounds_toArray, List.set_cons_zero, List.set_cons_succ])
      refine' wpAnyT_take (i := 5) (oi := ?oia5) (v := ?va5) ?hia5 (by kernel_rfl) (by kernel_rfl) ?hqa5 ?hya5 hHeld ?resta5
      case hia5 => (simp only [List.getElem?_toArray, List.getElem?_cons_zero, List.getElem?_cons_succ]; rfl)
      case hqa5 => exact fun _ _ _ h => h
      case hya5 => (refine Or.inl ⟨by rfl, ?_⟩; intro w' hSw; (try dsimp only at hSw); go_simp; try with_reducible rfl)
      (try simp only [Act.put, List.setIfInBounds_toArray, List.set_cons_zero, List.set_cons_succ])
      refine' wpAnyT_take (i := 6) (oi := ?oia6) (v := ?va6) ?hia6 (by kernel_rfl) (by kernel_rfl) ?hqa6 ?hya6 hHeld ?resta6
      case hia6 => (simp only [List.getElem?_toArray, List.getElem?_cons_zero, List.getElem?_cons_succ]; rfl)
      case hqa6 => exact fun _ _ _ h => h
      case hya6 => (refine Or.inl ⟨by rfl, ?_⟩; intro w' hSw; (try dsimp only at hSw); go_simp; try with_reducible rfl)
      (try simp only [Act.put, List.setIfInBounds_toArray, List.set_cons_zero, List.set_cons_succ])
      refine' wpAnyT_take (i := 7) (oi := ?oia7) (v := ?va7) ?hia7 (by kernel_rfl) (by kernel_rfl) ?hqa7 ?hya7 hHeld ?resta7
      case hia7 => (simp only [List.getElem?_toArray, List.getElem?_cons_zero, List.getElem?_cons_succ]; rfl)
      case hqa7 => exact fun _ _ _ h => h
      case hya7 => (refine Or.inl ⟨by rfl, ?_⟩; intro w' hSw; (try dsimp only at hSw); go_simp; try with_reducible rfl)
      (try simp only [Act.put, List.setIfInBounds_toArray, List.set_cons_zero, List.set_cons_succ])
      refine' wpAnyT_take (i := 8) (oi := ?oia8) (v := ?va8) ?hia8 (by kernel_rfl) (by kernel_rfl) ?hqa8 ?hya8 hHeld ?resta8
      case hia8 => (simp only [List.getElem?_toArray, List.getElem?_cons_zero, List.getElem?_cons_succ]; rfl)
      case hqa8 => exact fun _ _ _ h => h
      case hya8 => (refine Or.inl ⟨by rfl, ?_⟩; intro w' hSw; (try dsimp only at hSw); go_simp; try with_reducible rfl)
      (try simp only [Act.put, List.setIfInBounds_toArray, List.set_cons_zero, List.set_cons_succ])
      refine' wpAnyT_take (i := 9) (oi := ?oia9) (v := ?va9) ?hia9 (by kernel_rfl) (by kernel_rfl) ?hqa9 ?hya9 hHeld ?resta9
      case hia9 => (simp only [List.getElem?_toArray, List.getElem?_cons_zero, List.getElem?_cons_succ]; rfl)
      case hqa9 => exact fun _ _ _ h => h
      case hya9 => (refine Or.inl ⟨by rfl, ?_⟩; intro w' hSw; (try dsimp only at hSw); go_simp; try with_reducible rfl)
      (try simp only [Act.put, List.setIfInBounds_toArray, List.set_cons_zero, List.set_cons_succ])
      refine' wpAnyT_take (i := 10) (oi := ?oia10) (v := ?va10) ?hia10 (by kernel_rfl) (by kernel_rfl) ?hqa10 ?hya10 hHeld ?resta10
      case hia10 => (simp only [List.getElem?_toArray, List.getElem?_cons_zero, List.getElem?_cons_succ]; rfl)
      case hqa10 => exact fun _ _ _ h => h
      case hya10 => (refine Or.inl ⟨by rfl, ?_⟩; intro w' hSw; (try dsimp only at hSw); go_simp; try with_reducible rfl)
      (try simp only [Act.put, List.setIfInBounds_toArray, List.set_cons_zero, List.set_cons_succ])
      refine' wpAnyT_one (i := 11) (o := ?oib11) (by kernel_rfl) ?hib11 (fun K hK => ?stb11)
      case hib11 => (simp only [List.getElem?_toArray, List.getElem?_cons_zero, List.getElem?_cons_succ]; rfl)
      refine step_append_byt rfl (.tmp 22) (.tmp 28) rfl base (.slice aT N cT) N _ (by simp [Act.eval]) HO.out (s.take n) ad n c (by simp [Act.eval]) HC.out (by rw [HTK.out]; omega) (by simp; omega) ?_
      intro v2 w2 ho2 hg2
      rw [HTK.out] at ho2
      obtain ⟨av, cv, rfl⟩ := own_form ho2
      have hb2 := box_grown (show w.drew.heap[g]? = some (.cells #[.slice aT N cT, .int .i64 (room : Int), .slice (some ad) s.length c] 57) from HB.out) HO.out hg2
      have HNB := hid (own_not hb2 ho2)
      have HBE := hid (show Below base w w2 from ((below_drew (Below.refl base w)).grown hg2 (by simp; omega) (fun k e => (HO.out.lt k e).1)))
      have HO2 := hid ho2
      have HB2 := hid hb2
      clear hg2 ho2 hb2 hHeld
      have hHeld : w2.cell? ⟨g, 0, none⟩ = some (.slice aT N cT) ∧ w2.cell? ⟨g, 2, none⟩ = some (.slice (some ad) s.length c) := ⟨cell_of_row _ _ 0 _ _ _ HB2.out, cell_of_row _ _ 2 _ _ _ HB2.out⟩
      have f0 := box_fr HB2.out 0
      refine hK.out _ _ (fun _ => hHeld) ?_
      clear hK K
      (try simp only [Act.put, List.setIfInBounds_toArray, List.set_cons_zero, List.set_cons_succ])
      refine' wpAnyT_one (i := 12) (o := ?oic12) (by kernel_rfl) ?hic12 (fun K hK => ?stc12)
      case hic12 => (simp only [List.getElem?_toArray, List.getElem?_cons_zero, List.getElem?_cons_succ]; rfl)
      go_simp
      refine hK.out _ _ (fun _ => hHeld) ?_
      clear hK K
      (try simp only [Act.put, List.setIfInBounds_toArray, List.set_cons_zero, List.set_cons_succ])
      refine' wpAnyT_one (i := 13) (o := ?oic13) (by kernel_rfl) ?hic13 (fun K hK => ?stc13)
      case hic13 => (simp only [List.getElem?_toArray, List.getElem?_cons_zero, List.getElem?_cons_succ]; rfl)
      go_simp
      refine hK.out _ _ (fun _ => hHeld) ?_
      clear hK K
      (try simp only [Act.put, List.setIfInBounds_toArray, List.set_cons_zero, List.set_cons_succ])
      refine' wpAnyT_one (i := 14) (o := ?oic14) (by kernel_rfl) ?hic14 (fun K hK => ?stc14)
      case hic14 => (simp only [List.getElem?_toArray, List.getElem?_cons_zero, List.getElem?_cons_succ]; rfl)
      go_simp
      refine hK.out _ _ (fun h => absurd h (by decide)) ?_
      clear hK K
      (try simp only [Act.put, List.setIfInBounds_toArray, List.set_cons_zero, List.set_cons_succ])
      refine wpAnyT_done (by kernel_rfl) ?_ _
      have HB3 := hid (bx_0 HB2.out (.slice av (N + n) cv))
      have HO3 := hid (show (w2.setCell ⟨g, 0, none⟩ (.slice av (N + n) cv)).ownsRow base 5 1 (.slice av (N + n) cv) (N + n) (t.map byteV ++ (s.take n).map byteV) from ownsRow_setCell_other HO2.out HNB.out _)
      have HBE3 := hid (show Below base w (w2.setCell ⟨g, 0, none⟩ (.slice av (N + n) cv)) from HBE.out.setCell hbg _)
      clear hHeld f0 c0 c1 c2 HBE HB2 HO2 HO HB
      obtain ⟨W, hW⟩ : ∃ W, w2.setCell ⟨g, 0, none⟩ (.slice av (N + n) cv) = W := ⟨_, rfl⟩
      rw [hW] at HB3 HO3 HBE3 ⊢
      clear hW
      have c1 : W.cell? ⟨g, 1, none⟩ = some (.int .i64 (room : Int)) := cell_of_row _ _ 1 _ _ _ HB3.out
      have c2 : W.cell? ⟨g, 2, none⟩ = some (.slice (some ad) s.length c) := cell_of_row _ _ 2 _ _ _ HB3.out
      have f1 := box_fr HB3.out 1
      have f2 := box_fr HB3.out 2
      go_wp2
      go_ret
      have hrn : Value.int .i64 ((room : Int) - (n : Int)) = .int .i64 ((room - n : Nat) : Int) := int_eq (by omega)
      rw [hrn]
      refine ⟨(HBE3.out.setCell hbg _).setCell hbg _, .inr ⟨_, _, _, rfl, rfl, _, _, bx_1 (bx_2 HB3.out _) _, ?_, HF.out, HFN.out⟩⟩
      rw [List.length_append, List.map_append, HTK.out, HN.out]
      exact ownsRow_setCell_other (ownsRow_setCell_other HO3.out HNB.out _) HNB.out _
end Go.Proofs.Ytldlddoealpomaa
