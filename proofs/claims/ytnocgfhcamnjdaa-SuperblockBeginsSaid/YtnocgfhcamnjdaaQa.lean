/- occurrences. -/
import Derived.Test.YtnocgfhcamnjdaaQ
namespace Go.Proofs.Ytnocgfhcamnjdaa
open Go.RowKit Go.Lib Go.Maps

theorem step_append_at {P : Program} {ops : Array Oper} {o : Oper} {a : Act} {w : World} {K : Act → World → Prop} {Q : Exit → Act → World → Prop} {E : Prop}
    (hg : o.guard = none) (s x : Operand) (t : TypeId) (hop : o.op = Op.call { callee := Callee.builtin Builtin.append, args := #[s, x], argTypes := #[t, t] })
    (base : Nat) (e : TypeId) (i : TypeInfo) (z : Value) (size bytes : Nat) (h1 : P.underlying t = some (.slice e)) (h2 : P.info? e = some i) (h3 : i.zero = some z) (h4 : i.size = size) (h5 : i.bytes = bytes) (h6 : z.cells.size = size) (h7 : 0 < size)
    (v : Value) (n : Nat) (olds : List Value) (hs : a.eval s = v) (hown : w.ownsRow base e size v n olds)
    (ad : Addr) (m c : Nat) (news : List Value) (hx : a.eval x = .slice (some ad) m c) (hn : news.length = m * size) (hc : ∀ j u, news[j]? = some u → w.cell? (ad.add j) = some u) (h1c : ∀ u ∈ news, u.oneCell' = true)
    (b1 : n + m ≤ maxLen) (b2 : (n + m) * bytes ≤ 140737488355328) (hbase : base ≤ w.heap.size)
    (hK : ∀ v' w', w'.ownsRow base e size v' (n + m) (olds ++ news) → w.grownBy w' v.ownBlock → (v'.ownBlock = v.ownBlock ∨ v'.ownBlock = some w.heap.size) → K (a.put o.dst v') w') :
    if Region.wanted o (yielded ops a.tmps) = true then Oper.wp P o a w K Q else E := by
  have hw : Region.wanted o (yielded ops a.tmps) = true := by simp [Region.wanted, hg]
  rw [if_pos hw]
  obtain ⟨v', w', hrun, r1, r2, _, r3⟩ := run_append_own_at (P := P) (w := w) base t o.type e i z size bytes h1 h2 h3 h4 h5 h6 h7 v n olds hown ad m c news hn hc h1c b1 b2 hbase
  unfold Oper.wp
  simp [execOp, hop, resolve, invoke, builtin, hs, hx, hrun, Result.andThen]
  exact hK v' w' r1 r2 r3
set_option maxHeartbeats 8000000 in
set_option maxRecDepth 100000 in
theorem occurrences_any (ca : List Ca) (cv : Value) (w : World) (hc : Cas w cv ca) (hl : ca.length ≤ 1000000) :
    Calls Try.prog 52 #[cv] w fun e w' => ∃ bm, e = .returned (.map (some bm)) ∧ w.heap.size ≤ bm ∧ Occ w' bm ca ∧ Below w.heap.size w w' := by
  obtain ⟨i0, hi, hz0, hz1, hz2⟩ := info_parts info73
  obtain ⟨C, d, rfl⟩ := cas_form hc
  obtain ⟨N, hN⟩ : ∃ n, ca.length = n := ⟨_, rfl⟩
  rw [hN] at hc hl ⊢
  obtain ⟨bm, hbm⟩ : ∃ h, w.heap.size = h := ⟨_, rfl⟩
  obtain ⟨W1, hW1⟩ : ∃ X, w.alloc (.map #[] 0) = X := ⟨_, rfl⟩
  have hb1 : Below w.heap.size w W1 := by rw [← hW1]; exact al1 _ _
  have HO1 : Hid (Occ W1 bm (ca.take 0)) := hid (by rw [← hW1, ← hbm]; exact occ_made _)
  have HB1 := hid hb1
  have hs1 : bm + 1 ≤ W1.heap.size := by rw [← hW1, ← hbm]; simp
  have HCW := hid (fun X (hX : Below w.heap.size w X) => hc.below hX)
  have HCL := hid hc.1
  have HN := hid hN
  have hge : w.heap.size ≤ bm := Nat.le_of_eq hbm
  obtain ⟨B0, hB0⟩ : ∃ B, w.heap.size = B := ⟨_, rfl⟩
  rw [hB0] at HB1 hge HCW
  rw [hB0]
  have HBZ := hid hB0
  have hB0bm : B0 ≤ bm + 1 := by omega
  have HW1 := hid hW1
  have HBM := hid hbm
  clear hc hN hb1 hW1 hbm hB0
  have hmk : ∀ X : World, (Instr.makeMap 106 none).run Try.prog X = .ok (.map (some X.heap.size)) (X.alloc (.map #[] 0)) := fun _ => rfl
  go_enter Try.func52, Try.ntmps52
  go_upto_region 2 with fail
  rw [HW1.out, HBM.out]
  go_upto_region 3 with fail
  go_loopw [9] (fun iv wr => ∃ q : Nat, q ≤ N ∧ iv = .int .i64 (q : Int) ∧ Hid (Occ wr bm (ca.take q)) ∧ Hid (Below B0 w wr ∧ bm + 1 ≤ wr.heap.size)) (fun i _ => N - (Go.RowKit.intOf i).toNat)
  case atStart => exact ⟨0, Nat.zero_le _, rfl, HO1, hid ⟨HB1.out, hs1⟩⟩
  case round =>
    obtain ⟨q, hq, rfl, HO, HBS⟩ := hrel
    have hbmr := HBS.out.2
    by_cases hqn : q < N
    · have hqn' : (q : Int) < (N : Int) := by omega
      obtain ⟨b, off, rfl, hb, hcc⟩ := cas_cells (HCW.out wr HBS.out.1) (by rw [HN.out]; omega)
      obtain ⟨x, hxk⟩ : ∃ x, ca[q]? = some x := ⟨ca[q]'(by rw [HN.out]; exact hqn), List.getElem?_eq_getElem _⟩
      have h8 := HCL.out x (List.mem_of_getElem? hxk)
      have HTK := hid (show ca.take (q + 1) = ca.take q ++ [x] from by rw [List.take_add_one, hxk]; rfl)
      obtain ⟨a, s⟩ := x
      dsimp only at h8
      obtain ⟨s0, s1, s2, s3, s4, s5, s6, s7, rfl⟩ := list8 h8.1
      have c0 := hcc q _ hxk 0 (.int .i64 a) rfl
      rw [Nat.add_zero] at c0
      have c1 := hcc q _ hxk 1 (.int .u8 (s0 : Int)) rfl
      have c2 := hcc q _ hxk 2 (.int .u8 (s1 : Int)) rfl
      have c3 := hcc q _ hxk 3 (.int .u8 (s2 : Int)) rfl
      have c4 := hcc q _ hxk 4 (.int .u8 (s3 : Int)) rfl
      have c5 := hcc q _ hxk 5 (.int .u8 (s4 : Int)) rfl
      have c6 := hcc q _ hxk 6 (.int .u8 (s5 : Int)) rfl
      have c7 := hcc q _ hxk 7 (.int .u8 (s6 : Int)) rfl
      have c8 := hcc q _ hxk 8 (.int .u8 (s7 : Int)) rfl
      obtain ⟨W5, hW5⟩ : ∃ X, wr.alloc (.cells #[.int .i64 a, .int .u8 (s0 : Int), .int .u8 (s1 : Int), .int .u8 (s2 : Int), .int .u8 (s3 : Int), .int .u8 (s4 : Int), .int .u8 (s5 : Int), .int .u8 (s6 : Int), .int .u8 (s7 : Int)] 112) = X := ⟨_, rfl⟩
      obtain ⟨h5, hh5⟩ : ∃ h, wr.heap.size = h := ⟨_, rfl⟩
      have hb5 : Below wr.heap.size wr W5 := by rw [← hW5]; exact al1 _ _
      have hz5 : W5.heap[h5]? = some (.cells #[.int .i64 a, .int .u8 (s0 : Int), .int .u8 (s1 : Int), .int .u8 (s2 : Int), .int .u8 (s3 : Int), .int .u8 (s4 : Int), .int .u8 (s5 : Int), .int .u8 (s6 : Int), .int .u8 (s7 : Int)] 112) := by rw [← hW5, ← hh5]; exact heap_alloc_new _ _
      obtain ⟨v, hlk, hov, hupd⟩ := occ_look (HO.out.below hb5) h8.2.2
      have hbl5 : bm < W5.heap.size := Nat.lt_of_lt_of_le hbmr hb5.size
      have hbm5 : bm + 1 ≤ W5.heap.size := hbl5
      have hB05 : B0 ≤ W5.heap.size := Nat.le_trans hB0bm hbm5
      have HKK := hid (fun (X : World) (hX : X.heap[h5]? = W5.heap[h5]?) (hX2 : X.heap[bm]? = W5.heap[bm]?) => (show X.cell? ⟨h5, 0, none⟩ = some (.int .i64 a) ∧ X.cell? ⟨h5, 1, none⟩ = some (.int .u8 (s0 : Int)) ∧ X.cell? ⟨h5, 2, none⟩ = some (.int .u8 (s1 : Int)) ∧ X.cell? ⟨h5, 3, none⟩ = some (.int .u8 (s2 : Int)) ∧ X.cell? ⟨h5, 4, none⟩ = some (.int .u8 (s3 : Int)) ∧ X.cell? ⟨h5, 5, none⟩ = some (.int .u8 (s4 : Int)) ∧ X.cell? ⟨h5, 6, none⟩ = some (.int .u8 (s5 : Int)) ∧ X.cell? ⟨h5, 7, none⟩ = some (.int .u8 (s6 : Int)) ∧ X.cell? ⟨h5, 8, none⟩ = some (.int .u8 (s7 : Int)) ∧ (Instr.lookup 106 (.map (some bm)) (.int .i64 a) false).run Try.prog X = .ok v X from (by
        have g2 := hX.trans hz5
        exact ⟨cell_of_row _ _ 0 _ _ _ g2, cell_of_row _ _ 1 _ _ _ g2, cell_of_row _ _ 2 _ _ _ g2, cell_of_row _ _ 3 _ _ _ g2, cell_of_row _ _ 4 _ _ _ g2, cell_of_row _ _ 5 _ _ _ g2, cell_of_row _ _ 6 _ _ _ g2, cell_of_row _ _ 7 _ _ _ g2, cell_of_row _ _ 8 _ _ _ g2, hlk X hX2⟩)))
      have hhl5 : h5 < W5.heap.size := box_lt hz5
      have HK := hid (fun (X : World) (hX : Below W5.heap.size W5 X) => HKK.out X (hX.block _ hhl5) (hX.block _ hbl5))
      have HNE : Hid (v.ownBlock ≠ some bm ∧ v.ownBlock ≠ some h5) := hid (by
        obtain ⟨es, clock, hbb, _⟩ := HO.out
        have hbb5 := (hb5.block _ (box_lt hbb)).trans hbb
        exact ⟨fun e => own_map hov hbb5 bm e rfl, fun e => by
          obtain ⟨cs, hcs⟩ := own_type hov e
          rw [hz5] at hcs
          cases hcs⟩)
      have HBW5 : Hid (Below B0 w W5) := hid (HBS.out.1.trans (hb5.mono (Nat.le_trans hB0bm hbmr)))
      have HOV := hid hov
      have HUPD := hid hupd
      have HGL : Hid ((G (ca.take q) a).length ≤ 1000000) := hid (by have := g_len (ca.take q) a; rw [List.length_take] at this; omega)
      have HW5 := hid hW5
      have HH5 := hid hh5
      obtain ⟨X0, hX0⟩ : ∃ X, W5.drew = X := ⟨_, rfl⟩
      have hB0 : Below W5.heap.size W5 X0 := by rw [← hX0]; exact (Below.refl W5.heap.size W5).drew
      have hHeld := HK.out X0 hB0
      clear hcc hxk h8 hW5 hh5 hb5 hz5 hlk hov hupd
      go_upto_region 5 with fail
      rw [HW5.out, HH5.out]
      clear c0 c1 c2 c3 c4 c5 c6 c7 c8
      refine region_tail 11 (fun X => X.cell? ⟨h5, 0, none⟩ = some (.int .i64 a) ∧ X.cell? ⟨h5, 1, none⟩ = some (.int .u8 (s0 : Int)) ∧ X.cell? ⟨h5, 2, none⟩ = some (.int .u8 (s1 : Int)) ∧ X.cell? ⟨h5, 3, none⟩ = some (.int .u8 (s2 : Int)) ∧ X.cell? ⟨h5, 4, none⟩ = some (.int .u8 (s3 : Int)) ∧ X.cell? ⟨h5, 5, none⟩ = some (.int .u8 (s4 : Int)) ∧ X.cell? ⟨h5, 6, none⟩ = some (.int .u8 (s5 : Int)) ∧ X.cell? ⟨h5, 7, none⟩ = some (.int .u8 (s6 : Int)) ∧ X.cell? ⟨h5, 8, none⟩ = some (.int .u8 (s7 : Int)) ∧ (Instr.lookup 106 (.map (some bm)) (.int .i64 a) false).run Try.prog X = .ok v X) (by kernel_rfl) ?_
      rw [hX0]
      clear hX0
      refine' wpAnyT_take (i := 0) (oi := ?oia0) (v := ?va0) ?hia0 (by kernel_rfl) (by kernel_rfl) ?hqa0 ?hya0 hHeld ?resta0
      case hia0 => (simp only [List.getElem?_toArray, List.getElem?_cons_zero]; rfl)
      case hqa0 => exact fun _ _ _ h => h
      case hya0 => (refine Or.inl ⟨by rfl, ?_⟩; intro w' hSw; (try dsimp only at hSw); go_simp; try with_reducible rfl)
      (try simp only [Act.put, List.setIfInBounds_toArray, List.set_cons_zero, List.set_cons_succ])
      refine' wpAnyT_take (i := 1) (oi := ?oia1) (v := ?va1) ?hia1 (by kernel_rfl) (by kernel_rfl) ?hqa1 ?hya1 hHeld ?resta1
      case hia1 => (simp only [List.getElem?_toArray, List.getElem?_cons_zero, List.getElem?_cons_succ]; rfl)
      case hqa1 => exact fun _ _ _ h => h
      case hya1 => (refine Or.inl ⟨by rfl, ?_⟩; intro w' hSw; (try dsimp only at hSw); go_simp; try with_reducible rfl)
      (try simp only [Act.put, List.setIfInBounds_toArray, List.set_cons_zero, List.set_cons_succ])
      refine' wpAnyT_take (i := 2) (oi := ?oia2) (v := ?va2) ?hia2 (by kernel_rfl) (by kernel_rfl) ?hqa2 ?hya2 hHeld ?resta2
      case hia2 => (simp only [List.getElem?_toArray, List.getElem?_cons_zero, List.getElem?_cons_succ]; rfl)
      case hqa2 => exact fun _ _ _ h => h
      case hya2 => (refine Or.inl ⟨by rfl, ?_⟩; intro w' hSw; (try dsimp only at hSw); go_simp; try with_reducible rfl)
      (try simp only [Act.put, List.setIfInBounds_toArray, List.set_cons_zero, List.set_cons_succ])
      refine' wpAnyT_take (i := 3) (oi := ?oia3) (v := ?va3) ?hia3 (by kernel_rfl) (by kernel_rfl) ?hqa3 ?hya3 hHeld ?resta3
      case hia3 => (simp only [List.getElem?_toArray, List.getElem?_cons_zero, List.getElem?_cons_succ]; rfl)
      case hqa3 => exact fun _ _ _ h => h
      case hya3 => (refine Or.inl ⟨by rfl, ?_⟩; intro w' hSw; (try dsimp only at hSw); go_simp; try with_reducible rfl)
      (try simp only [Act.put, List.setIfInBounds_toArray, List.set_cons_zero, List.set_cons_succ])
      refine' wpAnyT_take (i := 4) (oi := ?oia4) (v := ?va4) ?hia4 (by kernel_rfl) (by kernel_rfl) ?hqa4 ?hya4 hHeld ?resta4
      case hia4 => (simp only [List.getElem?_toArray, List.getElem?_cons_zero, List.getElem?_cons_succ]; rfl)
      case hqa4 => exact fun _ _ _ h => h
      case hya4 => (refine Or.inl ⟨by rfl, ?_⟩; intro w' hSw; (try dsimp only at hSw); go_simp; try with_reducible rfl)
      (try simp only [Act.put, List.setIfInBounds_toArray, List.set_cons_zero, List.set_cons_succ])
      refine' wpAnyT_take (i := 5) (oi := ?oia5) (v := ?va5) ?hia5 (by kernel_rfl) (by kernel_rfl) ?hqa5 ?hya5 hHeld ?resta5
      case hia5 => (simp only [List.getElem?_toArray, List.getElem?_cons_zero, List.getElem?_cons_succ]; rfl)
      case hqa5 => exact fun _ _ _ h => h
      case hya5 => (refine Or.inl ⟨by rfl, ?_⟩; intro w' hSw; (try dsimp only at hSw); go_simp; try with_reducible rfl)
      (try simp only [Act.put, List.setIfInBounds_toArray, List.set_cons_zero, List.set_cons_succ])
      refine' wpAnyT_take (i := 6) (oi := ?oia6) (v := ?va6) ?hia6 (by kernel_rfl) (by kernel_rfl) ?hqa6 ?hya6 hHeld ?resta6
      case hia6 => (simp only [List.getElem?_toArray, List.getElem?_cons_zero, List.getElem?_cons_succ]; rfl)
      case hqa6 => exact fun _ _ _ h => h
      case hya6 => (refine Or.inl ⟨by rfl, ?_⟩; intro w' hSw; (try dsimp only at hSw); go_simp; try with_reducible rfl)
      (try simp only [Act.put, List.setIfInBounds_toArray, List.set_cons_zero, List.set_cons_succ])
      refine' wpAnyT_take (i := 7) (oi := ?oia7) (v := ?va7) ?hia7 (by kernel_rfl) (by kernel_rfl) ?hqa7 ?hya7 hHeld ?resta7
      case hia7 => (simp only [List.getElem?_toArray, List.getElem?_cons_zero, List.getElem?_cons_succ]; rfl)
      case hqa7 => exact fun _ _ _ h => h
      case hya7 => (refine Or.inl ⟨by rfl, ?_⟩; intro w' hSw; (try dsimp only at hSw); go_simp; try with_reducible rfl)
      (try simp only [Act.put, List.setIfInBounds_toArray, List.set_cons_zero, List.set_cons_succ])
      refine' wpAnyT_take (i := 8) (oi := ?oia8) (v := ?va8) ?hia8 (by kernel_rfl) (by kernel_rfl) ?hqa8 ?hya8 hHeld ?resta8
      case hia8 => (simp only [List.getElem?_toArray, List.getElem?_cons_zero, List.getElem?_cons_succ]; rfl)
      case hqa8 => exact fun _ _ _ h => h
      case hya8 => (refine Or.inl ⟨by rfl, ?_⟩; intro w' hSw; (try dsimp only at hSw); go_simp; try with_reducible rfl)
      (try simp only [Act.put, List.setIfInBounds_toArray, List.set_cons_zero, List.set_cons_succ])
      refine' wpAnyT_one (i := 9) (o := ?oia9) (by kernel_rfl) ?hia9 (fun K hK => ?sta9)
      case hia9 => (simp only [List.getElem?_toArray, List.getElem?_cons_zero, List.getElem?_cons_succ]; rfl)
      go_simp
      obtain ⟨X2, hX2⟩ : ∃ X, X0.alloc (.cells #[.int .u8 (s0 : Int), .int .u8 (s1 : Int), .int .u8 (s2 : Int), .int .u8 (s3 : Int), .int .u8 (s4 : Int), .int .u8 (s5 : Int), .int .u8 (s6 : Int), .int .u8 (s7 : Int)] 57) = X := ⟨_, rfl⟩
      obtain ⟨h6, hh6⟩ : ∃ h, X0.heap.size = h := ⟨_, rfl⟩
      have hb2 : Below X0.heap.size X0 X2 := by rw [← hX2]; exact al1 _ _
      have hz6 : X2.heap[h6]? = some (.cells (cSec [s0, s1, s2, s3, s4, s5, s6, s7]).toArray 57) := by rw [← hX2, ← hh6]; exact heap_alloc_new _ _
      have hc6 : ∀ (j : Nat) (u : Value), (cSec [s0, s1, s2, s3, s4, s5, s6, s7])[j]? = some u → X2.cell? ((⟨h6, 0, none⟩ : Addr).add j) = some u := fun j u hu => by
        rw [add_at', cell_of_row _ _ _ _ _ _ hz6]
        simpa using hu
      rw [hX2, hh6]
      have hB2 : Below W5.heap.size W5 X2 := hB0.trans (hb2.mono hB0.size)
      have HOC2 := hid (own_keep HOV.out (keep_below hB2))
      have hbs : bm + 1 ≤ X2.heap.size := Nat.le_trans hbm5 hB2.size
      clear hHeld hX2 hh6 hb2 hz6
      have hHeld := HK.out X2 hB2
      refine hK.out _ _ (fun _ => hHeld) ?_
      clear hK K
      (try simp only [Act.put, List.setIfInBounds_toArray, List.set_cons_zero, List.set_cons_succ])
      refine' wpAnyT_one (i := 10) (o := ?oia10) (by kernel_rfl) ?hia10 (fun K hK => ?sta10)
      case hia10 => (simp only [List.getElem?_toArray, List.getElem?_cons_zero, List.getElem?_cons_succ]; rfl)
      refine step_append_at rfl (.tmp 19) (.tmp 22) 32 rfl (bm + 1) 57 i0 _ 8 8 Try.underlying32 hi hz0 hz1 hz2 rfl (by decide) v (G (ca.take q) a).length _ (by simp [Act.eval]) HOC2.out ⟨h6, 0, none⟩ 1 1 (cSec [s0, s1, s2, s3, s4, s5, s6, s7]) (by simp [Act.eval]) rfl hc6 (byteV_one _) (by have := HGL.out; unfold maxLen; omega) (by have := HGL.out; omega) hbs ?_
      intro v9 X3 ho9 hg9 hat9
      obtain ⟨W6, hrun, hg6, hocc⟩ := HUPD.out _ X2 X3 v9 hB2 hg9 ho9 hat9
      have HRUN := hid hrun
      have HG9 := hid hg9
      have HG6 := hid hg6
      have HOCC := hid hocc
      have HB3 : Hid (Below B0 w X3) := hid (below_own (HBW5.out.trans (hB2.mono hB05)) HOC2.out hg9 (Nat.le_trans hB05 hB2.size) hB0bm)
      clear hHeld
      have hHeld := HKK.out X3 ((hg9.block _ (Nat.lt_of_lt_of_le hhl5 hB2.size) (fun e => HNE.out.2 e.symm)).trans (hB2.block _ hhl5)) ((hg9.block _ (Nat.lt_of_lt_of_le hbl5 hB2.size) (fun e => HNE.out.1 e.symm)).trans (hB2.block _ hbl5))
      clear ho9 hg9 hc6 hat9 hrun hg6 hocc
      refine hK.out _ _ (fun _ => hHeld) ?_
      clear hK K
      (try simp only [Act.put, List.setIfInBounds_toArray, List.set_cons_zero, List.set_cons_succ])
      refine' wpAnyT_one (i := 11) (o := ?oia11) (by kernel_rfl) ?hia11 (fun K hK => ?sta11)
      case hia11 => (simp only [List.getElem?_toArray, List.getElem?_cons_zero, List.getElem?_cons_succ]; rfl)
      go_simp
      have hrun := HRUN.out
      go_simp
      refine hK.out _ _ (fun h => absurd h (by decide)) ?_
      clear hK K
      (try simp only [Act.put, List.setIfInBounds_toArray, List.set_cons_zero, List.set_cons_succ])
      refine wpAnyT_done (by kernel_rfl) ?_ _
      go_wp2_with fail
      go_roundw
      case rel =>
        exact ⟨q + 1, by omega, by go_num, hid (by rw [HTK.out]; exact HOCC.out), hid ⟨HB3.out.grown HG6.out (Nat.le_trans hB05 (Nat.le_trans hB2.size HG9.out.size)) (fun k hk => by injection hk with hk; omega), Nat.le_trans hbs (Nat.le_trans HG9.out.size HG6.out.size)⟩⟩
      case measure => simp [Go.RowKit.intOf]; omega
    · obtain rfl : N = q := by omega
      have hqn' : ¬ ((N : Nat) : Int) < (N : Int) := by omega
      go_wp2_with fail
      go_ret
      exact ⟨_, rfl, hge, by have h := HO.out; rw [List.take_of_length_le (by rw [HN.out]; exact Nat.le_refl _)] at h; exact h, HBS.out.1⟩
end Go.Proofs.Ytnocgfhcamnjdaa
