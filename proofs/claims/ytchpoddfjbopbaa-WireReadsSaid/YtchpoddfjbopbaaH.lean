/- The writer's bytes; PutBytes. -/
import Derived.Test.YtchpoddfjbopbaaG
namespace Go.Proofs.Ytchpoddfjbopbaa
open Go.RowKit Go.Lib

theorem box_app0 {w w2 : World} {g base n : Nat} {vo : Value} {xs : List Value} (hb : Boxed w g 129 vo) (ho : w.ownsRow base 5 1 vo n xs) (hg : w.grownBy w2 vo.ownBlock) : Boxed w2 g 129 vo :=
  hb.kept hg (hb.not_row (by decide) ho)
theorem wr_more {w : World} {g base : Nat} {vo v : Value} {m b : List Nat} (hb : Boxed w g 129 vo) (ho : w.ownsRow base 5 1 v (m.length + b.length) (m.map byteV ++ b.map byteV)) (hn : v.ownBlock ≠ some g) :
    Wr (w.setCell ⟨g, 0, none⟩ v) g base (m ++ b) := by
  refine ⟨v, hb.set v, ?_⟩
  rw [own_snoc, ← List.length_append] at ho
  exact ownsRow_setCell_other ho hn v

set_option maxHeartbeats 2000000 in
set_option maxRecDepth 100000 in
theorem wbytes_any (b pr : List Nat) (u : Value) (g : Nat) (w0 w : World) (hu : Byt w0 u b) (hnu : NilOk u) (hb0 : Below w0.heap.size w0 w) (hw : Wr w g w0.heap.size pr) (hbg : w0.heap.size ≤ g) (hl : pr.length ≤ 40000) (hb : b.length ≤ 40000) :
    Calls Try.prog 54 #[.pointer (some ⟨g, 0, none⟩), u] w fun e w' => (∃ v, e = .returned v) ∧ Wr w' g w0.heap.size (pr ++ eBytes b) ∧ Below w0.heap.size w w' := by
  have hp := wnum_any (b.length : Int) pr g w0.heap.size w hw hbg (by omega)
  rw [cl_nat (by omega)] at hp
  have HP := hid hp
  have he := enc_len (n := b.length) (by omega)
  have e : pr ++ eBytes b = (pr ++ enc b.length) ++ b := by unfold eBytes; rw [List.append_assoc]
  rw [e]
  obtain ⟨m, hm⟩ : ∃ m, pr ++ enc b.length = m := ⟨_, rfl⟩
  have hml : m.length ≤ 40008 := by rw [← hm, List.length_append]; omega
  rw [hm] at HP ⊢
  have HU := hid hu
  have HNU := hid hnu
  have HB0 := hid hb0
  obtain ⟨C, cc, rfl⟩ := byt_form hu
  clear hu hnu hw hm hp e he hb0
  go_enter Try.func54, Try.ntmps54
  go_wp2_with fail
  refine HP.out.mono ?_
  rintro e w1 ⟨⟨vv, rfl⟩, ⟨v1, bx, ho⟩, hb1⟩
  obtain ⟨a1, c1, rfl⟩ := own_form ho
  have HO1 := hid ho
  have HB1 := hid hb1
  have BX := hid bx
  have cx := bx.cell
  have fx := bx.frozen
  clear ho hb1 bx
  go_wp2_with (at_builtin; refine append_byt rfl (.tmp 12) (.tmp 13) rfl w0.heap.size (.slice a1 m.length c1) m.length _ rfl HO1.out b _ rfl (HU.out.below (HB0.out.trans HB1.out)) HNU.out (by omega) (HB0.out.trans HB1.out).size ?_; intro v2 w2 hown2 hg2; obtain ⟨a2, c2, rfl⟩ := own_form hown2; have BX2 := hid (box_app0 BX.out HO1.out hg2); have NR := hid (box_row BX2.out hown2); have HB2 := hid (below_own HB1.out HO1.out hg2 (HB0.out.trans HB1.out).size (Nat.le_refl _)); have HO2 := hid hown2; have cx2 := BX2.out.cell; have fx2 := BX2.out.frozen; clear hown2 hg2)
  go_end0
  exact ⟨⟨_, rfl⟩, wr_more BX2.out HO2.out NR.out, HB2.out.setCell hbg _⟩

set_option maxHeartbeats 2000000 in
set_option maxRecDepth 100000 in
theorem putB_any (b l : List Nat) (v u : Value) (w : World) (hv : Byt w v l) (hn : NilOk v) (hu : Byt w u b) (hnu : NilOk u) (hl : l.length ≤ 40000) (hb : b.length ≤ 40000) :
    Calls Try.prog 53 #[v, u, .func (.func 54) #[] #[]] w (MadeO w (l ++ eBytes b)) := by
  have HC := hid (clone_any l v w hv hn (by omega))
  have HW := hid (fun (w1 : World) (g : Nat) (h0 : Below w.heap.size w w1) (hw : Wr w1 g w.heap.size l) (hg : w.heap.size ≤ g) => wbytes_any b l u g w w1 hu hnu h0 hw hg hl hb)
  obtain ⟨ll, hll⟩ : ∃ ll, l ++ eBytes b = ll := ⟨_, rfl⟩
  rw [hll] at HW ⊢
  clear hll
  obtain ⟨A, ca, rfl⟩ := byt_form hv
  obtain ⟨C, cc, rfl⟩ := byt_form hu
  clear hv hn hu hnu
  go_enter Try.func53, Try.ntmps53
  go_wp2_with (go_at_call 50; refine HC.out.mono ?_; rintro e w1 ⟨v1, rfl, ho1, hb1⟩; obtain ⟨a1, c1, rfl⟩ := own_form ho1; have HO1 := hid ho1; have HB1 := hid hb1; clear ho1 hb1)
  refine (HW.out _ w1.heap.size (HB1.out.alloc HB1.out.size _) ⟨_, Boxed.new _ _ _, HO1.out.alloc _⟩ HB1.out.size).mono ?_
  rintro e w2 ⟨⟨vv, rfl⟩, ⟨v2, bx, ho⟩, hb⟩
  obtain ⟨a2, c2, rfl⟩ := own_form ho
  have HO2 := hid ho
  have HB2 := hid ((HB1.out.alloc HB1.out.size _).trans hb)
  have cx := bx.cell
  clear bx ho hb
  go_wp2
  go_ret
  exact ⟨_, rfl, HO2.out, HB2.out⟩

set_option maxHeartbeats 2000000 in
set_option maxRecDepth 100000 in
theorem putBytes_any (b l : List Nat) (v u : Value) (w : World) (hv : Byt w v l) (hn : NilOk v) (hu : Byt w u b) (hnu : NilOk u) (hl : l.length ≤ 40000) (hb : b.length ≤ 40000) :
    Calls Try.prog 15 #[v, u] w (MadeO w (l ++ eBytes b)) := by
  have HP := hid (putB_any b l v u w hv hn hu hnu hl hb)
  obtain ⟨ll, hll⟩ : ∃ ll, l ++ eBytes b = ll := ⟨_, rfl⟩
  rw [hll] at HP ⊢
  clear hll
  obtain ⟨A, ca, rfl⟩ := byt_form hv
  obtain ⟨C, cc, rfl⟩ := byt_form hu
  clear hv hn hu hnu
  go_enter Try.func15, Try.ntmps15
  go_wp2_with fail
  refine HP.out.mono ?_
  rintro e w1 ⟨v1, rfl, ho1, hb1⟩
  obtain ⟨a1, c1, rfl⟩ := own_form ho1
  have HO1 := hid ho1
  have HB1 := hid hb1
  clear ho1 hb1
  go_wp2
  go_ret
  exact ⟨_, rfl, HO1.out, HB1.out⟩
end Go.Proofs.Ytchpoddfjbopbaa
