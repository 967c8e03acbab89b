/- PutInt. -/
import Derived.Test.YtldlddoealpomaaE
namespace Go.Proofs.Ytldlddoealpomaa
open Go.RowKit Go.Lib

set_option maxHeartbeats 2000000 in
set_option maxRecDepth 100000 in
theorem put_any (n : Int) (l : List Nat) (v : Value) (w : World) (hv : Byt w v l) (hn : NilOk v) (hl : l.length ≤ 90000) :
    Calls Try.prog 71 #[v, .int .i64 n, .func (.func 72) #[] #[]] w (MadeY w (l ++ enc (cl n))) := by
  have H8 : Hid (B8 (l ++ enc (cl n))) := hid (hv.1.append (enc_b8 _))
  have HC := hid (clone_any l v w hv hn (by omega))
  obtain ⟨ll, hll⟩ : ∃ ll, l ++ enc (cl n) = ll := ⟨_, rfl⟩
  rw [hll] at H8 ⊢
  obtain ⟨A, ca, rfl⟩ := byt_form hv
  clear hv hn
  go_enter Try.func71, Try.ntmps71
  go_wp2_with (go_at_call 29; refine HC.out.mono ?_; rintro e w1 ⟨v1, rfl, ho1, hb1⟩; obtain ⟨a1, c1, rfl⟩ := own_form ho1; have HO1 := hid ho1; have HB1 := hid hb1; clear ho1 hb1)
  refine (wnum_any n l w1.heap.size w.heap.size _ ⟨_, Boxed.new _ _ _, HO1.out.alloc _⟩ HB1.out.size hl).mono ?_
  rintro e w2 ⟨⟨vv, rfl⟩, ⟨v2, bx, ho⟩, hb⟩
  rw [hll] at ho
  clear hll
  obtain ⟨a2, c2, rfl⟩ := own_form ho
  have HO2 := hid ho
  have HB2 := hid ((HB1.out.alloc HB1.out.size _).trans hb)
  have cx := bx.cell
  clear bx ho hb
  go_wp2
  go_ret
  exact ⟨_, rfl, byt_of_own HO2.out H8.out, own_nilOk HO2.out, HB2.out⟩

set_option maxHeartbeats 2000000 in
set_option maxRecDepth 100000 in
theorem putInt_any (n : Int) (l : List Nat) (v : Value) (w : World) (hv : Byt w v l) (hn : NilOk v) (hl : l.length ≤ 90000) :
    Calls Try.prog 61 #[v, .int .i64 n] w (MadeY w (l ++ enc (cl n))) := by
  have HP := hid (put_any n l v w hv hn hl)
  obtain ⟨ll, hll⟩ : ∃ ll, l ++ enc (cl n) = ll := ⟨_, rfl⟩
  rw [hll] at HP ⊢
  clear hll
  obtain ⟨A, ca, rfl⟩ := byt_form hv
  clear hv hn
  go_enter Try.func61, Try.ntmps61
  go_wp2_with fail
  refine HP.out.mono ?_
  rintro e w1 ⟨v1, rfl, hv1, hn1, hb1⟩
  obtain ⟨a1, c1, rfl⟩ := byt_form hv1
  have HV1 := hid hv1
  have HN1 := hid hn1
  have HB1 := hid hb1
  clear hv1 hn1 hb1
  go_wp2
  go_ret
  exact ⟨_, rfl, HV1.out, HN1.out, HB1.out⟩
end Go.Proofs.Ytldlddoealpomaa
