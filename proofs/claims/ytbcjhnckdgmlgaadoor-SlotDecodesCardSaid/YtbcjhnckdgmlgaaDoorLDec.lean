/- The law SlotDecodes, walked: true for any word of Go's int. -/
import Derived.Test.YtbcjhnckdgmlgaaDoorAwake
namespace Go.Proofs.YtbcjhnckdgmlgaaDoor
open Go.RowKit
attribute [local go_sem ↓] Go.wp_at_zero Go.wp_at_succ

set_option maxRecDepth 100000 in
set_option maxHeartbeats 2000000 in
theorem ldec_any (x : Int) (w : World) (hT : Tab w) (hx1 : -9223372036854775808 ≤ x) (hx2 : x ≤ 9223372036854775807) :
    Calls Tryd.prog 4 #[.int .i64 x] w fun e w' => e = .returned (.bool true) ∧ Below w.heap.size w w' := by
  go_enter Tryd.func4, Tryd.ntmps4
  go_wp2_with fail
  refine (awake_any _ hT).mono ?_
  rintro e w1 ⟨rfl, hb⟩
  have hB := hb
  have HT := Lib.hid (hT.below hb hT.lt)
  clear hb hT
  go_wp2_with fail
  refine (decode_any x _ HT.out hx1 hx2).mono ?_
  obtain ⟨q, eq⟩ : ∃ q, q = decS x := ⟨_, rfl⟩
  rw [← eq]
  have Eq := Lib.hid eq
  clear eq
  rintro e w2 ⟨rfl, hb⟩
  replace hB := hB.trans (hb.mono hB.size)
  clear hb HT
  have r0 := RowAt.new w2 23 #[Value.int .i64 q.st, Value.int .i64 q.ow, Value.int .i64 q.sr, Value.bool q.br, Value.bool q.ma, Value.int .i64 q.us, Value.int .i64 q.ge, Value.int .i64 q.ep, Value.int .i64 q.ve]
  replace hB := hB.alloc hB.size (.cells #[Value.int .i64 q.st, Value.int .i64 q.ow, Value.int .i64 q.sr, Value.bool q.br, Value.bool q.ma, Value.int .i64 q.us, Value.int .i64 q.ge, Value.int .i64 q.ep, Value.int .i64 q.ve] 23)
  go_wp2_with fail
  refine (refDecode_any x _ hx1 hx2).mono ?_
  rw [← Eq.out]
  rintro e w3 ⟨rfl, hb⟩
  replace hB := hB.trans (hb.mono hB.size)
  replace r0 := r0.below hb r0.lt
  obtain ⟨B1, e1⟩ : ∃ B1, B1 = w2.heap.size := ⟨_, rfl⟩
  rw [← e1] at r0 ⊢
  clear e1 hb
  have hlt := r0.lt
  have heq := eq_sl q q
  have k0 : (w3).cell? ⟨B1, 0, none⟩ = some (Value.int .i64 q.st) := r0.cell 0 rfl
  have k1 : (w3).cell? ⟨B1, 1, none⟩ = some (Value.int .i64 q.ow) := r0.cell 1 rfl
  have k2 : (w3).cell? ⟨B1, 2, none⟩ = some (Value.int .i64 q.sr) := r0.cell 2 rfl
  have k3 : (w3).cell? ⟨B1, 3, none⟩ = some (Value.bool q.br) := r0.cell 3 rfl
  have k4 : (w3).cell? ⟨B1, 4, none⟩ = some (Value.bool q.ma) := r0.cell 4 rfl
  have k5 : (w3).cell? ⟨B1, 5, none⟩ = some (Value.int .i64 q.us) := r0.cell 5 rfl
  have k6 : (w3).cell? ⟨B1, 6, none⟩ = some (Value.int .i64 q.ge) := r0.cell 6 rfl
  have k7 : (w3).cell? ⟨B1, 7, none⟩ = some (Value.int .i64 q.ep) := r0.cell 7 rfl
  have k8 : (w3).cell? ⟨B1, 8, none⟩ = some (Value.int .i64 q.ve) := r0.cell 8 rfl
  go_wp2
  go_ret
  exact ⟨rfl, hB.alloc hB.size _⟩
end Go.Proofs.YtbcjhnckdgmlgaaDoor
