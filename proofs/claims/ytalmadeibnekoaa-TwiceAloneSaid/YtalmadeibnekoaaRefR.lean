/- Whether a slot is right, as the document's own functions tell; nothing that was there changes. -/
import Derived.Test.YtalmadeibnekoaaCode
import Derived.Deep.DeepCutAuto
namespace Go.Proofs.Ytalmadeibnekoaa
open Go.RowKit
attribute [local go_sem ↓] Go.wp_at_zero Go.wp_at_succ

def f0 (n m : Int) : Bool := decide (0 ≤ n) && decide (n ≤ m)
theorem from0_f (n m : Int) (w : World) :
    Calls Try.prog 53 #[.int .i64 n, .int .i64 m] w fun e w' => e = .returned (.bool (f0 n m)) ∧ w = w' := from0_any n m w
def bad1 (s : Sl) : Bool := !f0 s.st 6 || !f0 s.ow 15 || !f0 s.sr 255 || !f0 s.us 63 || !f0 s.ge 4095 || !f0 s.ep 4095 || !f0 s.ve 32767
def lv (st : Int) : Bool := st == 2 || st == 3 || st == 4
def bad4 (L br ma : Bool) (st sr us : Int) : Bool := (decide (0 < sr) && !(st == 3)) || (br && !L) || (decide (0 < us) && !L) || (ma && !(st == 2))
def fin (st ow ep : Int) : Bool := (ep == 0 || st == 6) && (ow == 0 || (decide (0 < st) && decide (st < 6)))
def rrB (s : Sl) : Bool := !bad1 s && !bad4 (lv s.st) s.br s.ma s.st s.sr s.us && fin s.st s.ow s.ep
set_option maxRecDepth 100000 in
set_option maxHeartbeats 2000000 in
theorem refRight_any (s : Sl) (w : World) :
    Calls Try.prog 50 #[Value.agg #[Value.int .i64 s.st, Value.int .i64 s.ow, Value.int .i64 s.sr, Value.bool s.br, Value.bool s.ma, Value.int .i64 s.us, Value.int .i64 s.ge, Value.int .i64 s.ep, Value.int .i64 s.ve]] w fun e w' => e = .returned (.bool (rrB s)) ∧ Below w.heap.size w w' := by
  obtain ⟨st, ow, sr, br, ma, us, ge, ep, ve⟩ := s
  simp only
  have hB0 : Below w.heap.size w (w.alloc (.cells #[Value.int .i64 st, Value.int .i64 ow, Value.int .i64 sr, Value.bool br, Value.bool ma, Value.int .i64 us, Value.int .i64 ge, Value.int .i64 ep, Value.int .i64 ve] 66)) := (Below.refl _ _).alloc (Nat.le_refl _) _
  go_enter Try.func50, Try.ntmps50
  go_upto_region 1 with fail
  go_cut [43] (fun c wx => c = .bool (bad1 ⟨st, ow, sr, br, ma, us, ge, ep, ve⟩) ∧ wx = w.alloc (.cells #[Value.int .i64 st, Value.int .i64 ow, Value.int .i64 sr, Value.bool br, Value.bool ma, Value.int .i64 us, Value.int .i64 ge, Value.int .i64 ep, Value.int .i64 ve] 66))
  case first =>
    go_wp2_with (go_at_call 53; refine (from0_f _ _ _).mono ?_; rintro e w' ⟨rfl, rfl⟩)
    all_goals go_meet
    all_goals exact ⟨congrArg Value.bool (by simp [bad1, *]), rfl⟩
  case rest =>
    obtain ⟨rfl, rfl⟩ := hcut
    cases h1 : bad1 ⟨st, ow, sr, br, ma, us, ge, ep, ve⟩ with
    | true =>
      have Hr := Lib.hid (show rrB ⟨st, ow, sr, br, ma, us, ge, ep, ve⟩ = false by simp [rrB, h1])
      clear h1
      go_wp2
      go_ret
      exact ⟨by rw [Hr.out]; rfl, hB0⟩
    | false =>
      have Hr := Lib.hid (show rrB ⟨st, ow, sr, br, ma, us, ge, ep, ve⟩ = (!bad4 (lv st) br ma st sr us && fin st ow ep) by simp [rrB, h1])
      clear h1
      go_upto_region 3 with fail
      go_cut [3] (fun c wx => c = .bool (lv st) ∧ wx = w.alloc (.cells #[Value.int .i64 st, Value.int .i64 ow, Value.int .i64 sr, Value.bool br, Value.bool ma, Value.int .i64 us, Value.int .i64 ge, Value.int .i64 ep, Value.int .i64 ve] 66))
      case first =>
        go_wp2
        all_goals (try subst_vars)
        all_goals go_meet
        all_goals exact ⟨congrArg Value.bool (by simp [lv, *]), rfl⟩
      case rest =>
        obtain ⟨rfl, rfl⟩ := hcut
        obtain ⟨L, eL⟩ : ∃ L, L = lv st := ⟨_, rfl⟩
        rw [← eL]
        have EL := Lib.hid eL
        clear eL
        have HB := Lib.hid hB0
        clear hB0
        go_upto_region 4 with fail
        go_cut [90] (fun c wx => c = .bool (bad4 L br ma st sr us) ∧ wx = w.alloc (.cells #[Value.int .i64 st, Value.int .i64 ow, Value.int .i64 sr, Value.bool br, Value.bool ma, Value.int .i64 us, Value.int .i64 ge, Value.int .i64 ep, Value.int .i64 ve] 66))
        case first =>
          clear EL Hr HB
          go_wp2
          all_goals (try subst_vars)
          all_goals (try cases br <;> try contradiction)
          all_goals (try cases ma <;> try contradiction)
          all_goals (try cases L <;> try contradiction)
          all_goals go_meet
          all_goals exact ⟨congrArg Value.bool (by first
            | (simp [bad4, *]; done)
            | (have q1 : ¬ 0 < sr := by omega
               simp [bad4, bne, *]; done)
            | (have q2 : ¬ 0 < us := by omega
               simp [bad4, bne, *]; done)
            | (have q1 : ¬ 0 < sr := by omega
               have q2 : ¬ 0 < us := by omega
               simp [bad4, bne, *]; done)), rfl⟩
        case rest =>
          obtain ⟨rfl, rfl⟩ := hcut
          cases h4 : bad4 L br ma st sr us with
          | true =>
            have Hr2 := Lib.hid (show rrB ⟨st, ow, sr, br, ma, us, ge, ep, ve⟩ = false by rw [Hr.out, ← EL.out, h4]; rfl)
            clear h4
            go_wp2
            go_ret
            exact ⟨by rw [Hr2.out]; rfl, HB.out⟩
          | false =>
            have Hr2 := Lib.hid (show rrB ⟨st, ow, sr, br, ma, us, ge, ep, ve⟩ = fin st ow ep by rw [Hr.out, ← EL.out, h4]; rfl)
            clear h4 EL Hr
            go_wp2
            all_goals (try subst_vars)
            all_goals go_ret
            all_goals exact ⟨by rw [Hr2.out]; exact congrArg Ending.returned (congrArg Value.bool (by first | (simp [fin, *]; done) | (simp [fin, *]; omega))), HB.out⟩
end Go.Proofs.Ytalmadeibnekoaa
