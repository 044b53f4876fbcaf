/- What the document's own row tells, as functions; its copy's boxes. -/
import Derived.Test.YtdiipmejkanhfaaDoorRefD
namespace Go.Proofs.YtdiipmejkanhfaaDoor
open Go.RowKit
attribute [local go_sem ↓] Go.wp_at_zero Go.wp_at_succ

theorem new3 (w : World) (o p : Obj) (t : TypeId) (vs : Array Value) : RowAt (((w.alloc o).alloc p).alloc (.cells vs t)) (w.heap.size + 2) t vs := by
  have h := RowAt.new ((w.alloc o).alloc p) t vs
  simpa using h
/-- what becomes of a right slot, as the document's table says -/
def rS (k : Nat) (s : Sl) (a mo : Int) : Sl :=
  match k with
  | 0 => s.plain 1 a
  | 1 => (s.plain 1 a).lref a
  | 2 => s.plain 0 0
  | 3 => s.lref a
  | 4 => ⟨2, s.ow, s.sr, s.br, s.ma, s.us, s.ge, s.ep, s.ve⟩
  | 5 => ⟨4, a, s.sr, s.br, false, s.us, s.ge, s.ep, s.ve⟩
  | 6 => ⟨2, a, s.sr, s.br, s.ma, s.us, s.ge, s.ep, s.ve⟩
  | 7 => s.plain 5 a
  | 8 => s.plain 0 0
  | 9 => ⟨s.st, a, s.sr, s.br, s.ma, s.us, s.ge, s.ep, s.ve⟩
  | 10 => ⟨s.st, s.ow, s.sr, s.br, true, s.us, s.ge, s.ep, s.ve⟩
  | 11 => ⟨6, 0, 0, false, false, 0, s.ge, mo, s.ve⟩
  | 12 => s.plain 0 0
  | 13 => ⟨s.st, s.ow, s.sr, true, s.ma, s.us, s.ge, s.ep, s.ve⟩
  | 14 => ⟨s.st, s.ow, s.sr + 2 ^ (lowI s.sr).toNat, s.br, s.ma, s.us, s.ge, s.ep, s.ve⟩
  | 15 => if s.st == 3 && s.ow == a && (decide (0 ≤ mo) && decide (mo ≤ 7)) then ⟨s.st, s.ow, s.sr - 2 ^ mo.toNat, s.br, s.ma, s.us, s.ge, s.ep, s.ve⟩ else s
  | 16 => if s.st == 4 then s.lref a else s.plain 1 a
  | 17 => ⟨s.st, s.ow, s.sr, s.br, s.ma, s.us, s.ge, mo, s.ve⟩
  | _ => s
def rB (k : Nat) (s : Sl) (a mo : Int) : Bool :=
  match k with
  | 0 => s.st == 0
  | 1 => s.st == 1 && s.ow == a
  | 2 => s.st == 1 && s.ow == a
  | 3 => s.st == 2 && !s.br
  | 4 => s.st == 3 && s.ow == a && s.sr == 0
  | 5 => s.st == 2 && !s.br
  | 6 => s.st == 4
  | 7 => s.st == 0
  | 8 => s.st == 5
  | 9 => s.st == 2
  | 10 => s.st == 2 && !s.ma
  | 11 => (s.st == 2 || s.st == 3) && decide (0 ≤ mo) && decide (mo ≤ 4095)
  | 12 => s.st == 6
  | 13 => decide (2 ≤ s.st) && decide (s.st ≤ 4) && !s.br
  | 14 => s.st == 3 && s.ow == a && !s.br && decide (lowI s.sr < mo) && decide (lowI s.sr < 8)
  | 15 => s.st == 3 && s.ow == a && (decide (0 ≤ mo) && decide (mo ≤ 7)) && (s.sr / 2 ^ mo.toNat % 2 == 1)
  | 16 => if s.st == 4 then s.ow == a else s.st == 5 && s.ow == a
  | 17 => s.st == 6 && decide (0 ≤ mo) && decide (mo ≤ 4095)
  | _ => false
theorem low_bd {sr : Int} (h : 0 ≤ sr ∧ sr ≤ 255) : 0 ≤ lowI sr ∧ lowI sr ≤ 8 := by
  obtain ⟨m, rfl⟩ := fin_of (N := 256) (sr := sr) (by omega)
  exact (lowF m).1
theorem pow_256 {n : Nat} (h : n ≤ 8) : (2 : Int) ^ n ≤ 256 := by
  have : (2 : Nat) ^ n ≤ 2 ^ 8 := Nat.pow_le_pow_right (by omega) h
  have e : (2 : Int) ^ n = ((2 ^ n : Nat) : Int) := by simp
  rw [e]; omega
theorem r14_eq {st ow sr us ge ep ve a mo p : Int} {br ma : Bool} {n : Nat} (en : lowI sr = n) (ep2 : p = 2 ^ n) :
    rS 14 ⟨st, ow, sr, br, ma, us, ge, ep, ve⟩ a mo = ⟨st, ow, sr + p, br, ma, us, ge, ep, ve⟩ ∧
    rB 14 ⟨st, ow, sr, br, ma, us, ge, ep, ve⟩ a mo = (st == 3 && ow == a && !br && decide ((n : Int) < mo) && decide ((n : Int) < 8)) := by
  constructor
  · show Sl.mk _ _ (sr + 2 ^ (lowI sr).toNat) _ _ _ _ _ _ = _
    rw [en, ep2]
    rfl
  · show (st == 3 && ow == a && !br && decide (lowI sr < mo) && decide (lowI sr < 8)) = _
    rw [en]
theorem r15_yes {st ow sr us ge ep ve a mo p : Int} {br ma : Bool} {n : Nat} (h3 : st = 3) (h4 : ow = a) (en : mo = n) (h7 : n ≤ 7) (ep2 : p = 2 ^ n) :
    rS 15 ⟨st, ow, sr, br, ma, us, ge, ep, ve⟩ a mo = ⟨st, ow, sr - p, br, ma, us, ge, ep, ve⟩ ∧
    rB 15 ⟨st, ow, sr, br, ma, us, ge, ep, ve⟩ a mo = (sr / p % 2 == 1) := by
  subst h3 h4 en ep2
  have h1 : (0 : Int) ≤ n := by omega
  have h2 : (n : Int) ≤ 7 := by omega
  constructor
  · show (if (3 : Int) == 3 && ow == ow && (decide ((0 : Int) ≤ n) && decide ((n : Int) ≤ 7)) then _ else _) = _
    simp [h1, h2]
  · show ((3 : Int) == 3 && ow == ow && (decide ((0 : Int) ≤ n) && decide ((n : Int) ≤ 7)) && _) = _
    simp [h1, h2]
theorem r15_no {s : Sl} {a mo : Int} (h : (s.st == 3 && s.ow == a && (decide (0 ≤ mo) && decide (mo ≤ 7))) = false) : rS 15 s a mo = s ∧ rB 15 s a mo = false := by
  constructor
  · show (if _ then _ else _) = _
    rw [h]; simp
  · show (_ && _) = _
    rw [h]; rfl
end Go.Proofs.YtdiipmejkanhfaaDoor
