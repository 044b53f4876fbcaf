/- What is done with a slot, each thing by itself; nothing that was there changes. -/
import Derived.Test.YtdiipmejkanhfaaDoorSmall
namespace Go.Proofs.YtdiipmejkanhfaaDoor
open Go.RowKit
attribute [local go_sem ↓] Go.wp_at_zero Go.wp_at_succ


theorem mine_is (s : Sl) (a mo z : Int) (w : World) (b : Bool) (h : minB s a z = b) :
    Calls Tryd.prog 48 #[Value.agg #[Value.int .i64 s.st, Value.int .i64 s.ow, Value.int .i64 s.sr, Value.bool s.br, Value.bool s.ma, Value.int .i64 s.us, Value.int .i64 s.ge, Value.int .i64 s.ep, Value.int .i64 s.ve, Value.int .i64 a, Value.int .i64 mo], .int .i64 z] w fun e w' => e = .returned (.bool b) ∧ Below w.heap.size w w' := by
  rw [← h]; exact mine_any s a mo z w
theorem epoch_is (s : Sl) (a mo : Int) (w : World) (b : Bool) (h : epoB mo = b) :
    Calls Tryd.prog 52 #[Value.agg #[Value.int .i64 s.st, Value.int .i64 s.ow, Value.int .i64 s.sr, Value.bool s.br, Value.bool s.ma, Value.int .i64 s.us, Value.int .i64 s.ge, Value.int .i64 s.ep, Value.int .i64 s.ve, Value.int .i64 a, Value.int .i64 mo]] w fun e w' => e = .returned (.bool b) ∧ Below w.heap.size w w' := by
  rw [← h]; exact epoch_any s a mo w
theorem ret_pair {vs : Array Value} {a b : Bool} (h : a = b) : Ending.returned (.tuple #[.agg vs, .bool a]) = .returned (.tuple #[.agg vs, .bool b]) := by rw [h]
/-- nine stores, one behind the other, are a row -/
theorem row9 {W : World} {b : Nat} {t : TypeId} {u0 u1 u2 u3 u4 u5 u6 u7 u8 : Value} (h : RowAt W b t #[u0, u1, u2, u3, u4, u5, u6, u7, u8]) (v0 v1 v2 v3 v4 v5 v6 v7 v8 : Value) :
    RowAt (((((((((W.setCell ⟨b, 0, none⟩ v0).setCell ⟨b, 1, none⟩ v1).setCell ⟨b, 2, none⟩ v2).setCell ⟨b, 3, none⟩ v3).setCell ⟨b, 4, none⟩ v4).setCell ⟨b, 5, none⟩ v5).setCell ⟨b, 6, none⟩ v6).setCell ⟨b, 7, none⟩ v7).setCell ⟨b, 8, none⟩ v8) b t #[v0, v1, v2, v3, v4, v5, v6, v7, v8] := by
  have h0 : RowAt _ b t #[v0, u1, u2, u3, u4, u5, u6, u7, u8] := h.put 0 v0
  have h1 : RowAt _ b t #[v0, v1, u2, u3, u4, u5, u6, u7, u8] := h0.put 1 v1
  have h2 : RowAt _ b t #[v0, v1, v2, u3, u4, u5, u6, u7, u8] := h1.put 2 v2
  have h3 : RowAt _ b t #[v0, v1, v2, v3, u4, u5, u6, u7, u8] := h2.put 3 v3
  have h4 : RowAt _ b t #[v0, v1, v2, v3, v4, u5, u6, u7, u8] := h3.put 4 v4
  have h5 : RowAt _ b t #[v0, v1, v2, v3, v4, v5, u6, u7, u8] := h4.put 5 v5
  have h6 : RowAt _ b t #[v0, v1, v2, v3, v4, v5, v6, u7, u8] := h5.put 6 v6
  have h7 : RowAt _ b t #[v0, v1, v2, v3, v4, v5, v6, v7, u8] := h6.put 7 v7
  have h8 : RowAt _ b t #[v0, v1, v2, v3, v4, v5, v6, v7, v8] := h7.put 8 v8
  exact h8
theorem below9 {n b : Nat} {A W : World} (h : Below n A W) (hb : n ≤ b) (v0 v1 v2 v3 v4 v5 v6 v7 v8 : Value) :
    Below n A (((((((((W.setCell ⟨b, 0, none⟩ v0).setCell ⟨b, 1, none⟩ v1).setCell ⟨b, 2, none⟩ v2).setCell ⟨b, 3, none⟩ v3).setCell ⟨b, 4, none⟩ v4).setCell ⟨b, 5, none⟩ v5).setCell ⟨b, 6, none⟩ v6).setCell ⟨b, 7, none⟩ v7).setCell ⟨b, 8, none⟩ v8) :=
  ((((((((h.setCell hb v0).setCell hb v1).setCell hb v2).setCell hb v3).setCell hb v4).setCell hb v5).setCell hb v6).setCell hb v7).setCell hb v8
/-- a slot in a box, and a bool, told as results -/
theorem res_pair {fn : Func} {p u : Tmp} (h : fn.results = #[.cell p 23, .tmp u]) (tmps : Array Value) (W : World) (b : Nat) (vs : Array Value) (hp : tmps.getD p undef = .pointer (some ⟨b, 0, none⟩)) (r : RowAt W b 23 vs) (hs : vs.size = 9) :
    (results fn tmps).run Tryd.prog W = .ok (.tuple #[.agg vs, tmps.getD u undef]) W := by
  rw [results_cell_tmp h, hp]
  have e := run_loadVar_row (P := Tryd.prog) W b 23 23 vs (0, 0) _ r Tryd.underlying23 rfl (by rw [hs]; kernel_rfl)
  simp [asAddr, Result.andThen, e]
def lowI (sr : Int) : Int := tzI (bits .xor .u64 IntKind.u64.max (IntKind.u64.wrap sr))
def opnI (sr : Int) : Int := bits .or .i64 sr (wrap64 (2 ^ (lowI sr).toNat))
def min8 (mo : Int) : Int := if 8 < mo then 8 else mo
def bitM (mo : Int) : Int := wrap64 (2 ^ min (IntKind.u64.wrap mo).toNat 64)
def hadB (sr mo : Int) : Bool := bits .and .i64 sr (bitM mo) != 0
def shtI (sr mo : Int) : Int := bits .andNot .i64 sr (bitM mo)
def chS (k : Nat) (s : Sl) (a mo : Int) : Sl :=
  match k with
  | 0 => s.becm a 1
  | 1 => s.leas a
  | 2 => s.bare 0
  | 3 => s.leas a
  | 4 => s.becm a 2
  | 5 => s.becm a 4
  | 6 => s.becm a 2
  | 7 => s.becm a 5
  | 8 => s.bare 0
  | 9 => ⟨s.st, a, s.sr, s.br, s.ma, s.us, s.ge, s.ep, s.ve⟩
  | 10 => ⟨s.st, s.ow, s.sr, s.br, true, s.us, s.ge, s.ep, s.ve⟩
  | 11 => s.limb mo
  | 12 => s.bare 0
  | 13 => ⟨s.st, s.ow, s.sr, true, s.ma, s.us, s.ge, s.ep, s.ve⟩
  | 14 => ⟨s.st, s.ow, opnI s.sr, s.br, s.ma, s.us, s.ge, s.ep, s.ve⟩
  | 15 => ⟨s.st, s.ow, shtI s.sr mo, s.br, s.ma, s.us, s.ge, s.ep, s.ve⟩
  | 16 => if minB s a 5 = true then s.becm a 1 else s.leas a
  | _ => s.limb mo
def chB (k : Nat) (s : Sl) (a mo : Int) : Bool :=
  match k with
  | 0 => s.st == 0
  | 1 => minB s a 1
  | 2 => minB s a 1
  | 3 => souB s
  | 4 => minB s a 3 && s.sr == 0
  | 5 => souB s
  | 6 => s.st == 4
  | 7 => s.st == 0
  | 8 => s.st == 5
  | 9 => s.st == 2
  | 10 => s.st == 2 && !s.ma
  | 11 => (s.st == 2 || s.st == 3) && epoB mo
  | 12 => s.st == 6
  | 13 => (s.st == 2 || s.st == 3 || s.st == 4) && !s.br
  | 14 => minB s a 3 && !s.br && decide (lowI s.sr < min8 mo)
  | 15 => minB s a 3 && hadB s.sr mo
  | 16 => minB s a 5 || minB s a 4
  | _ => s.st == 6 && epoB mo
end Go.Proofs.YtdiipmejkanhfaaDoor
