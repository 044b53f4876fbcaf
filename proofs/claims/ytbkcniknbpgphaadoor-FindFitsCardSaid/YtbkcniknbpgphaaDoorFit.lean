/- Whether a slot fits a kind; what each kind asks; nothing that was there changes. -/
import Derived.Test.YtbkcniknbpgphaaDoorNums
import Derived.Test.YtbkcniknbpgphaaDoorLst
namespace Go.Proofs.YtbkcniknbpgphaaDoor
open Go.RowKit
attribute [local go_sem ↓] Go.wp_at_zero Go.wp_at_succ

/-- does a slot fit a kind, of an owner -/
def fitsB (s : Sl) (k o : Int) : Bool :=
  if k = 0 then s.st == 2 && !s.br && s.ow == o
  else if k = 1 then s.st == 2 && !s.br
  else if k = 2 then s.st == 0
  else if k = 3 then (s.st == 2 && !s.br) || s.st == 0
  else if k = 4 then (if s.st = 2 then s.br || o == 1 || o == 2 else s.st == 3 && o == 2)
  else if k = 5 then s.st == 6
  else if k = 6 then s.st == 2
  else false
theorem fits_0 (s : Sl) (o : Int) : fitsB s 0 o = (s.st == 2 && !s.br && s.ow == o) := rfl
theorem fits_1 (s : Sl) (o : Int) : fitsB s 1 o = (s.st == 2 && !s.br) := rfl
theorem fits_2 (s : Sl) (o : Int) : fitsB s 2 o = (s.st == 0) := rfl
theorem fits_3 (s : Sl) (o : Int) : fitsB s 3 o = ((s.st == 2 && !s.br) || s.st == 0) := rfl
theorem fits_4 (s : Sl) (o : Int) : fitsB s 4 o = (if s.st = 2 then s.br || o == 1 || o == 2 else s.st == 3 && o == 2) := rfl
theorem fits_5 (s : Sl) (o : Int) : fitsB s 5 o = (s.st == 6) := rfl
theorem fits_6 (s : Sl) (o : Int) : fitsB s 6 o = (s.st == 2) := rfl
theorem fits_no (s : Sl) {k : Int} (o : Int) (h : k < 0 ∨ 6 < k) : fitsB s k o = false := by
  unfold fitsB
  repeat rw [if_neg (by omega)]
theorem bnew (w : World) (o : Obj) : Below w.heap.size w (w.alloc o) := (Below.refl _ _).alloc (Nat.le_refl _) _
theorem bst {a b c : World} (h : Below a.heap.size a b) (k : Below b.heap.size b c) : Below a.heap.size a c := h.trans (k.mono h.size)
/-- what a call tells that tells a bool -/
def RetB (b : Bool) (w : World) (e : Ending) (w' : World) : Prop := e = .returned (.bool b) ∧ Below w.heap.size w w'
theorem RetB.mk {b a : Bool} {w w' : World} (h : a = b) (hB : Below w.heap.size w w') : RetB b w (.returned (.bool a)) w' := ⟨by rw [h], hB⟩
set_option maxRecDepth 100000 in
set_option maxHeartbeats 2000000 in
theorem sound_any (s : Sl) (w : World) : Calls Tryd.prog 62 #[Value.agg #[Value.int .i64 s.st, Value.int .i64 s.ow, Value.int .i64 s.sr, Value.bool s.br, Value.bool s.ma, Value.int .i64 s.us, Value.int .i64 s.ge, Value.int .i64 s.ep, Value.int .i64 s.ve]] w (RetB (s.st == 2 && !s.br) w) := by
  obtain ⟨st, ow, sr, br, ma, us, ge, ep, ve⟩ := s
  by_cases h : st = 2
  · subst h
    cases br <;>
    · go_enter Tryd.func62, Tryd.ntmps62
      go_wp2
      go_ret
      exact .mk rfl (bnew _ _)
  · have h2 : (st == 2) = false := by simpa using h
    go_enter Tryd.func62, Tryd.ntmps62
    go_wp2
    go_ret
    exact .mk (by simp [h]) (bnew _ _)
set_option maxRecDepth 100000 in
set_option maxHeartbeats 2000000 in
theorem own_any (s : Sl) (o : Int) (b : Nat) (w : World) (hc : w.cell? ⟨b, 0, none⟩ = some (.int .i64 o)) (hb : b < w.heap.size) : Calls Tryd.prog 61 #[Value.agg #[Value.int .i64 s.st, Value.int .i64 s.ow, Value.int .i64 s.sr, Value.bool s.br, Value.bool s.ma, Value.int .i64 s.us, Value.int .i64 s.ge, Value.int .i64 s.ep, Value.int .i64 s.ve], .pointer (some ⟨b, 0, none⟩)] w (RetB (fitsB s 0 o) w) := by
  have hB := bnew w (.cells #[Value.int .i64 s.st, Value.int .i64 s.ow, Value.int .i64 s.sr, Value.bool s.br, Value.bool s.ma, Value.int .i64 s.us, Value.int .i64 s.ge, Value.int .i64 s.ep, Value.int .i64 s.ve] 23)
  have r0 := RowAt.new w 23 #[Value.int .i64 s.st, Value.int .i64 s.ow, Value.int .i64 s.sr, Value.bool s.br, Value.bool s.ma, Value.int .i64 s.us, Value.int .i64 s.ge, Value.int .i64 s.ep, Value.int .i64 s.ve]
  have hne : b ≠ w.heap.size := by omega
  go_enter Tryd.func61, Tryd.ntmps61
  go_wp2_with fail
  refine (sound_any s _).mono ?_
  rintro e w1 ⟨rfl, hb1⟩
  have hc1 : w1.cell? ⟨b, 0, none⟩ = some (.int .i64 o) := by rw [(hb1.cell (p := ⟨b, 0, none⟩) (by simp; omega)), (hB.cell (p := ⟨b, 0, none⟩) hb), hc]
  have c1 := (r0.below hb1 r0.lt).cell 1 rfl
  cases hs : (s.st == 2 && !s.br) with
  | false =>
    go_wp2_with fail
    go_ret
    exact .mk (by rw [fits_0, hs]; rfl) (bst hB hb1)
  | true =>
    go_wp2_with fail
    go_ret
    exact .mk (by rw [fits_0, hs]; rfl) (bst hB hb1)
set_option maxRecDepth 100000 in
set_option maxHeartbeats 2000000 in
theorem anyk_any (s : Sl) (o : Int) (w : World) : Calls Tryd.prog 63 #[Value.agg #[Value.int .i64 s.st, Value.int .i64 s.ow, Value.int .i64 s.sr, Value.bool s.br, Value.bool s.ma, Value.int .i64 s.us, Value.int .i64 s.ge, Value.int .i64 s.ep, Value.int .i64 s.ve]] w (RetB (fitsB s 1 o) w) := by
  have hB := bnew w (.cells #[Value.int .i64 s.st, Value.int .i64 s.ow, Value.int .i64 s.sr, Value.bool s.br, Value.bool s.ma, Value.int .i64 s.us, Value.int .i64 s.ge, Value.int .i64 s.ep, Value.int .i64 s.ve] 23)
  go_enter Tryd.func63, Tryd.ntmps63
  go_wp2_with fail
  refine (sound_any s _).mono ?_
  rintro e w1 ⟨rfl, hb1⟩
  go_wp2_with fail
  go_ret
  exact .mk rfl (bst hB hb1)
set_option maxRecDepth 100000 in
set_option maxHeartbeats 2000000 in
theorem free_any (s : Sl) (o : Int) (w : World) : Calls Tryd.prog 64 #[Value.agg #[Value.int .i64 s.st, Value.int .i64 s.ow, Value.int .i64 s.sr, Value.bool s.br, Value.bool s.ma, Value.int .i64 s.us, Value.int .i64 s.ge, Value.int .i64 s.ep, Value.int .i64 s.ve]] w (RetB (fitsB s 2 o) w) := by
  go_enter Tryd.func64, Tryd.ntmps64
  go_wp2
  go_ret
  exact .mk rfl (bnew _ _)
set_option maxRecDepth 100000 in
set_option maxHeartbeats 2000000 in
theorem some_any (s : Sl) (o : Int) (w : World) : Calls Tryd.prog 65 #[Value.agg #[Value.int .i64 s.st, Value.int .i64 s.ow, Value.int .i64 s.sr, Value.bool s.br, Value.bool s.ma, Value.int .i64 s.us, Value.int .i64 s.ge, Value.int .i64 s.ep, Value.int .i64 s.ve]] w (RetB (fitsB s 3 o) w) := by
  have hB := bnew w (.cells #[Value.int .i64 s.st, Value.int .i64 s.ow, Value.int .i64 s.sr, Value.bool s.br, Value.bool s.ma, Value.int .i64 s.us, Value.int .i64 s.ge, Value.int .i64 s.ep, Value.int .i64 s.ve] 23)
  have r0 := RowAt.new w 23 #[Value.int .i64 s.st, Value.int .i64 s.ow, Value.int .i64 s.sr, Value.bool s.br, Value.bool s.ma, Value.int .i64 s.us, Value.int .i64 s.ge, Value.int .i64 s.ep, Value.int .i64 s.ve]
  go_enter Tryd.func65, Tryd.ntmps65
  go_wp2_with fail
  refine (sound_any s _).mono ?_
  rintro e w1 ⟨rfl, hb1⟩
  have c0 := (r0.below hb1 r0.lt).cell 0 rfl
  cases hs : (s.st == 2 && !s.br) with
  | false =>
    go_wp2_with fail
    go_ret
    exact .mk (by rw [fits_3, hs]; rfl) (bst hB hb1)
  | true =>
    go_wp2_with fail
    go_ret
    exact .mk (by rw [fits_3, hs]; rfl) (bst hB hb1)
set_option maxRecDepth 100000 in
set_option maxHeartbeats 2000000 in
theorem swept_any (s : Sl) (o : Int) (b : Nat) (w : World) (hc : w.cell? ⟨b, 0, none⟩ = some (.int .i64 o)) (hb : b < w.heap.size) : Calls Tryd.prog 66 #[Value.agg #[Value.int .i64 s.st, Value.int .i64 s.ow, Value.int .i64 s.sr, Value.bool s.br, Value.bool s.ma, Value.int .i64 s.us, Value.int .i64 s.ge, Value.int .i64 s.ep, Value.int .i64 s.ve], .pointer (some ⟨b, 0, none⟩)] w (RetB (fitsB s 4 o) w) := by
  have hne : b ≠ w.heap.size := by omega
  obtain ⟨st, ow, sr, br, ma, us, ge, ep, ve⟩ := s
  rw [fits_4]
  by_cases h : st = 2
  · subst h
    cases br
    · by_cases h1 : o = 1
      · subst h1
        go_enter Tryd.func66, Tryd.ntmps66
        go_wp2
        go_ret
        exact .mk rfl (bnew _ _)
      · have h2 : (o == 1) = false := by simpa using h1
        go_enter Tryd.func66, Tryd.ntmps66
        go_wp2
        go_ret
        exact .mk (by simp [h2]) (bnew _ _)
    · go_enter Tryd.func66, Tryd.ntmps66
      go_wp2
      go_ret
      exact .mk rfl (bnew _ _)
  · have h2 : (st == 2) = false := by simpa using h
    by_cases h3 : st = 3
    · subst h3
      go_enter Tryd.func66, Tryd.ntmps66
      go_wp2
      go_ret
      exact .mk (by simp) (bnew _ _)
    · have h4 : (st == 3) = false := by simpa using h3
      go_enter Tryd.func66, Tryd.ntmps66
      go_wp2
      go_ret
      exact .mk (by simp) (bnew _ _)
set_option maxRecDepth 100000 in
set_option maxHeartbeats 2000000 in
theorem old_any (s : Sl) (o : Int) (w : World) : Calls Tryd.prog 67 #[Value.agg #[Value.int .i64 s.st, Value.int .i64 s.ow, Value.int .i64 s.sr, Value.bool s.br, Value.bool s.ma, Value.int .i64 s.us, Value.int .i64 s.ge, Value.int .i64 s.ep, Value.int .i64 s.ve]] w (RetB (fitsB s 5 o) w) := by
  go_enter Tryd.func67, Tryd.ntmps67
  go_wp2
  go_ret
  exact .mk rfl (bnew _ _)
set_option maxRecDepth 100000 in
set_option maxHeartbeats 2000000 in
theorem rests_any (s : Sl) (o : Int) (w : World) : Calls Tryd.prog 68 #[Value.agg #[Value.int .i64 s.st, Value.int .i64 s.ow, Value.int .i64 s.sr, Value.bool s.br, Value.bool s.ma, Value.int .i64 s.us, Value.int .i64 s.ge, Value.int .i64 s.ep, Value.int .i64 s.ve]] w (RetB (fitsB s 6 o) w) := by
  go_enter Tryd.func68, Tryd.ntmps68
  go_wp2
  go_ret
  exact .mk rfl (bnew _ _)
set_option maxRecDepth 100000 in
set_option maxHeartbeats 2000000 in
theorem none_any (s : Sl) {k : Int} (o : Int) (w : World) (h : k < 0 ∨ 6 < k) : Calls Tryd.prog 48 #[Value.agg #[Value.int .i64 s.st, Value.int .i64 s.ow, Value.int .i64 s.sr, Value.bool s.br, Value.bool s.ma, Value.int .i64 s.us, Value.int .i64 s.ge, Value.int .i64 s.ep, Value.int .i64 s.ve]] w (RetB (fitsB s k o) w) := by
  rw [fits_no s o h]
  clear h
  go_enter Tryd.func48, Tryd.ntmps48
  go_wp2
  go_ret
  exact .mk rfl (bnew _ _)
end Go.Proofs.YtbkcniknbpgphaaDoor
