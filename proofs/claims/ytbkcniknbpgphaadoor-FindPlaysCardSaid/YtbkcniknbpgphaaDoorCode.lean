/- A slot's word, and a word's slot, as the program tells; nothing that was there changes. -/
import Derived.Test.YtbkcniknbpgphaaDoorRightW
namespace Go.Proofs.YtbkcniknbpgphaaDoor
open Go.RowKit
attribute [local go_sem ↓] Go.wp_at_zero Go.wp_at_succ

/-- what Encode tells -/
def encN (s : Sl) : Int := if rtB s then wk s 9 else 0
theorem encN_yes {s : Sl} (h : rtB s = true) : encN s = wk s 9 := by simp [encN, h]
theorem encN_no {s : Sl} (h : rtB s = false) : encN s = 0 := by simp [encN, h]

set_option maxRecDepth 100000 in
set_option maxHeartbeats 800000 in
theorem encode_any (s : Sl) (w : World) (hT : Tab w) :
    Calls Tryd.prog 58 #[Value.agg #[Value.int .i64 s.st, Value.int .i64 s.ow, Value.int .i64 s.sr, Value.bool s.br, Value.bool s.ma, Value.int .i64 s.us, Value.int .i64 s.ge, Value.int .i64 s.ep, Value.int .i64 s.ve]] w fun e w' => e = .returned (.tuple #[.int .i64 (encN s), .bool (rtB s)]) ∧ Below w.heap.size w w' := by
  have hB0 : Below w.heap.size w (w.alloc (.cells #[Value.int .i64 s.st, Value.int .i64 s.ow, Value.int .i64 s.sr, Value.bool s.br, Value.bool s.ma, Value.int .i64 s.us, Value.int .i64 s.ge, Value.int .i64 s.ep, Value.int .i64 s.ve] 23)) := (Below.refl _ _).alloc (Nat.le_refl _) _
  have r0 := RowAt.new w 23 #[Value.int .i64 s.st, Value.int .i64 s.ow, Value.int .i64 s.sr, Value.bool s.br, Value.bool s.ma, Value.int .i64 s.us, Value.int .i64 s.ge, Value.int .i64 s.ep, Value.int .i64 s.ve]
  have HT := Lib.hid (hT.below hB0 hT.lt)
  cases hr : rtB s with
  | false =>
    have He := Lib.hid (encN_no hr)
    have Hr := Lib.hid hr
    clear hr
    go_enter Tryd.func58, Tryd.ntmps58
    go_wp2_with fail
    refine (right_any s _ HT.out).mono ?_
    rintro e w1 ⟨rfl, hb⟩
    rw [Hr.out]
    replace hB0 := hB0.trans (hb.mono hB0.size)
    go_wp2_with fail
    go_ret2
    exact ⟨by rw [He.out]; rfl, hB0⟩
  | true =>
    have He := Lib.hid (encN_yes hr)
    have Hr := Lib.hid hr
    clear hr
    go_enter Tryd.func58, Tryd.ntmps58
    go_wp2_with fail
    refine (right_any s _ HT.out).mono ?_
    rintro e w1 ⟨rfl, hb⟩
    rw [Hr.out]
    replace hB0 := hB0.trans (hb.mono hB0.size)
    have r1 := r0.below hb r0.lt
    have HT1 := Lib.hid (HT.out.below hb HT.out.lt)
    clear hb
    go_wp2_with (refine wpList_load_row rfl 23 _ rfl _ rfl 23 _ (0, 0) _ r1 Tryd.underlying23 rfl (by kernel_rfl) ?_)
    refine (word_any s _ HT1.out).mono ?_
    rintro e w2 ⟨rfl, hb⟩
    replace hB0 := hB0.trans (hb.mono hB0.size)
    go_wp2_with fail
    go_ret2
    exact ⟨by rw [He.out]; rfl, hB0⟩

/-- a slot in a box, and a bool, told as results -/
theorem res_pair {fn : Func} {p u : Tmp} (h : fn.results = #[.cell p 23, .tmp u]) (tmps : Array Value) (W : World) (b : Nat) (vs : Array Value) (hp : tmps.getD p undef = .pointer (some ⟨b, 0, none⟩)) (r : RowAt W b 23 vs) (hs : vs.size = 9) :
    (results fn tmps).run Tryd.prog W = .ok (.tuple #[.agg vs, tmps.getD u undef]) W := by
  rw [results_cell_tmp h, hp]
  have e := run_loadVar_row (P := Tryd.prog) W b 23 23 vs (0, 0) _ r Tryd.underlying23 rfl (by rw [hs]; kernel_rfl)
  simp [asAddr, Result.andThen, e]
/-- what Decode tells -/
def decB (x : Int) : Bool := rtB (rdS x) && wk (rdS x) 9 == x
def decS (x : Int) : Sl := if decB x then rdS x else ⟨0, 0, 0, false, false, 0, 0, 0, 0⟩
theorem decS_yes {x : Int} (h : decB x = true) : decS x = rdS x := by simp [decS, h]
theorem decS_no {x : Int} (h : decB x = false) : decS x = ⟨0, 0, 0, false, false, 0, 0, 0, 0⟩ := by simp [decS, h]

set_option maxRecDepth 100000 in
set_option maxHeartbeats 800000 in
theorem decode_any (x : Int) (w : World) (hT : Tab w) (hx1 : -9223372036854775808 ≤ x) (hx2 : x ≤ 9223372036854775807) :
    Calls Tryd.prog 42 #[.int .i64 x] w fun e w' => e = .returned (.tuple #[Value.agg #[Value.int .i64 (decS x).st, Value.int .i64 (decS x).ow, Value.int .i64 (decS x).sr, Value.bool (decS x).br, Value.bool (decS x).ma, Value.int .i64 (decS x).us, Value.int .i64 (decS x).ge, Value.int .i64 (decS x).ep, Value.int .i64 (decS x).ve], .bool (decB x)]) ∧ Below w.heap.size w w' := by
  have hB0 : Below w.heap.size w (w.alloc (.cells #[Value.int .i64 0, Value.int .i64 0, Value.int .i64 0, Value.bool false, Value.bool false, Value.int .i64 0, Value.int .i64 0, Value.int .i64 0, Value.int .i64 0] 23)) := (Below.refl _ _).alloc (Nat.le_refl _) _
  have r0 := RowAt.new w 23 #[Value.int .i64 0, Value.int .i64 0, Value.int .i64 0, Value.bool false, Value.bool false, Value.int .i64 0, Value.int .i64 0, Value.int .i64 0, Value.int .i64 0]
  have HT := Lib.hid (hT.below hB0 hT.lt)
  clear hT
  go_enter Tryd.func42, Tryd.ntmps42
  go_wp2_with fail
  refine (read_any x _ HT.out hx1 hx2).mono ?_
  obtain ⟨q, eq⟩ : ∃ q, q = rdS x := ⟨_, rfl⟩
  rw [← eq]
  have Eq := Lib.hid eq
  clear eq
  rintro e w1 ⟨rfl, hb⟩
  replace hB0 := hB0.trans (hb.mono hB0.size)
  replace r0 := (r0.below hb r0.lt).alloc (.cells #[Value.int .i64 q.st, Value.int .i64 q.ow, Value.int .i64 q.sr, Value.bool q.br, Value.bool q.ma, Value.int .i64 q.us, Value.int .i64 q.ge, Value.int .i64 q.ep, Value.int .i64 q.ve] 23)
  replace HT := Lib.hid (HT.out.below hb HT.out.lt)
  clear hb
  have r1 := RowAt.new w1 23 #[Value.int .i64 q.st, Value.int .i64 q.ow, Value.int .i64 q.sr, Value.bool q.br, Value.bool q.ma, Value.int .i64 q.us, Value.int .i64 q.ge, Value.int .i64 q.ep, Value.int .i64 q.ve]
  replace hB0 := hB0.alloc hB0.size (.cells #[Value.int .i64 q.st, Value.int .i64 q.ow, Value.int .i64 q.sr, Value.bool q.br, Value.bool q.ma, Value.int .i64 q.us, Value.int .i64 q.ge, Value.int .i64 q.ep, Value.int .i64 q.ve] 23)
  replace HT := Lib.hid (HT.out.below ((Below.refl _ _).alloc (Nat.le_refl _) (.cells #[Value.int .i64 q.st, Value.int .i64 q.ow, Value.int .i64 q.sr, Value.bool q.br, Value.bool q.ma, Value.int .i64 q.us, Value.int .i64 q.ge, Value.int .i64 q.ep, Value.int .i64 q.ve] 23)) HT.out.lt)
  go_wp2_with fail
  refine (encode_any q _ HT.out).mono ?_
  rintro e w2 ⟨rfl, hb⟩
  replace hB0 := hB0.trans (hb.mono hB0.size)
  replace r0 := r0.below hb r0.lt
  replace r1 := r1.below hb r1.lt
  clear hb HT
  have Hno := Lib.hid (fun h => decS_no (x := x) h)
  have Hyes := Lib.hid (fun h => decS_yes (x := x) h)
  have HB := Lib.hid (show decB x = (rtB q && wk q 9 == x) by rw [Eq.out]; rfl)
  have hB1 : Below w.heap.size w (w2.setRow w.heap.size #[Value.int .i64 0, Value.int .i64 0, Value.int .i64 0, Value.bool false, Value.bool false, Value.int .i64 0, Value.int .i64 0, Value.int .i64 0, Value.int .i64 0]) := below_setRow hB0 (Nat.le_refl _) _
  have r2 := r0.set #[Value.int .i64 0, Value.int .i64 0, Value.int .i64 0, Value.bool false, Value.bool false, Value.int .i64 0, Value.int .i64 0, Value.int .i64 0, Value.int .i64 0]
  have hB3 : Below w.heap.size w (w2.setRow w.heap.size #[Value.int .i64 q.st, Value.int .i64 q.ow, Value.int .i64 q.sr, Value.bool q.br, Value.bool q.ma, Value.int .i64 q.us, Value.int .i64 q.ge, Value.int .i64 q.ep, Value.int .i64 q.ve]) := below_setRow hB0 (Nat.le_refl _) _
  have r3 := r0.set #[Value.int .i64 q.st, Value.int .i64 q.ow, Value.int .i64 q.sr, Value.bool q.br, Value.bool q.ma, Value.int .i64 q.us, Value.int .i64 q.ge, Value.int .i64 q.ep, Value.int .i64 q.ve]
  obtain ⟨B2, e2⟩ : ∃ B2, B2 = w1.heap.size := ⟨_, rfl⟩
  rw [← e2] at r1 ⊢
  clear e2
  have hlt0 := r0.lt
  have hlt1 := r1.lt
  cases hr : rtB q with
  | false =>
    go_wp2_with (refine wpList_store_row rfl 23 _ _ rfl _ #[Value.int .i64 0, Value.int .i64 0, Value.int .i64 0, Value.bool false, Value.bool false, Value.int .i64 0, Value.int .i64 0, Value.int .i64 0, Value.int .i64 0] rfl rfl 23 _ r0 (by kernel_rfl) rfl (by simp [Value.oneCell']) ?_)
    refine bodyPost_ret (res_pair (p := 2) (u := 3) rfl _ _ _ _ rfl r2 rfl) rfl ⟨?_, hB1⟩
    have hf : decB x = false := by rw [HB.out, hr]; rfl
    rw [Hno.out hf, hf]; rfl
  | true =>
    have Hn := Lib.hid (encN_yes hr)
    cases he : (encN q != x) with
    | true =>
      go_wp2_with (refine wpList_store_row rfl 23 _ _ rfl _ #[Value.int .i64 0, Value.int .i64 0, Value.int .i64 0, Value.bool false, Value.bool false, Value.int .i64 0, Value.int .i64 0, Value.int .i64 0, Value.int .i64 0] rfl rfl 23 _ r0 (by kernel_rfl) rfl (by simp [Value.oneCell']) ?_)
      refine bodyPost_ret (res_pair (p := 2) (u := 3) rfl _ _ _ _ rfl r2 rfl) rfl ⟨?_, hB1⟩
      have hf : decB x = false := by rw [HB.out, hr, ← Hn.out]; simpa using he
      rw [Hno.out hf, hf]; rfl
    | false =>
      go_wp2_with (first
        | (refine wpList_load_row rfl 23 _ rfl _ rfl 23 _ (0, 0) _ r1 Tryd.underlying23 rfl (by kernel_rfl) ?_)
        | (refine wpList_store_row rfl 23 _ _ rfl _ #[Value.int .i64 q.st, Value.int .i64 q.ow, Value.int .i64 q.sr, Value.bool q.br, Value.bool q.ma, Value.int .i64 q.us, Value.int .i64 q.ge, Value.int .i64 q.ep, Value.int .i64 q.ve] rfl rfl 23 _ r0 (by kernel_rfl) rfl (by simp [Value.oneCell']) ?_))
      refine bodyPost_ret (res_pair (p := 2) (u := 3) rfl _ _ _ _ rfl r3 rfl) rfl ⟨?_, hB3⟩
      have hf : decB x = true := by rw [HB.out, hr, ← Hn.out]; simpa using he
      rw [Hyes.out hf, hf, ← Eq.out]; rfl
end Go.Proofs.YtbkcniknbpgphaaDoor
