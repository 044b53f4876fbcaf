/- The bytes of entries, or why there are none; nothing that was there changes. -/
import Derived.Test.YtbkaiffecnomjaaRight
namespace Go.Proofs.Ytbkaiffecnomjaa
open Go.RowKit
attribute [local go_sem ↓] Go.wp_at_zero Go.wp_at_succ

/-- what Encode tells -/
def RetEnc (w : World) (l : List En) (e : Ending) (w' : World) : Prop := ∃ A c, e = .returned (.tuple #[.slice A (encL l).length c, .int .i64 (encE l)]) ∧ (encL l).length ≤ c ∧ BS w' w'.heap.size A (encL l) ∧ Below w.heap.size w w'
theorem RetEnc.no {w w' : World} {l : List En} {z : Int} (h : encE l = z ∧ encL l = []) (hb : Below w.heap.size w w') : RetEnc w l (.returned (.tuple #[.slice none 0 0, .int .i64 z])) w' := by
  refine ⟨none, 0, ?_, ?_, ?_, hb⟩
  · rw [h.1, h.2]; rfl
  · rw [h.2]; exact Nat.le_refl _
  · rw [h.2]; exact bs_nil _ _ _
theorem RetEnc.yes {w w' : World} {l : List En} {A : Option Addr} {n c : Nat} (h : encE l = 0 ∧ encL l = enc l) (hm : BMine w w' (.slice A n c) (enc l)) : RetEnc w l (.returned (.tuple #[.slice A n c, .int .i64 0])) w' := by
  obtain ⟨h1, h2, h3⟩ := hm.inv
  refine ⟨A, c, ?_, ?_, ?_, hm.below⟩
  · rw [h.1, h.2, h2]
  · rw [h.2, h2]; exact h3
  · rw [h.2]; exact h1
theorem make_bytes (m : Nat) (hm : m ≤ 1000000) : ∃ Z : Array Value, (∀ W : World, (Instr.makeSlice 24 (.int .i64 0) (.int .i64 (m : Int))).run Try.prog W = .ok (.slice (some ⟨W.heap.size, 0, none⟩) 0 m) (W.alloc (.cells Z 5))) ∧ ∀ w W : World, Below w.heap.size w W → BMine w (W.alloc (.cells Z 5)) (.slice (some ⟨W.heap.size, 0, none⟩) 0 m) [] := by
  obtain ⟨i0, hi, hz0, hz1, hz2⟩ := info_parts infoB
  refine ⟨madeCells (vB 0).cells (m * i0.size), fun W => ?_, fun w W hb => ⟨?_, hb.alloc hb.size _⟩⟩
  · have h := run_make (P := Try.prog) W 24 5 i0 (vB 0) Try.underlying24 hi hz0 .i64 .i64 0 m (by omega) (by omega) (by rw [hz2]; omega) (by omega)
    simpa using h
  · exact World.ownsRow_made W _ m hb.size (by unfold maxLen; omega) (by rw [size_madeCells, hz1])
theorem pA_at {p : Pc} {i : Nat} {y : Int} (h : (pb p)[i]? = some y) : (#[Value.int .u8 p.b0, Value.int .u8 p.b1, Value.int .u8 p.b2, Value.int .u8 p.b3, Value.int .u8 p.b4, Value.int .u8 p.b5, Value.int .u8 p.b6, Value.int .u8 p.b7, Value.int .u8 p.b8, Value.int .u8 p.b9, Value.int .u8 p.b10, Value.int .u8 p.b11] : Array Value)[i]? = some (vB y) := by
  have e : (pL p)[i]? = some (vB y) := by rw [pL_eq, List.getElem?_map, h]; rfl
  simpa [pL] using e
set_option maxRecDepth 100000 in
set_option maxHeartbeats 2000000 in
theorem enc_any (A : Option Addr) (n c0 : Nat) (xs : List En) (w : World) (hn : xs.length = n) (hI : LS w w.heap.size A xs) (hn2 : n ≤ 1000000) :
    Calls Try.prog 10 #[.slice A n c0] w (RetEnc w xs) := by
  have Hn := Lib.hid hn
  have HI := Lib.hid hI
  clear hn hI
  by_cases h : 1000 < n
  · have h1 : (1000 : Int) < (n : Int) := by omega
    have Hy := Lib.hid (enc_long (l := xs) (by rw [Hn.out]; exact h))
    go_enter Try.func10, Try.ntmps10
    go_wp2_with fail
    go_ret2
    exact RetEnc.no Hy.out (Below.refl _ _)
  · have h1 : ¬ (1000 : Int) < (n : Int) := by omega
    have Hl := Lib.hid (show ¬ 1000 < xs.length by rw [Hn.out]; exact h)
    obtain ⟨m, hm⟩ : ∃ m, m = n * 12 := ⟨_, rfl⟩
    have hm2 : m ≤ 12000 := by omega
    have em : (n : Int) * 12 = (m : Int) := by omega
    obtain ⟨Z, hZ, hO⟩ := make_bytes m (by omega)
    have HO := Lib.hid hO
    clear hO hm
    go_enter Try.func10, Try.ntmps10
    go_wp2_with fail
    have HM0 := Lib.hid (HO.out w w (Below.refl _ _))
    go_loopw [4, 17] (fun o i wr => ∃ (k j : Nat) (Av : Option Addr) (cv : Nat), k ≤ n ∧ i = .int .i64 k ∧ o = .slice Av j cv ∧ Hid (j = 12 * k) ∧ Hid (BMine w wr (.slice Av j cv) (enc (xs.take k))) ∧ Hid ((xs.take k).all rtB = true)) (fun _ i _ => n - (intOf i).toNat)
    case atStart => exact ⟨0, 0, _, m, Nat.zero_le _, rfl, rfl, Lib.hid rfl, HM0, Lib.hid rfl⟩
    case round =>
      obtain ⟨k, j, Av, cv, hk, rfl, rfl, Hj, HM, HR⟩ := hrel
      by_cases hlt : k < n
      · have hlt2 : (k : Int) < (n : Int) := by omega
        obtain ⟨x, hx⟩ := some_lt (xs := xs) (k := k) (by rw [Hn.out]; exact hlt)
        obtain ⟨b, off, rfl, hb, hc⟩ := (HI.out.below HM.out.below) k x hx
        have HX := Lib.hid hx
        have hle : w.heap.size ≤ wr.heap.size := HM.out.below.size
        clear hx
        go_wp2_with (refine wpList_load_mid rfl 32 _ rfl b _ rfl [Value.int .i64 x.k, Value.int .i64 x.w, Value.int .i64 x.op, Value.int .i64 x.dl, Value.bool x.wa, Value.bool x.fo, Value.int .i64 x.sl, Value.int .i64 x.ge, Value.int .i64 x.st, Value.int .i64 x.n, Value.bool x.gd] _ hc Try.underlying32 rfl (by kernel_rfl) ?_)
        have hb1 := bnew wr (.cells #[Value.int .i64 x.k, Value.int .i64 x.w, Value.int .i64 x.op, Value.int .i64 x.dl, Value.bool x.wa, Value.bool x.fo, Value.int .i64 x.sl, Value.int .i64 x.ge, Value.int .i64 x.st, Value.int .i64 x.n, Value.bool x.gd] 32)
        have r1 := RowAt.new wr 32 #[Value.int .i64 x.k, Value.int .i64 x.w, Value.int .i64 x.op, Value.int .i64 x.dl, Value.bool x.wa, Value.bool x.fo, Value.int .i64 x.sl, Value.int .i64 x.ge, Value.int .i64 x.st, Value.int .i64 x.n, Value.bool x.gd]
        have HM1 := Lib.hid (HM.out.on hb1)
        clear HM hc hb1
        refine (right_any x _).mono ?_
        rintro e w1 ⟨rfl, hb⟩
        have HM2 := Lib.hid (HM1.out.on hb)
        replace r1 := r1.below hb r1.lt
        clear hb HM1
        cases hq : rtB x with
        | false =>
          have Hy := Lib.hid (enc_no Hl.out (all_fail HX.out hq))
          clear hq
          go_wp2_with fail
          go_ret2
          exact RetEnc.no Hy.out HM2.out.below
        | true =>
          have Hq := Lib.hid hq
          clear hq
          go_wp2_with (refine wpList_load_row rfl 32 _ rfl _ rfl 32 _ (0, 0) _ r1 Try.underlying32 rfl (by kernel_rfl) ?_)
          refine (write_any x _).mono ?_
          obtain ⟨p, ep⟩ : ∃ p, p = wrE x := ⟨_, rfl⟩
          rw [← ep]
          have Ep := Lib.hid ep
          clear ep
          rintro e w2 ⟨rfl, hb⟩
          have hb2 := hb.trans ((bnew w2 (.cells #[Value.int .u8 p.b0, Value.int .u8 p.b1, Value.int .u8 p.b2, Value.int .u8 p.b3, Value.int .u8 p.b4, Value.int .u8 p.b5, Value.int .u8 p.b6, Value.int .u8 p.b7, Value.int .u8 p.b8, Value.int .u8 p.b9, Value.int .u8 p.b10, Value.int .u8 p.b11] 43)).mono hb.size)
          have HM3 := Lib.hid (HM2.out.on hb2)
          have r2 := RowAt.new w2 43 #[Value.int .u8 p.b0, Value.int .u8 p.b1, Value.int .u8 p.b2, Value.int .u8 p.b3, Value.int .u8 p.b4, Value.int .u8 p.b5, Value.int .u8 p.b6, Value.int .u8 p.b7, Value.int .u8 p.b8, Value.int .u8 p.b9, Value.int .u8 p.b10, Value.int .u8 p.b11]
          clear hb hb2 HM2
          obtain ⟨j2, hj2⟩ : ∃ j2, j2 = j + 12 := ⟨_, rfl⟩
          have Hj2 := Lib.hid hj2
          clear hj2
          go_wp2_with (refine HM3.out.appAll (n := j) (m := 12) (k := j2) (zs := enc (xs.take (k + 1))) (by rw [enc_len, take_len (by rw [Hn.out]; omega)]; exact Hj.out.symm) (by have := Hj.out; omega) Hj2.out.symm rfl _ _ rfl rfl (pb p) rfl _ 0 _ rfl ?g1 (by rw [enc_step HX.out, ← Ep.out]) ?_; rotate_left; intro Av3 cv3 w5 hM3)
          case g1 => exact fun i y hy => r2.cell (0 + i) (by rw [Nat.zero_add]; exact pA_at hy)
          go_roundw
          case rel => exact ⟨k + 1, j2, Av3, cv3, by omega, by go_num, rfl, Lib.hid (by have := Hj.out; have := Hj2.out; omega), Lib.hid hM3, Lib.hid (all_step HR.out HX.out Hq.out)⟩
          case measure => simp [intOf]; omega
      · obtain rfl : k = n := by omega
        have Hy := Lib.hid (enc_yes Hl.out (by have h3 := HR.out; rwa [List.take_of_length_le (by rw [Hn.out]; exact Nat.le_refl _)] at h3))
        go_wp2_with fail
        go_ret2
        refine RetEnc.yes Hy.out ?_
        have h3 := HM.out
        rwa [List.take_of_length_le (by rw [Hn.out]; exact Nat.le_refl _)] at h3
end Go.Proofs.Ytbkaiffecnomjaa
