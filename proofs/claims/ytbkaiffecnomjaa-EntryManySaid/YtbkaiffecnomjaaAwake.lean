/- The chapter's example; texts of bytes. -/
import Derived.Test.YtbkaiffecnomjaaDec
import Derived.Test.YtbkaiffecnomjaaREnc
import Derived.Test.YtbkaiffecnomjaaRDec
import Derived.Test.YtbkaiffecnomjaaSame
namespace Go.Proofs.Ytbkaiffecnomjaa
open Go.RowKit
attribute [local go_sem ↓] Go.wp_at_zero Go.wp_at_succ

theorem conv_any {w : World} {N : Nat} {A : Option Addr} {n c : Nat} {xs : List Int} (h : BS w N A xs) (hl : xs.length = n) : (convert 24 9 (.slice A n c)).run Try.prog w = .ok (.string (strOfNums xs)) w := by
  by_cases hx : xs = []
  · subst hx
    have hn : n = 0 := hl.symm
    subst hn
    cases A with
    | none => exact run_convert_bytes_nil w 24 5 Try.underlying24 Try.underlying5 0 c 9 Try.underlying9
    | some a =>
      have hq := run_loadCells_list (P := Try.prog) w a [] (fun j v hj => by simp at hj)
      rw [run_convert_bytes_string w 24 9 5 _ 0 c Try.underlying24 Try.underlying5 Try.underlying9, run_bytesToString w a 0 c [] hq]
      rfl
  · obtain ⟨b, off, rfl, _, hc⟩ := h.addr hx
    refine run_convert_bytes_arg w 24 5 Try.underlying24 Try.underlying5 b off n c xs hl (fun i hi => ?_) 9 Try.underlying9
    obtain ⟨y, hy⟩ := some_lt (xs := xs) (k := i) (by omega)
    rw [hc i y hy]
    simp [List.getD, hy]
theorem enc_is (A : Option Addr) (n c0 : Nat) (xs : List En) (w : World) (hn : xs.length = n) (hI : LS w w.heap.size A xs) (hn2 : n ≤ 1000000) (z : Int) (ys : List Int) (m : Nat) (h1 : encE xs = z) (h2 : encL xs = ys) (h3 : ys.length = m) :
    Calls Try.prog 10 #[.slice A n c0] w fun e w' => ∃ A c, e = .returned (.tuple #[.slice A m c, .int .i64 z]) ∧ m ≤ c ∧ BS w' w'.heap.size A ys ∧ Below w.heap.size w w' := by
  subst h1 h2 h3
  exact enc_any A n c0 xs w hn hI hn2
theorem RetEnc_is {f : Nat} {args : Array Value} {w : World} {xs : List En} (h : Calls Try.prog f args w (RetEnc w xs)) (z : Int) (ys : List Int) (m : Nat) (h1 : encE xs = z) (h2 : encL xs = ys) (h3 : ys.length = m) :
    Calls Try.prog f args w fun e w' => ∃ A c, e = .returned (.tuple #[.slice A m c, .int .i64 z]) ∧ m ≤ c ∧ BS w' w'.heap.size A ys ∧ Below w.heap.size w w' := by
  subst h1 h2 h3
  exact h
theorem RetDec_is {f : Nat} {args : Array Value} {w : World} {l : List Int} (h : Calls Try.prog f args w (RetDec w l)) (z : Int) (ys : List En) (m : Nat) (h1 : decE l = z) (h2 : decL l = ys) (h3 : ys.length = m) :
    Calls Try.prog f args w fun e w' => ∃ A c, e = .returned (.tuple #[.slice A m c, .int .i64 z]) ∧ m ≤ c ∧ LS w' w'.heap.size A ys ∧ Below w.heap.size w w' := by
  subst h1 h2 h3
  exact h
theorem dec_is (A : Option Addr) (n c : Nat) (l : List Int) (w : World) (hn : l.length = n) (hcap : n ≤ c) (hI : BS w w.heap.size A l) (hR : Bys l) (hlen : n ≤ 100000) (z : Int) (ys : List En) (m : Nat) (h1 : decE l = z) (h2 : decL l = ys) (h3 : ys.length = m) :
    Calls Try.prog 14 #[.slice A n c] w fun e w' => ∃ A c, e = .returned (.tuple #[.slice A m c, .int .i64 z]) ∧ m ≤ c ∧ LS w' w'.heap.size A ys ∧ Below w.heap.size w w' := by
  subst h1 h2 h3
  exact dec_any A n c l w hn hcap hI hR hlen
theorem same_is (A A2 : Option Addr) (n m c c2 : Nat) (xs ys : List En) (w : World) (h : LS w w.heap.size A xs) (h2 : LS w w.heap.size A2 ys) (hl : n ≤ 1000000) (e1 : xs.length = n) (e2 : ys.length = m) (z : Bool) (e3 : decide (xs = ys) = z) :
    Calls Try.prog 16 #[.slice A n c, .slice A2 m c2] w (fun e w' => e = .returned (.bool z) ∧ Below w.heap.size w w') := by
  subst e1 e2 e3
  exact same_any A A2 c c2 xs ys w h h2 hl
def e0 : En := ⟨1, 3, 0, 0, false, false, 0, 0, 0, 0, false⟩
theorem enc_e0 : encE [e0] = 0 ∧ encL [e0] = [1, 3, 0, 0, 0, 0, 0, 0, 0, 0, 0, 0] := by decide
theorem dec_e0 : decE [1, 3, 0, 0, 0, 0, 0, 0, 0, 0, 0, 0] = 0 ∧ decL [1, 3, 0, 0, 0, 0, 0, 0, 0, 0, 0, 0] = [e0] := by decide
theorem bys_e0 : Bys [1, 3, 0, 0, 0, 0, 0, 0, 0, 0, 0, 0] := by
  have h := bys_enc [e0]
  have e : enc [e0] = [1, 3, 0, 0, 0, 0, 0, 0, 0, 0, 0, 0] := by decide
  rwa [e] at h
theorem str_e0 : strOfNums [1, 3, 0, 0, 0, 0, 0, 0, 0, 0, 0, 0] = { data := #[1, 3, 0, 0, 0, 0, 0, 0, 0, 0, 0, 0] } := by decide
set_option maxRecDepth 100000 in
set_option maxHeartbeats 2000000 in
theorem awake_any (w : World) : Calls Try.prog 9 #[] w fun e w' => e = .returned (.bool true) ∧ Below w.heap.size w w' := by
  go_enter Try.func9, Try.ntmps9
  go_wp2_with fail
  have hB : Below w.heap.size w (w.alloc (.cells #[vI 1, vI 3, vI 0, vI 0, .bool false, .bool false, vI 0, vI 0, vI 0, vI 0, .bool false] 32)) := bnew _ _
  have r0 := RowAt.new w 32 #[vI 1, vI 3, vI 0, vI 0, .bool false, .bool false, vI 0, vI 0, vI 0, vI 0, .bool false]
  obtain ⟨W, hW⟩ : ∃ W, W = w.alloc (.cells #[vI 1, vI 3, vI 0, vI 0, .bool false, .bool false, vI 0, vI 0, vI 0, vI 0, .bool false] 32) := ⟨_, rfl⟩
  obtain ⟨B1, e1⟩ : ∃ B1, B1 = w.heap.size := ⟨_, rfl⟩
  rw [← hW] at r0 hB ⊢
  rw [← e1] at r0 ⊢
  clear hW e1
  have hL : LS W W.heap.size (some ⟨B1, 0, none⟩) [e0] := fun k y hy => ⟨B1, 0, rfl, r0.lt, one_at (x := e0) (range_row r0) k y hy⟩
  have HL := Lib.hid hL
  clear hL
  refine (enc_is _ 1 1 [e0] _ rfl HL.out (by decide) 0 _ 12 enc_e0.1 enc_e0.2 rfl).mono ?_
  rintro e w1 ⟨A1, c1, rfl, hc1, hS, hb⟩
  replace r0 := r0.below hb r0.lt
  replace hB := bstep hB hb
  have HL1 := Lib.hid (HL.out.on hb)
  have HS := Lib.hid hS
  clear hb HL hS
  go_wp2_with fail
  refine (dec_is A1 12 c1 _ _ rfl hc1 HS.out bys_e0 (by decide) 0 _ 1 dec_e0.1 dec_e0.2 rfl).mono ?_
  rintro e w2 ⟨A2, c2, rfl, hc2, hL2, hb⟩
  replace r0 := r0.below hb r0.lt
  replace hB := bstep hB hb
  have HL2 := Lib.hid (HL1.out.on hb)
  have HS2 := Lib.hid (HS.out.on hb)
  have HM := Lib.hid hL2
  clear hb HL1 HS hL2
  have hcv := conv_any (c := c1) (n := 12) HS2.out rfl
  rw [str_e0] at hcv
  have hq : (({ data := #[1, 3, 0, 0, 0, 0, 0, 0, 0, 0, 0, 0] } : ByteArray).toList == ({ data := #[1, 3, 0, 0, 0, 0, 0, 0, 0, 0, 0, 0] } : ByteArray).toList) = true := beq_self_eq_true _
  go_wp2_with fail
  refine (same_is _ A2 1 1 1 c2 [e0] [e0] _ HL2.out HM.out (by decide) rfl rfl true rfl).mono ?_
  rintro e w3 ⟨rfl, hb⟩
  replace r0 := r0.below hb r0.lt
  replace hB := bstep hB hb
  clear hb hcv
  have k0 : w3.cell? ⟨B1, 0, none⟩ = some (vI 1) := r0.cell 0 rfl
  have k1 : w3.cell? ⟨B1, 1, none⟩ = some (vI 3) := r0.cell 1 rfl
  have k2 : w3.cell? ⟨B1, 2, none⟩ = some (vI 0) := r0.cell 2 rfl
  have k3 : w3.cell? ⟨B1, 3, none⟩ = some (vI 0) := r0.cell 3 rfl
  have k4 : w3.cell? ⟨B1, 4, none⟩ = some (.bool false) := r0.cell 4 rfl
  have k5 : w3.cell? ⟨B1, 5, none⟩ = some (.bool false) := r0.cell 5 rfl
  have k6 : w3.cell? ⟨B1, 6, none⟩ = some (vI 0) := r0.cell 6 rfl
  have k7 : w3.cell? ⟨B1, 7, none⟩ = some (vI 0) := r0.cell 7 rfl
  have k8 : w3.cell? ⟨B1, 8, none⟩ = some (vI 0) := r0.cell 8 rfl
  have k9 : w3.cell? ⟨B1, 9, none⟩ = some (vI 0) := r0.cell 9 rfl
  have k10 : w3.cell? ⟨B1, 10, none⟩ = some (.bool false) := r0.cell 10 rfl
  go_wp2_with fail
  refine (right_any e0 _).mono ?_
  rintro e w4 ⟨rfl, hb⟩
  replace hB := bstep hB hb
  go_wp2
  go_ret
  exact ⟨rfl, hB⟩
end Go.Proofs.Ytbkaiffecnomjaa
