/- What the kinds ask, in a map by their numbers; what one kind asks; nothing that was there changes. -/
import Derived.Test.YtbkcniknbpgphaaDoorFit
import Derived.Test.YtbkcniknbpgphaaDoorSpx
import Derived.Maps.Own
import Derived.Shelf.Abstract
namespace Go.Proofs.YtbkcniknbpgphaaDoor
open Go.RowKit
attribute [local go_sem ↓] Go.wp_at_zero Go.wp_at_succ

open Go.ChangeMaps Go.MapKept in
theorem ins {w : World} {b : Nat} {es : Array MapEntry} {n : Nat} (hb : w.heap[b]? = some (.map es n)) (i : Int) (v : Value) (hf : Instr.findNow (.int .i64) (.int .i64 i) es.toList 0 = some none) :
    ∃ w', (Instr.mapUpdate 90 (.map (some b)) (.int .i64 i) v).run Tryd.prog w = .ok () w' ∧ w'.heap[b]? = some (.map (es.push ⟨.int .i64 i, v, n⟩) (n + 1)) ∧ SpX [b] w w' := by
  have hk : IsKey (.int .i64) (.int .i64 i) := rfl
  refine ⟨setBlock w b (.map (es.push ⟨.int .i64 i, v, n⟩) (n + 1)), ?_, heap_setBlock_same hb _, ⟨rfl, rfl, rfl, by simp [setBlock], fun k _ hn => heap_setBlock_other hb _ (by simpa using hn)⟩⟩
  simp [Instr.mapUpdate, run_underlying Tryd.underlying90, MapKept.run_getObj_map hb, run_checkKey Tryd.underlying3 hk, run_findKey Tryd.underlying3 hf, MapKept.run_setObj_map _ hb, Result.andThen, setBlock]
/-- the map of what is asked: its closures' owner lies in block B -/
structure MapA (w : World) (b B : Nat) : Prop where
  ex : ∃ es n, w.heap[b]? = some (.map es n) ∧ es.toList = [⟨.int .i64 0, .func (.func 61) #[] #[.pointer (some ⟨B, 0, none⟩)], 0⟩, ⟨.int .i64 1, .func (.func 63) #[] #[], 1⟩, ⟨.int .i64 2, .func (.func 64) #[] #[], 2⟩, ⟨.int .i64 3, .func (.func 65) #[] #[], 3⟩, ⟨.int .i64 4, .func (.func 66) #[] #[.pointer (some ⟨B, 0, none⟩)], 4⟩, ⟨.int .i64 5, .func (.func 67) #[] #[], 5⟩, ⟨.int .i64 6, .func (.func 68) #[] #[], 6⟩]
theorem MapA.drew {w : World} {b B : Nat} (h : MapA w b B) : MapA w.drew b B := ⟨h.ex⟩
open Go.ChangeMaps Go.MapKept in
theorem MapA.look {w : World} {b B : Nat} (h : MapA w b B) (i : Int) (j : Nat) (v : Value) (hi : Instr.findNow (.int .i64) (.int .i64 i) [⟨.int .i64 0, .func (.func 61) #[] #[.pointer (some ⟨B, 0, none⟩)], 0⟩, ⟨.int .i64 1, .func (.func 63) #[] #[], 1⟩, ⟨.int .i64 2, .func (.func 64) #[] #[], 2⟩, ⟨.int .i64 3, .func (.func 65) #[] #[], 3⟩, ⟨.int .i64 4, .func (.func 66) #[] #[.pointer (some ⟨B, 0, none⟩)], 4⟩, ⟨.int .i64 5, .func (.func 67) #[] #[], 5⟩, ⟨.int .i64 6, .func (.func 68) #[] #[], 6⟩] 0 = some (some (j, v))) :
    (Instr.lookup 90 (.map (some b)) (.int .i64 i) true).run Tryd.prog w = .ok (.tuple #[v, .bool true]) w := by
  obtain ⟨es, n, hb, he⟩ := h.ex
  have hk : IsKey (.int .i64) (.int .i64 i) := rfl
  rw [← he] at hi
  simp [Instr.lookup, run_underlying Tryd.underlying90, MapKept.run_getObj_map hb, run_checkKey Tryd.underlying3 hk, run_findKey Tryd.underlying3 hi, Result.andThen]
open Go.ChangeMaps Go.MapKept in
theorem MapA.miss {w : World} {b B : Nat} (h : MapA w b B) {i : Int} (hi : i < 0 ∨ 6 < i) :
    (Instr.lookup 90 (.map (some b)) (.int .i64 i) true).run Tryd.prog w = .ok (.tuple #[.nilFunc, .bool false]) w := by
  obtain ⟨es, n, hb, he⟩ := h.ex
  have hk : IsKey (.int .i64) (.int .i64 i) := rfl
  have hf : Instr.findNow (.int .i64) (.int .i64 i) es.toList 0 = some none := by
    rw [he]
    have a0 : (i == 0) = false := by simp; omega
    have a1 : (i == 1) = false := by simp; omega
    have a2 : (i == 2) = false := by simp; omega
    have a3 : (i == 3) = false := by simp; omega
    have a4 : (i == 4) = false := by simp; omega
    have a5 : (i == 5) = false := by simp; omega
    have a6 : (i == 6) = false := by simp; omega
    simp [Instr.findNow, Instr.sameNow, a0, a1, a2, a3, a4, a5, a6]
  simp [Instr.lookup, run_underlying Tryd.underlying90, MapKept.run_getObj_map hb, run_checkKey Tryd.underlying3 hk, run_findKey Tryd.underlying3 hf, Result.andThen]
theorem hmf (fn : Fn) (first cap : Array Value) (w : World) : (Instr.makeFunc fn first cap).run Tryd.prog w = .ok (.func fn first cap) w := rfl
set_option maxRecDepth 100000 in
set_option maxHeartbeats 2000000 in
theorem asks_any (o : Int) (w : World) :
    Calls Tryd.prog 47 #[.int .i64 o] w fun e w' => ∃ b B, e = .returned (.map (some b)) ∧ MapA w' b B ∧ w.heap.size ≤ B ∧ B < w'.heap.size ∧ w'.cell? ⟨B, 0, none⟩ = some (.int .i64 o) ∧ Below w.heap.size w w' := by
  have hmm := @run_makeMap Tryd.prog
  have hB1 := bnew w (.cells #[.int .i64 o] 3)
  have hB2 := bst hB1 (bnew (w.alloc (.cells #[.int .i64 o] 3)) (.map #[] 0))
  have e0 : ((w.alloc (.cells #[.int .i64 o] 3)).alloc (.map #[] 0)).heap[w.heap.size + 1]? = some (.map #[] 0) := by
    have := Go.heap_alloc_new (w.alloc (.cells #[.int .i64 o] 3)) (.map #[] 0)
    simpa using this
  have c0 : ((w.alloc (.cells #[.int .i64 o] 3)).alloc (.map #[] 0)).cell? ⟨w.heap.size, 0, none⟩ = some (.int .i64 o) := ((RowAt.new w 3 #[.int .i64 o]).alloc _).cell 0 rfl
  have hl : ((w.alloc (.cells #[.int .i64 o] 3)).alloc (.map #[] 0)).heap.size = w.heap.size + 2 := by simp
  obtain ⟨W1, r1, m1, s1⟩ := ins e0 0 (.func (.func 61) #[] #[.pointer (some ⟨w.heap.size, 0, none⟩)]) rfl
  obtain ⟨W2, r2, m2, s2⟩ := ins m1 1 (.func (.func 63) #[] #[]) rfl
  obtain ⟨W3, r3, m3, s3⟩ := ins m2 2 (.func (.func 64) #[] #[]) rfl
  obtain ⟨W4, r4, m4, s4⟩ := ins m3 3 (.func (.func 65) #[] #[]) rfl
  obtain ⟨W5, r5, m5, s5⟩ := ins m4 4 (.func (.func 66) #[] #[.pointer (some ⟨w.heap.size, 0, none⟩)]) rfl
  obtain ⟨W6, r6, m6, s6⟩ := ins m5 5 (.func (.func 67) #[] #[]) rfl
  obtain ⟨W7, r7, m7, s7⟩ := ins m6 6 (.func (.func 68) #[] #[]) rfl
  have sA := (((((s1.trans s2).trans s3).trans s4).trans s5).trans s6).trans s7
  clear s1 s2 s3 s4 s5 s6 s7 m1 m2 m3 m4 m5 m6
  have HM := Lib.hid m7
  clear m7
  go_enter Tryd.func47, Tryd.ntmps47
  go_wp2
  go_ret
  refine ⟨w.heap.size + 1, w.heap.size, rfl, ⟨_, _, HM.out, rfl⟩, Nat.le_refl _, ?_, ?_, ?_⟩
  · have := sA.size; omega
  · rw [sA.cell 0 (by omega) (by simp)]
    exact c0
  · exact sA.below hB2 (by omega) (by simp)
/-- what a function value has captured: nothing, or block q, that has the owner -/
def Cap (w : World) (fr : Array Value) (q : Nat) (o : Int) : Prop := fr = #[] ∨ (fr = #[.pointer (some ⟨q, 0, none⟩)] ∧ q < w.heap.size ∧ w.cell? ⟨q, 0, none⟩ = some (.int .i64 o))
theorem Cap.spx {w w' : World} {fr : Array Value} {q : Nat} {o : Int} {X : List Nat} (h : Cap w fr q o) (hs : SpX X w w') (hq : q ∉ X) : Cap w' fr q o := by
  rcases h with h | ⟨h1, h3, h4⟩
  · exact .inl h
  · exact .inr ⟨h1, Nat.lt_of_lt_of_le h3 hs.size, (hs.cell 0 h3 hq).trans h4⟩
/-- a function value that tells whether a slot fits -/
structure FitQ (w : World) (n : Nat) (fr : Array Value) (q : Nat) (k o : Int) : Prop where
  en : ∀ args W, (callFunc n args).run Tryd.prog W = .ok (.enter n args) W
  cap : Cap w fr q o
  call : ∀ (s : Sl) W, Cap W fr q o → Calls Tryd.prog n (#[Value.agg #[Value.int .i64 s.st, Value.int .i64 s.ow, Value.int .i64 s.sr, Value.bool s.br, Value.bool s.ma, Value.int .i64 s.us, Value.int .i64 s.ge, Value.int .i64 s.ep, Value.int .i64 s.ve]] ++ fr) W (RetB (fitsB s k o) W)
theorem FitQ.spx {w w' : World} {n : Nat} {fr : Array Value} {q : Nat} {k o : Int} {X : List Nat} (h : FitQ w n fr q k o) (hs : SpX X w w') (hq : q ∉ X) : FitQ w' n fr q k o := ⟨h.en, h.cap.spx hs hq, h.call⟩
theorem FitQ.on {w w' : World} {n : Nat} {fr : Array Value} {q : Nat} {k o : Int} (h : FitQ w n fr q k o) (hb : Below w.heap.size w w') : FitQ w' n fr q k o := h.spx (X := []) (.of_below hb) (by simp)
theorem FitQ.drew {w : World} {n : Nat} {fr : Array Value} {q : Nat} {k o : Int} (h : FitQ w n fr q k o) : FitQ w.drew n fr q k o := ⟨h.en, h.cap, h.call⟩
theorem FitQ.plain {w : World} {n q : Nat} {k o : Int} (en : ∀ args W, (callFunc n args).run Tryd.prog W = .ok (.enter n args) W) (h : ∀ (s : Sl) W, Calls Tryd.prog n #[Value.agg #[Value.int .i64 s.st, Value.int .i64 s.ow, Value.int .i64 s.sr, Value.bool s.br, Value.bool s.ma, Value.int .i64 s.us, Value.int .i64 s.ge, Value.int .i64 s.ep, Value.int .i64 s.ve]] W (RetB (fitsB s k o) W)) : FitQ w n #[] q k o := ⟨en, .inl rfl, fun s W _ => h s W⟩
theorem FitQ.own {w : World} {n q : Nat} {k o : Int} (en : ∀ args W, (callFunc n args).run Tryd.prog W = .ok (.enter n args) W) (hq : q < w.heap.size) (hc : w.cell? ⟨q, 0, none⟩ = some (.int .i64 o))
    (h : ∀ (s : Sl) W, W.cell? ⟨q, 0, none⟩ = some (.int .i64 o) → q < W.heap.size → Calls Tryd.prog n #[Value.agg #[Value.int .i64 s.st, Value.int .i64 s.ow, Value.int .i64 s.sr, Value.bool s.br, Value.bool s.ma, Value.int .i64 s.us, Value.int .i64 s.ge, Value.int .i64 s.ep, Value.int .i64 s.ve], .pointer (some ⟨q, 0, none⟩)] W (RetB (fitsB s k o) W)) : FitQ w n #[.pointer (some ⟨q, 0, none⟩)] q k o :=
  ⟨en, .inr ⟨rfl, hq, hc⟩, fun s W hw => by
    rcases hw with hw | ⟨_, h1, h2⟩
    · simp at hw
    · exact h s W h2 h1⟩
theorem e48 : ∀ args w, (callFunc 48 args).run Tryd.prog w = .ok (.enter 48 args) w := enters_of Tryd.func48 (by kernel_rfl) rfl
theorem e61 : ∀ args w, (callFunc 61 args).run Tryd.prog w = .ok (.enter 61 args) w := enters_of Tryd.func61 (by kernel_rfl) rfl
theorem e63 : ∀ args w, (callFunc 63 args).run Tryd.prog w = .ok (.enter 63 args) w := enters_of Tryd.func63 (by kernel_rfl) rfl
theorem e64 : ∀ args w, (callFunc 64 args).run Tryd.prog w = .ok (.enter 64 args) w := enters_of Tryd.func64 (by kernel_rfl) rfl
theorem e65 : ∀ args w, (callFunc 65 args).run Tryd.prog w = .ok (.enter 65 args) w := enters_of Tryd.func65 (by kernel_rfl) rfl
theorem e66 : ∀ args w, (callFunc 66 args).run Tryd.prog w = .ok (.enter 66 args) w := enters_of Tryd.func66 (by kernel_rfl) rfl
theorem e67 : ∀ args w, (callFunc 67 args).run Tryd.prog w = .ok (.enter 67 args) w := enters_of Tryd.func67 (by kernel_rfl) rfl
theorem e68 : ∀ args w, (callFunc 68 args).run Tryd.prog w = .ok (.enter 68 args) w := enters_of Tryd.func68 (by kernel_rfl) rfl
/-- what a call tells that hands back what one kind asks -/
def RetF (k o : Int) (w : World) (e : Ending) (w' : World) : Prop := ∃ n fr q, e = .returned (.func (.func n) #[] fr) ∧ FitQ w' n fr q k o ∧ w.heap.size ≤ q ∧ q < w'.heap.size ∧ Below w.heap.size w w'
set_option maxRecDepth 100000 in
set_option maxHeartbeats 2000000 in
theorem ask_0 (o : Int) (w : World) : Calls Tryd.prog 33 #[.int .i64 0, .int .i64 o] w (RetF 0 o w) := by
  go_enter Tryd.func33, Tryd.ntmps33
  go_wp2_with fail
  refine (asks_any o _).mono ?_
  rintro e w1 ⟨b, B, rfl, hM, hle, hlt, hc, hb⟩
  have hL := hM.look 0 0 (.func (.func 61) #[] #[.pointer (some ⟨B, 0, none⟩)]) rfl
  go_wp2_with fail
  go_ret
  exact ⟨_, _, B, rfl, .own e61 hlt hc (fun s W h1 h2 => own_any s o B W h1 h2), hle, hlt, hb⟩
set_option maxRecDepth 100000 in
set_option maxHeartbeats 2000000 in
theorem ask_1 (o : Int) (w : World) : Calls Tryd.prog 33 #[.int .i64 1, .int .i64 o] w (RetF 1 o w) := by
  go_enter Tryd.func33, Tryd.ntmps33
  go_wp2_with fail
  refine (asks_any o _).mono ?_
  rintro e w1 ⟨b, B, rfl, hM, hle, hlt, hc, hb⟩
  have hL := hM.look 1 1 (.func (.func 63) #[] #[]) rfl
  go_wp2_with fail
  go_ret
  exact ⟨_, _, B, rfl, .plain e63 (fun s W => anyk_any s o W), hle, hlt, hb⟩
set_option maxRecDepth 100000 in
set_option maxHeartbeats 2000000 in
theorem ask_2 (o : Int) (w : World) : Calls Tryd.prog 33 #[.int .i64 2, .int .i64 o] w (RetF 2 o w) := by
  go_enter Tryd.func33, Tryd.ntmps33
  go_wp2_with fail
  refine (asks_any o _).mono ?_
  rintro e w1 ⟨b, B, rfl, hM, hle, hlt, hc, hb⟩
  have hL := hM.look 2 2 (.func (.func 64) #[] #[]) rfl
  go_wp2_with fail
  go_ret
  exact ⟨_, _, B, rfl, .plain e64 (fun s W => free_any s o W), hle, hlt, hb⟩
set_option maxRecDepth 100000 in
set_option maxHeartbeats 2000000 in
theorem ask_3 (o : Int) (w : World) : Calls Tryd.prog 33 #[.int .i64 3, .int .i64 o] w (RetF 3 o w) := by
  go_enter Tryd.func33, Tryd.ntmps33
  go_wp2_with fail
  refine (asks_any o _).mono ?_
  rintro e w1 ⟨b, B, rfl, hM, hle, hlt, hc, hb⟩
  have hL := hM.look 3 3 (.func (.func 65) #[] #[]) rfl
  go_wp2_with fail
  go_ret
  exact ⟨_, _, B, rfl, .plain e65 (fun s W => some_any s o W), hle, hlt, hb⟩
set_option maxRecDepth 100000 in
set_option maxHeartbeats 2000000 in
theorem ask_4 (o : Int) (w : World) : Calls Tryd.prog 33 #[.int .i64 4, .int .i64 o] w (RetF 4 o w) := by
  go_enter Tryd.func33, Tryd.ntmps33
  go_wp2_with fail
  refine (asks_any o _).mono ?_
  rintro e w1 ⟨b, B, rfl, hM, hle, hlt, hc, hb⟩
  have hL := hM.look 4 4 (.func (.func 66) #[] #[.pointer (some ⟨B, 0, none⟩)]) rfl
  go_wp2_with fail
  go_ret
  exact ⟨_, _, B, rfl, .own e66 hlt hc (fun s W h1 h2 => swept_any s o B W h1 h2), hle, hlt, hb⟩
set_option maxRecDepth 100000 in
set_option maxHeartbeats 2000000 in
theorem ask_5 (o : Int) (w : World) : Calls Tryd.prog 33 #[.int .i64 5, .int .i64 o] w (RetF 5 o w) := by
  go_enter Tryd.func33, Tryd.ntmps33
  go_wp2_with fail
  refine (asks_any o _).mono ?_
  rintro e w1 ⟨b, B, rfl, hM, hle, hlt, hc, hb⟩
  have hL := hM.look 5 5 (.func (.func 67) #[] #[]) rfl
  go_wp2_with fail
  go_ret
  exact ⟨_, _, B, rfl, .plain e67 (fun s W => old_any s o W), hle, hlt, hb⟩
set_option maxRecDepth 100000 in
set_option maxHeartbeats 2000000 in
theorem ask_6 (o : Int) (w : World) : Calls Tryd.prog 33 #[.int .i64 6, .int .i64 o] w (RetF 6 o w) := by
  go_enter Tryd.func33, Tryd.ntmps33
  go_wp2_with fail
  refine (asks_any o _).mono ?_
  rintro e w1 ⟨b, B, rfl, hM, hle, hlt, hc, hb⟩
  have hL := hM.look 6 6 (.func (.func 68) #[] #[]) rfl
  go_wp2_with fail
  go_ret
  exact ⟨_, _, B, rfl, .plain e68 (fun s W => rests_any s o W), hle, hlt, hb⟩
set_option maxRecDepth 100000 in
set_option maxHeartbeats 2000000 in
theorem ask_no (k o : Int) (w : World) (hk : k < 0 ∨ 6 < k) : Calls Tryd.prog 33 #[.int .i64 k, .int .i64 o] w (RetF k o w) := by
  have Hk := Lib.hid hk
  clear hk
  go_enter Tryd.func33, Tryd.ntmps33
  go_wp2_with fail
  refine (asks_any o _).mono ?_
  rintro e w1 ⟨b, B, rfl, hM, hle, hlt, hc, hb⟩
  have hL := hM.miss Hk.out
  go_wp2_with fail
  go_ret
  exact ⟨_, _, B, rfl, .plain e48 (fun s W => none_any s o W Hk.out), hle, hlt, hb⟩
theorem ask_any (k o : Int) (w : World) : Calls Tryd.prog 33 #[.int .i64 k, .int .i64 o] w (RetF k o w) := by
  by_cases h : k < 0 ∨ 6 < k
  · exact ask_no k o w h
  · have h7 : k = 0 ∨ k = 1 ∨ k = 2 ∨ k = 3 ∨ k = 4 ∨ k = 5 ∨ k = 6 := by omega
    rcases h7 with rfl | rfl | rfl | rfl | rfl | rfl | rfl
    · exact ask_0 o w
    · exact ask_1 o w
    · exact ask_2 o w
    · exact ask_3 o w
    · exact ask_4 o w
    · exact ask_5 o w
    · exact ask_6 o w
end Go.Proofs.YtbkcniknbpgphaaDoor
