/- Arguments opened to the cells that the walks name; no condition. -/
import Derived.Test.YtalmadeibnekoaaLTwo
import Derived.Test.YtalmadeibnekoaaMade
import Derived.Deep.Slices
import Derived.ProofKit
import Derived.OpenShut
import Derived.ChangeSame
namespace Go.Proofs.Ytalmadeibnekoaa
open Go.ChangeShapes Go.WideShapes Go.ChangeAt Go.RowKit Go.Deep
attribute [local go_sem ↓] Go.wp_at_zero Go.wp_at_succ

theorem cells23 : Try.prog.cellsOf 66 = 9 := by kernel_rfl
theorem three {α : Type} {cs : List α} (h : cs.length = 3) : ∃ a b c, cs = [a, b, c] := by
  match cs, h with
  | [a, b, c], _ => exact ⟨a, b, c, rfl⟩
theorem cells3 : Try.prog.cellsOf 3 = 1 := by kernel_rfl
theorem nine_list {α : Type} {cs : List α} (h : cs.length = 9) : ∃ a b c d e f g i j, cs = [a, b, c, d, e, f, g, i, j] := by
  match cs, h with
  | [a, b, c, d, e, f, g, i, j], _ => exact ⟨a, b, c, d, e, f, g, i, j, rfl⟩
theorem cells4 : Try.prog.cellsOf 4 = 1 := by kernel_rfl
theorem cells5 : Try.prog.cellsOf 5 = 1 := by kernel_rfl
theorem cells27 : Try.prog.cellsOf 23 = 5 := by kernel_rfl
theorem cells28 : Try.prog.cellsOf 24 = 1 := by kernel_rfl
theorem cells29 : Try.prog.cellsOf 25 = 1 := by kernel_rfl
theorem cells31 : Try.prog.cellsOf 27 = 8 := by kernel_rfl
theorem cells79 : Try.prog.cellsOf 55 = 3 := by kernel_rfl
theorem some_at {α : Type} {xs : List α} {i : Nat} (h : i < xs.length) : ∃ x, xs[i]? = some x := ⟨xs[i], List.getElem?_eq_getElem h⟩
theorem five_list {α : Type} {cs : List α} (h : cs.length = 5) : ∃ a b c d e, cs = [a, b, c, d, e] := by
  match cs, h with
  | [a, b, c, d, e], _ => exact ⟨a, b, c, d, e, rfl⟩
theorem eight_list {α : Type} {cs : List α} (h : cs.length = 8) : ∃ a b c d e f g i, cs = [a, b, c, d, e, f, g, i] := by
  match cs, h with
  | [a, b, c, d, e, f, g, i], _ => exact ⟨a, b, c, d, e, f, g, i, rfl⟩
section
variable {H : Type} {enc : TypeId × Value → H} {w : World} {base : Nat} {spare : Nat → Bool} {held : Bool}
theorem plain_of {a : Addr} {v : Value} (h : w.cell? (a.add 0) = some v) : ∃ b off, a = ⟨b, off, none⟩ ∧ b < w.heap.size := by
  obtain ⟨b, off, spot⟩ := a
  have hspot : spot = none := by simpa [Addr.add] using World.cell?_spot h
  subst hspot
  rw [add_plain] at h
  exact ⟨b, off, rfl, World.block_lt_of_cell? w _ h⟩
set_option maxRecDepth 100000 in
set_option maxHeartbeats 2000000 in
theorem open_slot {fuel : Nat} {cs : List Value} {x : DataW H × List MemPlace} (h : DataW.trod enc Try.prog w base spare held fuel 66 cs = some x) : ∃ s : Sl, cs = [Value.int .i64 s.st, Value.int .i64 s.ow, Value.int .i64 s.sr, Value.bool s.br, Value.bool s.ma, Value.int .i64 s.us, Value.int .i64 s.ge, Value.int .i64 s.ep, Value.int .i64 s.ve] ∧ s.Wf := by
  obtain ⟨xs, n, _, _, hlen, hxl, hat⟩ := DataW.trod_struct Try.underlying66 h
  rw [cells23] at hlen
  have hl : xs.length = 9 := hxl
  obtain ⟨c0, c1, c2, c3, c4, c5, c6, c7, c8, rfl⟩ := nine_list hlen
  obtain ⟨x0, e0⟩ := some_at (xs := xs) (i := 0) (by omega)
  have g0 : DataW.trod enc Try.prog w base spare held n 3 ([c0, c1, c2, c3, c4, c5, c6, c7, c8].take (Try.prog.cellsOf 3)) = xs[0]? := hat 0 _ rfl
  rw [e0, cells3] at g0
  obtain ⟨x1, e1⟩ := some_at (xs := xs) (i := 1) (by omega)
  have g1 : DataW.trod enc Try.prog w base spare held n 3 ([c1, c2, c3, c4, c5, c6, c7, c8].take (Try.prog.cellsOf 3)) = xs[1]? := hat 1 _ rfl
  rw [e1, cells3] at g1
  obtain ⟨x2, e2⟩ := some_at (xs := xs) (i := 2) (by omega)
  have g2 : DataW.trod enc Try.prog w base spare held n 3 ([c2, c3, c4, c5, c6, c7, c8].take (Try.prog.cellsOf 3)) = xs[2]? := hat 2 _ rfl
  rw [e2, cells3] at g2
  obtain ⟨x3, e3⟩ := some_at (xs := xs) (i := 3) (by omega)
  have g3 : DataW.trod enc Try.prog w base spare held n 4 ([c3, c4, c5, c6, c7, c8].take (Try.prog.cellsOf 4)) = xs[3]? := hat 3 _ rfl
  rw [e3, cells4] at g3
  obtain ⟨x4, e4⟩ := some_at (xs := xs) (i := 4) (by omega)
  have g4 : DataW.trod enc Try.prog w base spare held n 4 ([c4, c5, c6, c7, c8].take (Try.prog.cellsOf 4)) = xs[4]? := hat 4 _ rfl
  rw [e4, cells4] at g4
  obtain ⟨x5, e5⟩ := some_at (xs := xs) (i := 5) (by omega)
  have g5 : DataW.trod enc Try.prog w base spare held n 3 ([c5, c6, c7, c8].take (Try.prog.cellsOf 3)) = xs[5]? := hat 5 _ rfl
  rw [e5, cells3] at g5
  obtain ⟨x6, e6⟩ := some_at (xs := xs) (i := 6) (by omega)
  have g6 : DataW.trod enc Try.prog w base spare held n 3 ([c6, c7, c8].take (Try.prog.cellsOf 3)) = xs[6]? := hat 6 _ rfl
  rw [e6, cells3] at g6
  obtain ⟨x7, e7⟩ := some_at (xs := xs) (i := 7) (by omega)
  have g7 : DataW.trod enc Try.prog w base spare held n 3 ([c7, c8].take (Try.prog.cellsOf 3)) = xs[7]? := hat 7 _ rfl
  rw [e7, cells3] at g7
  obtain ⟨x8, e8⟩ := some_at (xs := xs) (i := 8) (by omega)
  have g8 : DataW.trod enc Try.prog w base spare held n 3 ([c8].take (Try.prog.cellsOf 3)) = xs[8]? := hat 8 _ rfl
  rw [e8, cells3] at g8
  obtain ⟨z0, h0, _, w0⟩ := DataW.trod_int Try.underlying3 g0
  obtain ⟨z1, h1, _, w1⟩ := DataW.trod_int Try.underlying3 g1
  obtain ⟨z2, h2, _, w2⟩ := DataW.trod_int Try.underlying3 g2
  obtain ⟨z5, h5, _, w5⟩ := DataW.trod_int Try.underlying3 g5
  obtain ⟨z6, h6, _, w6⟩ := DataW.trod_int Try.underlying3 g6
  obtain ⟨z7, h7, _, w7⟩ := DataW.trod_int Try.underlying3 g7
  obtain ⟨z8, h8, _, w8⟩ := DataW.trod_int Try.underlying3 g8
  obtain ⟨z3, h3, _⟩ := DataW.trod_bool Try.underlying4 g3
  obtain ⟨z4, h4, _⟩ := DataW.trod_bool Try.underlying4 g4
  simp at h0 h1 h2 h3 h4 h5 h6 h7 h8
  refine ⟨⟨z0, z1, z2, z3, z4, z5, z6, z7, z8⟩, by rw [h0, h1, h2, h3, h4, h5, h6, h7, h8], ⟨bounds_i64 w0, bounds_i64 w1, bounds_i64 w2, bounds_i64 w5, bounds_i64 w6, bounds_i64 w7, bounds_i64 w8⟩⟩
set_option maxRecDepth 100000 in
set_option maxHeartbeats 2000000 in
theorem open_slotV {r : Reach} {b0 : Nat} {v : Value} {d : DataW H} {p : List MemPlace} (hv : Value.okWide Try.prog w r b0 66 v) (h : DataW.Trod enc Try.prog w base spare held 66 v d p) : ∃ s : Sl, s.Wf ∧ v = Value.agg #[Value.int .i64 s.st, Value.int .i64 s.ow, Value.int .i64 s.sr, Value.bool s.br, Value.bool s.ma, Value.int .i64 s.us, Value.int .i64 s.ge, Value.int .i64 s.ep, Value.int .i64 s.ve] := by
  obtain ⟨cs, rfl, hsz⟩ := okWide_struct Try.underlying66 hv
  obtain ⟨fuel, hf⟩ := h
  obtain ⟨s, hs, hw⟩ := open_slot hf
  refine ⟨s, hw, ?_⟩
  obtain ⟨l⟩ := cs
  have hs' : l = _ := hs
  rw [hs']
set_option maxRecDepth 100000 in
set_option maxHeartbeats 2000000 in
theorem open_write {fuel : Nat} {cs : List Value} {x : DataW H × List MemPlace} (h : DataW.trod enc Try.prog w base spare held fuel 55 cs = some x) : ∃ o : Wr, cs = [.int .u8 o.wh, .int .u8 o.ad, .int .i64 o.v] ∧ o.Ok := by
  obtain ⟨xs, n, _, _, hlen, hxl, hat⟩ := DataW.trod_struct Try.underlying55 h
  rw [cells79] at hlen
  have hl : xs.length = 3 := hxl
  obtain ⟨c0, c1, c2, rfl⟩ := three hlen
  obtain ⟨x0, e0⟩ := some_at (xs := xs) (i := 0) (by omega)
  have g0 : DataW.trod enc Try.prog w base spare held n 5 ([c0, c1, c2].take (Try.prog.cellsOf 5)) = xs[0]? := hat 0 _ rfl
  rw [e0, cells5] at g0
  obtain ⟨x1, e1⟩ := some_at (xs := xs) (i := 1) (by omega)
  have g1 : DataW.trod enc Try.prog w base spare held n 5 ([c1, c2].take (Try.prog.cellsOf 5)) = xs[1]? := hat 1 _ rfl
  rw [e1, cells5] at g1
  obtain ⟨x2, e2⟩ := some_at (xs := xs) (i := 2) (by omega)
  have g2 : DataW.trod enc Try.prog w base spare held n 3 ([c2].take (Try.prog.cellsOf 3)) = xs[2]? := hat 2 _ rfl
  rw [e2, cells3] at g2
  obtain ⟨z0, h0, _, w0⟩ := DataW.trod_int Try.underlying5 g0
  obtain ⟨z1, h1, _, w1⟩ := DataW.trod_int Try.underlying5 g1
  obtain ⟨z2, h2, _, w2⟩ := DataW.trod_int Try.underlying3 g2
  simp at h0 h1 h2
  exact ⟨⟨z0, z1, z2⟩, by rw [h0, h1, h2], ⟨bounds_u8 w0, bounds_u8 w1, bounds_i64 w2⟩⟩
set_option maxRecDepth 100000 in
set_option maxHeartbeats 2000000 in
theorem open_few {fuel : Nat} {cs : List Value} {x : DataW H × List MemPlace} (h : DataW.trod enc Try.prog w base spare held fuel 23 cs = some x) : ∃ a1 a2 a3 a4 a5 : Int, cs = [.int .u8 a1, .int .u8 a2, .int .u8 a3, .int .u8 a4, .int .u8 a5] ∧ (0 ≤ a1 ∧ a1 ≤ 255) ∧ (0 ≤ a2 ∧ a2 ≤ 255) ∧ (0 ≤ a3 ∧ a3 ≤ 255) ∧ (0 ≤ a4 ∧ a4 ≤ 255) ∧ (0 ≤ a5 ∧ a5 ≤ 255) := by
  obtain ⟨xs, n, _, _, hlen, hxl, hat⟩ := DataW.trod_struct Try.underlying23 h
  rw [cells27] at hlen
  have hl : xs.length = 5 := hxl
  obtain ⟨c0, c1, c2, c3, c4, rfl⟩ := five_list hlen
  obtain ⟨x0, e0⟩ := some_at (xs := xs) (i := 0) (by omega)
  have g0 : DataW.trod enc Try.prog w base spare held n 5 ([c0, c1, c2, c3, c4].take (Try.prog.cellsOf 5)) = xs[0]? := hat 0 _ rfl
  rw [e0, cells5] at g0
  obtain ⟨x1, e1⟩ := some_at (xs := xs) (i := 1) (by omega)
  have g1 : DataW.trod enc Try.prog w base spare held n 5 ([c1, c2, c3, c4].take (Try.prog.cellsOf 5)) = xs[1]? := hat 1 _ rfl
  rw [e1, cells5] at g1
  obtain ⟨x2, e2⟩ := some_at (xs := xs) (i := 2) (by omega)
  have g2 : DataW.trod enc Try.prog w base spare held n 5 ([c2, c3, c4].take (Try.prog.cellsOf 5)) = xs[2]? := hat 2 _ rfl
  rw [e2, cells5] at g2
  obtain ⟨x3, e3⟩ := some_at (xs := xs) (i := 3) (by omega)
  have g3 : DataW.trod enc Try.prog w base spare held n 5 ([c3, c4].take (Try.prog.cellsOf 5)) = xs[3]? := hat 3 _ rfl
  rw [e3, cells5] at g3
  obtain ⟨x4, e4⟩ := some_at (xs := xs) (i := 4) (by omega)
  have g4 : DataW.trod enc Try.prog w base spare held n 5 ([c4].take (Try.prog.cellsOf 5)) = xs[4]? := hat 4 _ rfl
  rw [e4, cells5] at g4
  obtain ⟨z0, h0, _, w0⟩ := DataW.trod_int Try.underlying5 g0
  obtain ⟨z1, h1, _, w1⟩ := DataW.trod_int Try.underlying5 g1
  obtain ⟨z2, h2, _, w2⟩ := DataW.trod_int Try.underlying5 g2
  obtain ⟨z3, h3, _, w3⟩ := DataW.trod_int Try.underlying5 g3
  obtain ⟨z4, h4, _, w4⟩ := DataW.trod_int Try.underlying5 g4
  simp at h0 h1 h2 h3 h4
  exact ⟨z0, z1, z2, z3, z4, by rw [h0, h1, h2, h3, h4], bounds_u8 w0, bounds_u8 w1, bounds_u8 w2, bounds_u8 w3, bounds_u8 w4⟩
set_option maxRecDepth 100000 in
set_option maxHeartbeats 2000000 in
theorem open_slots {c0 : Value} {fuel : Nat} {x : DataW H × List MemPlace} (h : DataW.trod enc Try.prog w base spare held fuel 24 [c0] = some x) :
    ∃ A n c, c0 = .slice A n c ∧ ∃ l : List Sl, l.length = n ∧ LS w w.heap.size A l ∧ ∀ x ∈ l, Sl.Wf x := by
  rcases open_slice Try.underlying24 h with ⟨hcs, _⟩ | ⟨a, len, cap, m, k, D, Pl, hcs, _, hl, _, hmm, _, hi⟩
  · injection hcs with hcs
    exact ⟨none, 0, 0, hcs, [], rfl, (fun k o hk => by simp at hk), fun x hx => by simp at hx⟩
  · injection hcs with hcs
    refine ⟨some a, len, cap, hcs, ?_⟩
    have hm : len ≤ m := by rw [hmm]; split <;> omega
    by_cases hn0 : len = 0
    · exact ⟨[], by simp [hn0], (fun k o hk => by simp at hk), fun x hx => by simp at hx⟩
    obtain ⟨b, off, rfl, hb⟩ : ∃ b off, a = ⟨b, off, none⟩ ∧ b < w.heap.size := by
      obtain ⟨cs, hc, ht⟩ := hi 0 (by omega)
      rw [cells23] at hc
      obtain ⟨o, rfl, _⟩ := open_slot ht
      obtain ⟨_, _, hat⟩ := World.cells?_some hc
      have g0 := hat 0 (by omega)
      rw [Go.Deep.add_add] at g0
      exact plain_of g0
    have hc : ∀ i, i < len → ∃ o : Sl, (w.cell? ⟨b, off + i * 9, none⟩ = some (Value.int .i64 o.st) ∧ w.cell? ⟨b, off + i * 9 + 1, none⟩ = some (Value.int .i64 o.ow) ∧ w.cell? ⟨b, off + i * 9 + 2, none⟩ = some (Value.int .i64 o.sr) ∧ w.cell? ⟨b, off + i * 9 + 3, none⟩ = some (Value.bool o.br) ∧ w.cell? ⟨b, off + i * 9 + 4, none⟩ = some (Value.bool o.ma) ∧ w.cell? ⟨b, off + i * 9 + 5, none⟩ = some (Value.int .i64 o.us) ∧ w.cell? ⟨b, off + i * 9 + 6, none⟩ = some (Value.int .i64 o.ge) ∧ w.cell? ⟨b, off + i * 9 + 7, none⟩ = some (Value.int .i64 o.ep) ∧ w.cell? ⟨b, off + i * 9 + 8, none⟩ = some (Value.int .i64 o.ve)) ∧ (Sl.Wf o) := by
      intro i hlt
      obtain ⟨cs, hc, ht⟩ := hi i (by omega)
      rw [cells23] at hc
      obtain ⟨o, rfl, hq⟩ := open_slot ht
      obtain ⟨_, _, hat⟩ := World.cells?_some hc
      have hg : ∀ j, j < 9 → w.cell? ⟨b, off + i * 9 + j, none⟩ = [Value.int .i64 o.st, Value.int .i64 o.ow, Value.int .i64 o.sr, Value.bool o.br, Value.bool o.ma, Value.int .i64 o.us, Value.int .i64 o.ge, Value.int .i64 o.ep, Value.int .i64 o.ve][j]? := fun j hj => by
        have g0 := hat j hj
        rw [Go.Deep.add_add, add_plain, ← Nat.add_assoc] at g0
        exact g0
      exact ⟨o, ⟨hg 0 (by omega), hg 1 (by omega), hg 2 (by omega), hg 3 (by omega), hg 4 (by omega), hg 5 (by omega), hg 6 (by omega), hg 7 (by omega), hg 8 (by omega)⟩, hq⟩
    have : Inhabited Sl := ⟨⟨0, 0, 0, false, false, 0, 0, 0, 0⟩⟩
    obtain ⟨f, hf⟩ := choose_lt hc
    refine ⟨(List.range len).map f, by simp, fun k o hk => ?_, fun x hx => ?_⟩
    · have hkn : k < len := by have := (List.getElem?_eq_some_iff.1 hk).1; simpa using this
      rw [List.getElem?_map, List.getElem?_range hkn] at hk
      injection hk with hk
      subst hk
      exact ⟨b, off, rfl, hb, (hf k hkn).1⟩
    · obtain ⟨j, hj, rfl⟩ := List.mem_map.1 hx
      exact (hf j (by simpa using hj)).2
set_option maxRecDepth 100000 in
set_option maxHeartbeats 2000000 in
theorem open_writes {c0 : Value} {fuel : Nat} {x : DataW H × List MemPlace} (h : DataW.trod enc Try.prog w base spare held fuel 28 [c0] = some x) :
    ∃ A n c, c0 = .slice A n c ∧ ∃ l : List Wr, l.length = n ∧ WS w w.heap.size A l ∧ ∀ x ∈ l, Wr.Ok x := by
  rcases open_slice Try.underlying28 h with ⟨hcs, _⟩ | ⟨a, len, cap, m, k, D, Pl, hcs, _, hl, _, hmm, _, hi⟩
  · injection hcs with hcs
    exact ⟨none, 0, 0, hcs, [], rfl, (fun k o hk => by simp at hk), fun x hx => by simp at hx⟩
  · injection hcs with hcs
    refine ⟨some a, len, cap, hcs, ?_⟩
    have hm : len ≤ m := by rw [hmm]; split <;> omega
    by_cases hn0 : len = 0
    · exact ⟨[], by simp [hn0], (fun k o hk => by simp at hk), fun x hx => by simp at hx⟩
    obtain ⟨b, off, rfl, hb⟩ : ∃ b off, a = ⟨b, off, none⟩ ∧ b < w.heap.size := by
      obtain ⟨cs, hc, ht⟩ := hi 0 (by omega)
      rw [cells79] at hc
      obtain ⟨o, rfl, _⟩ := open_write ht
      obtain ⟨_, _, hat⟩ := World.cells?_some hc
      have g0 := hat 0 (by omega)
      rw [Go.Deep.add_add] at g0
      exact plain_of g0
    have hc : ∀ i, i < len → ∃ o : Wr, (w.cell? ⟨b, off + i * 3, none⟩ = some (.int .u8 o.wh) ∧ w.cell? ⟨b, off + i * 3 + 1, none⟩ = some (.int .u8 o.ad) ∧ w.cell? ⟨b, off + i * 3 + 2, none⟩ = some (.int .i64 o.v)) ∧ (Wr.Ok o) := by
      intro i hlt
      obtain ⟨cs, hc, ht⟩ := hi i (by omega)
      rw [cells79] at hc
      obtain ⟨o, rfl, hq⟩ := open_write ht
      obtain ⟨_, _, hat⟩ := World.cells?_some hc
      have hg : ∀ j, j < 3 → w.cell? ⟨b, off + i * 3 + j, none⟩ = [.int .u8 o.wh, .int .u8 o.ad, .int .i64 o.v][j]? := fun j hj => by
        have g0 := hat j hj
        rw [Go.Deep.add_add, add_plain, ← Nat.add_assoc] at g0
        exact g0
      exact ⟨o, ⟨hg 0 (by omega), hg 1 (by omega), hg 2 (by omega)⟩, hq⟩
    have : Inhabited Wr := ⟨⟨0, 0, 0⟩⟩
    obtain ⟨f, hf⟩ := choose_lt hc
    refine ⟨(List.range len).map f, by simp, fun k o hk => ?_, fun x hx => ?_⟩
    · have hkn : k < len := by have := (List.getElem?_eq_some_iff.1 hk).1; simpa using this
      rw [List.getElem?_map, List.getElem?_range hkn] at hk
      injection hk with hk
      subst hk
      exact ⟨b, off, rfl, hb, (hf k hkn).1⟩
    · obtain ⟨j, hj, rfl⟩ := List.mem_map.1 hx
      exact (hf j (by simpa using hj)).2
set_option maxRecDepth 100000 in
set_option maxHeartbeats 2000000 in
theorem open_byte {fuel : Nat} {cs : List Value} {x : DataW H × List MemPlace} (h : DataW.trod enc Try.prog w base spare held fuel 5 cs = some x) : ∃ o : Int, cs = [.int .u8 o] ∧ (0 ≤ o ∧ o ≤ 255) := by
  obtain ⟨r, hr, _, hw⟩ := DataW.trod_int Try.underlying5 h
  exact ⟨r, hr, bounds_u8 hw⟩
set_option maxRecDepth 100000 in
set_option maxHeartbeats 2000000 in
theorem open_bytes {c0 : Value} {fuel : Nat} {x : DataW H × List MemPlace} (h : DataW.trod enc Try.prog w base spare held fuel 25 [c0] = some x) :
    ∃ A n c, c0 = .slice A n c ∧ ∃ l : List Int, l.length = n ∧ BS w w.heap.size A l ∧ ∀ x ∈ l, 0 ≤ x ∧ x ≤ 255 := by
  rcases open_slice Try.underlying25 h with ⟨hcs, _⟩ | ⟨a, len, cap, m, k, D, Pl, hcs, _, hl, _, hmm, _, hi⟩
  · injection hcs with hcs
    exact ⟨none, 0, 0, hcs, [], rfl, (fun k o hk => by simp at hk), fun x hx => by simp at hx⟩
  · injection hcs with hcs
    refine ⟨some a, len, cap, hcs, ?_⟩
    have hm : len ≤ m := by rw [hmm]; split <;> omega
    by_cases hn0 : len = 0
    · exact ⟨[], by simp [hn0], (fun k o hk => by simp at hk), fun x hx => by simp at hx⟩
    obtain ⟨b, off, rfl, hb⟩ : ∃ b off, a = ⟨b, off, none⟩ ∧ b < w.heap.size := by
      obtain ⟨cs, hc, ht⟩ := hi 0 (by omega)
      rw [cells5] at hc
      obtain ⟨o, rfl, _⟩ := open_byte ht
      obtain ⟨_, _, hat⟩ := World.cells?_some hc
      have g0 := hat 0 (by omega)
      rw [Go.Deep.add_add] at g0
      exact plain_of g0
    have hc : ∀ i, i < len → ∃ o : Int, (w.cell? ⟨b, off + i, none⟩ = some (.int .u8 o)) ∧ (0 ≤ o ∧ o ≤ 255) := by
      intro i hlt
      obtain ⟨cs, hc, ht⟩ := hi i (by omega)
      rw [cells5] at hc
      obtain ⟨o, rfl, hq⟩ := open_byte ht
      obtain ⟨_, _, hat⟩ := World.cells?_some hc
      have hg : ∀ j, j < 1 → w.cell? ⟨b, off + i * 1 + j, none⟩ = [.int .u8 o][j]? := fun j hj => by
        have g0 := hat j hj
        rw [Go.Deep.add_add, add_plain, ← Nat.add_assoc] at g0
        exact g0
      have g1 := hg 0 (by omega)
      rw [Nat.mul_one] at g1
      exact ⟨o, g1, hq⟩
    have : Inhabited Int := ⟨0⟩
    obtain ⟨f, hf⟩ := choose_lt hc
    refine ⟨(List.range len).map f, by simp, fun k o hk => ?_, fun x hx => ?_⟩
    · have hkn : k < len := by have := (List.getElem?_eq_some_iff.1 hk).1; simpa using this
      rw [List.getElem?_map, List.getElem?_range hkn] at hk
      injection hk with hk
      subst hk
      exact ⟨b, off, rfl, hb, (hf k hkn).1⟩
    · obtain ⟨j, hj, rfl⟩ := List.mem_map.1 hx
      exact (hf j (by simpa using hj)).2
set_option maxRecDepth 100000 in
set_option maxHeartbeats 2000000 in
theorem open_bool1 {fuel : Nat} {cs : List Value} {x : DataW H × List MemPlace} (h : DataW.trod enc Try.prog w base spare held fuel 4 cs = some x) : ∃ o : Bool, cs = [.bool o] ∧ True := by
  obtain ⟨r, hr, _⟩ := DataW.trod_bool Try.underlying4 h
  exact ⟨r, hr, trivial⟩
set_option maxRecDepth 100000 in
set_option maxHeartbeats 2000000 in
theorem open_bools {c0 : Value} {fuel : Nat} {x : DataW H × List MemPlace} (h : DataW.trod enc Try.prog w base spare held fuel 60 [c0] = some x) :
    ∃ A n c, c0 = .slice A n c ∧ ∃ l : List Bool, l.length = n ∧ OS w w.heap.size A l ∧ ∀ x ∈ l, True := by
  rcases open_slice Try.underlying60 h with ⟨hcs, _⟩ | ⟨a, len, cap, m, k, D, Pl, hcs, _, hl, _, hmm, _, hi⟩
  · injection hcs with hcs
    exact ⟨none, 0, 0, hcs, [], rfl, (fun k o hk => by simp at hk), fun x hx => by simp at hx⟩
  · injection hcs with hcs
    refine ⟨some a, len, cap, hcs, ?_⟩
    have hm : len ≤ m := by rw [hmm]; split <;> omega
    by_cases hn0 : len = 0
    · exact ⟨[], by simp [hn0], (fun k o hk => by simp at hk), fun x hx => by simp at hx⟩
    obtain ⟨b, off, rfl, hb⟩ : ∃ b off, a = ⟨b, off, none⟩ ∧ b < w.heap.size := by
      obtain ⟨cs, hc, ht⟩ := hi 0 (by omega)
      rw [cells4] at hc
      obtain ⟨o, rfl, _⟩ := open_bool1 ht
      obtain ⟨_, _, hat⟩ := World.cells?_some hc
      have g0 := hat 0 (by omega)
      rw [Go.Deep.add_add] at g0
      exact plain_of g0
    have hc : ∀ i, i < len → ∃ o : Bool, (w.cell? ⟨b, off + i, none⟩ = some (.bool o)) ∧ (True) := by
      intro i hlt
      obtain ⟨cs, hc, ht⟩ := hi i (by omega)
      rw [cells4] at hc
      obtain ⟨o, rfl, hq⟩ := open_bool1 ht
      obtain ⟨_, _, hat⟩ := World.cells?_some hc
      have hg : ∀ j, j < 1 → w.cell? ⟨b, off + i * 1 + j, none⟩ = [.bool o][j]? := fun j hj => by
        have g0 := hat j hj
        rw [Go.Deep.add_add, add_plain, ← Nat.add_assoc] at g0
        exact g0
      have g1 := hg 0 (by omega)
      rw [Nat.mul_one] at g1
      exact ⟨o, g1, hq⟩
    have : Inhabited Bool := ⟨false⟩
    obtain ⟨f, hf⟩ := choose_lt hc
    refine ⟨(List.range len).map f, by simp, fun k o hk => ?_, fun x hx => ?_⟩
    · have hkn : k < len := by have := (List.getElem?_eq_some_iff.1 hk).1; simpa using this
      rw [List.getElem?_map, List.getElem?_range hkn] at hk
      injection hk with hk
      subst hk
      exact ⟨b, off, rfl, hb, (hf k hkn).1⟩
    · obtain ⟨j, hj, rfl⟩ := List.mem_map.1 hx
      exact (hf j (by simpa using hj)).2
set_option maxRecDepth 100000 in
set_option maxHeartbeats 2000000 in
theorem open_given {r : Reach} {b0 : Nat} {v : Value} {d : DataW H} {p : List MemPlace} (hv : Value.okWide Try.prog w r b0 27 v) (h : DataW.Trod enc Try.prog w base spare held 27 v d p) :
    ∃ (a1 a2 a3 a4 a5 : Int) (S P1 P2 : Option Addr) (sn sc pn1 pc1 pn2 pc2 : Nat) (sl : List Sl) (p1 p2 : List Int), v = Value.agg #[.int .u8 a1, .int .u8 a2, .int .u8 a3, .int .u8 a4, .int .u8 a5, .slice S sn sc, .slice P1 pn1 pc1, .slice P2 pn2 pc2] ∧ (0 ≤ a1 ∧ a1 ≤ 255) ∧ (0 ≤ a2 ∧ a2 ≤ 255) ∧ (0 ≤ a3 ∧ a3 ≤ 255) ∧ (0 ≤ a4 ∧ a4 ≤ 255) ∧ (0 ≤ a5 ∧ a5 ≤ 255) ∧ GivenAt w S P1 P2 sn pn1 pn2 sl p1 p2 := by
  obtain ⟨cs, rfl, hsz⟩ := okWide_struct Try.underlying27 hv
  rw [cells31] at hsz
  obtain ⟨l⟩ := cs
  obtain ⟨c0, c1, c2, c3, c4, c5, c6, c7, rfl⟩ := eight_list (show l.length = 8 from hsz)
  obtain ⟨fuel, hf⟩ := h
  obtain ⟨xs, n, _, _, _, hxl, hat⟩ := DataW.trod_struct Try.underlying27 hf
  have hl : xs.length = 4 := hxl
  obtain ⟨x0, e0⟩ := some_at (xs := xs) (i := 0) (by omega)
  have g0 : DataW.trod enc Try.prog w base spare held n 23 ([c0, c1, c2, c3, c4, c5, c6, c7].take (Try.prog.cellsOf 23)) = xs[0]? := hat 0 _ rfl
  rw [e0, cells27] at g0
  obtain ⟨x1, e1⟩ := some_at (xs := xs) (i := 1) (by omega)
  have g1 : DataW.trod enc Try.prog w base spare held n 24 ([c5, c6, c7].take (Try.prog.cellsOf 24)) = xs[1]? := hat 1 _ rfl
  rw [e1, cells28] at g1
  obtain ⟨x2, e2⟩ := some_at (xs := xs) (i := 2) (by omega)
  have g2 : DataW.trod enc Try.prog w base spare held n 25 ([c6, c7].take (Try.prog.cellsOf 25)) = xs[2]? := hat 2 _ rfl
  rw [e2, cells29] at g2
  obtain ⟨x3, e3⟩ := some_at (xs := xs) (i := 3) (by omega)
  have g3 : DataW.trod enc Try.prog w base spare held n 25 ([c7].take (Try.prog.cellsOf 25)) = xs[3]? := hat 3 _ rfl
  rw [e3, cells29] at g3
  obtain ⟨a1, a2, a3, a4, a5, k0, k1, k2, k3, k4, k5⟩ := open_few g0
  obtain ⟨S, sn, sc, e5, sl, hs1, hs2, hs3⟩ := open_slots g1
  obtain ⟨P1, pn1, pc1, e6, p1, hp1, hp2, hp3⟩ := open_bytes g2
  obtain ⟨P2, pn2, pc2, e7, p2, hq1, hq2, hq3⟩ := open_bytes g3
  simp at k0
  obtain ⟨f0, f1, f2, f3, f4⟩ := k0
  subst f0 f1 f2 f3 f4 e5 e6 e7
  exact ⟨a1, a2, a3, a4, a5, S, P1, P2, sn, sc, pn1, pc1, pn2, pc2, sl, p1, p2, rfl, k1, k2, k3, k4, k5, ⟨hs2, hp2, hq2, hs1, hp1, hq1, hs3, hp3, hq3⟩⟩
end
end Go.Proofs.Ytalmadeibnekoaa
