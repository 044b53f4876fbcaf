/- Memory of cells as a list and a count; what is told of it, and left; nothing else changes. -/
import Derived.Test.YtalmadeibnekoaaSpx
import Derived.Test.YtalmadeibnekoaaFit
import Derived.Maps.Own
import Derived.Shelf.Abstract
import Derived.Test.YtalmadeibnekoaaMem
namespace Go.Proofs.Ytalmadeibnekoaa
open Go.RowKit
attribute [local go_sem ↓] Go.wp_at_zero Go.wp_at_succ

/-- words, and how often one was touched -/
structure St where
  ws : List Int
  t : Nat
def St.at (s : St) (i : Int) : Int := s.ws.getD i.toNat 0
def St.put (s : St) (i v : Int) : St := ⟨s.ws.set i.toNat v, s.t + 1⟩
theorem St.at_nat {s : St} {k : Nat} (h : k < s.ws.length) : s.ws[k]? = some (s.at k) := by
  simp [St.at, h]
theorem St.put_nat (s : St) (k : Nat) (v : Int) : s.put k v = ⟨s.ws.set k v, s.t + 1⟩ := rfl
/-- the words lie in block gw, the memory itself in block g -/
structure MemAt (w : World) (g gw c : Nat) (s : St) : Prop where
  ne : g ≠ gw
  lg : g < w.heap.size
  lw : gw < w.heap.size
  c0 : w.cell? ⟨g, 0, none⟩ = some (.slice (some ⟨gw, 0, none⟩) s.ws.length c)
  c1 : w.cell? ⟨g, 1, none⟩ = some (.int .i64 s.t)
  fg : ∀ j, w.frozen? ⟨g, j, none⟩ = false
  fw : ∀ j, w.frozen? ⟨gw, j, none⟩ = false
  ic : ∀ (k : Nat) x, s.ws[k]? = some x → w.cell? ⟨gw, k, none⟩ = some (.int .i64 x)
theorem MemAt.spx {w w' : World} {g gw c : Nat} {s : St} {X : List Nat} (h : MemAt w g gw c s) (hs : SpX X w w') (h1 : g ∉ X) (h2 : gw ∉ X) : MemAt w' g gw c s :=
  ⟨h.ne, Nat.lt_of_lt_of_le h.lg hs.size, Nat.lt_of_lt_of_le h.lw hs.size, (hs.cell 0 h.lg h1).trans h.c0, (hs.cell 1 h.lg h1).trans h.c1,
   fun j => (hs.frozen j h.lg h1).trans (h.fg j), fun j => (hs.frozen j h.lw h2).trans (h.fw j), fun k x hk => (hs.cell k h.lw h2).trans (h.ic k x hk)⟩
theorem MemAt.on {w w' : World} {g gw c : Nat} {s : St} (h : MemAt w g gw c s) (hb : Below w.heap.size w w') : MemAt w' g gw c s := h.spx (X := []) (.of_below hb) (by simp) (by simp)
theorem MemAt.alloc {w : World} {g gw c : Nat} {s : St} (h : MemAt w g gw c s) (o : Obj) : MemAt (w.alloc o) g gw c s := h.on (bnew _ _)
theorem MemAt.drewN {w : World} {g gw c : Nat} {s : St} (h : MemAt w g gw c s) (n : Nat) : MemAt (w.drewN n) g gw c s := ⟨h.ne, h.lg, h.lw, h.c0, h.c1, h.fg, h.fw, h.ic⟩
theorem MemAt.drew {w : World} {g gw c : Nat} {s : St} (h : MemAt w g gw c s) : MemAt w.drew g gw c s := ⟨h.ne, h.lg, h.lw, h.c0, h.c1, h.fg, h.fw, h.ic⟩
theorem MemAt.touch {w : World} {g gw c : Nat} {s : St} (h : MemAt w g gw c s) (t : Nat) : MemAt (w.setCell ⟨g, 1, none⟩ (.int .i64 t)) g gw c ⟨s.ws, t⟩ := by
  have hs : SpX [g] w (w.setCell ⟨g, 1, none⟩ (.int .i64 t)) := (SpX.refl [g] w).set (by simp) 1 _
  have hn : gw ∉ [g] := by simpa using h.ne.symm
  refine ⟨h.ne, Nat.lt_of_lt_of_le h.lg hs.size, Nat.lt_of_lt_of_le h.lw hs.size, ?_, ?_, fun j => ?_, fun j => (hs.frozen j h.lw hn).trans (h.fw j), fun k x hk => (hs.cell k h.lw hn).trans (h.ic k x hk)⟩
  · rw [World.cell?_setCell_other _ _ _ _ (by intro e; injection e with _ e; cases e), h.c0]
  · rw [World.cell?_setCell_same' _ _ _ (by rw [h.c1]; rfl)]
  · simpa using h.fg j
theorem MemAt.word {w : World} {g gw c : Nat} {s : St} (h : MemAt w g gw c s) (k : Nat) (v : Int) : MemAt (w.setCell ⟨gw, k, none⟩ (.int .i64 v)) g gw c ⟨s.ws.set k v, s.t⟩ := by
  have hs : SpX [gw] w (w.setCell ⟨gw, k, none⟩ (.int .i64 v)) := (SpX.refl [gw] w).set (by simp) k _
  have hn : g ∉ [gw] := by simpa using h.ne
  refine ⟨h.ne, Nat.lt_of_lt_of_le h.lg hs.size, Nat.lt_of_lt_of_le h.lw hs.size, by rw [hs.cell 0 h.lg hn, h.c0, List.length_set], (hs.cell 1 h.lg hn).trans h.c1, fun j => (hs.frozen j h.lg hn).trans (h.fg j), fun j => ?_, fun j x hj => ?_⟩
  · simpa using h.fw j
  · have hl : j < s.ws.length := by have := (List.getElem?_eq_some_iff.1 hj).1; simpa using this
    by_cases e : k = j
    · subst e
      rw [List.getElem?_set_self hl] at hj
      injection hj with hj
      subst hj
      rw [World.cell?_setCell_same' _ _ _ (by rw [h.ic k _ (List.getElem?_eq_getElem hl)]; rfl)]
    · rw [List.getElem?_set_ne e] at hj
      rw [World.cell?_setCell_other _ _ _ _ (by intro h'; injection h' with _ h'; exact e h')]
      exact h.ic j x hj
def Ends (w : World) (g gw c : Nat) (s : St) (v : Value) (e : Ending) (w' : World) : Prop := e = .returned v ∧ MemAt w' g gw c s ∧ SpX [g, gw] w w'
theorem mem_g (g gw : Nat) : g ∈ [g, gw] := by simp
theorem mem_gw (g gw : Nat) : gw ∈ [g, gw] := by simp
set_option maxRecDepth 100000 in
set_option maxHeartbeats 2000000 in
theorem load_in (g gw c : Nat) (s : St) (k : Nat) (w : World) (h : MemAt w g gw c s) (hk : k < s.ws.length) (ht : s.t < 1000000) :
    Calls Try.prog 32 #[.pointer (some ⟨g, 0, none⟩), .int .i64 k] w (Ends w g gw c ⟨s.ws, s.t + 1⟩ (.int .i64 (s.at k))) := by
  have h0 := h.c0
  have h1 := h.c1
  have h2 := h.fg 1
  have h3 := h.ic k _ (St.at_nat hk)
  have hne := h.ne
  have hne2 := h.ne.symm
  go_enter Try.func32, Try.ntmps32
  go_wp2_with (first | (go_at_call 46; go_in) | (go_at_call 47; go_in))
  go_ret
  exact ⟨rfl, h.touch _, (SpX.refl _ _).set (mem_g _ _) _ _⟩
set_option maxRecDepth 100000 in
set_option maxHeartbeats 2000000 in
theorem store_in (g gw c : Nat) (s : St) (k : Nat) (v : Int) (w : World) (h : MemAt w g gw c s) (hk : k < s.ws.length) (ht : s.t < 1000000) :
    Calls Try.prog 23 #[.pointer (some ⟨g, 0, none⟩), .int .i64 k, .int .i64 v] w (Ends w g gw c (s.put k v) (.bool true)) := by
  have h0 := h.c0
  have h1 := h.c1
  have h2 := h.fg 1
  have h3 := h.ic k _ (St.at_nat hk)
  have h4 := h.fw k
  have hne := h.ne
  have hne2 := h.ne.symm
  have hlg := h.lg
  have hlw := h.lw
  have hng : g ≠ w.heap.size := by omega
  have hng2 : w.heap.size ≠ g := by omega
  have hnw : gw ≠ w.heap.size := by omega
  have hnw2 : w.heap.size ≠ gw := by omega
  go_enter Try.func23, Try.ntmps23
  go_wp2_with (first | (go_at_call 38; go_in) | (go_at_call 39; go_in))
  go_ret
  exact ⟨rfl, ((h.touch (s.t + 1)).word k v).alloc _, (((SpX.refl _ _).set (mem_g _ _) _ _).set (mem_gw _ _) _ _).alloc _⟩
theorem manyS_any (g gw c : Nat) (s : St) (w : World) (h : MemAt w g gw c s) :
    Calls Try.prog 30 #[.pointer (some ⟨g, 0, none⟩)] w (fun e w' => e = .returned (.int .i64 (s.ws.length : Int)) ∧ w = w') := by
  have h0 := h.c0
  go_enter Try.func30, Try.ntmps30
  go_wp2
  go_ret
  exact ⟨rfl, rfl⟩
theorem touched_any (g gw c : Nat) (s : St) (w : World) (h : MemAt w g gw c s) :
    Calls Try.prog 12 #[.pointer (some ⟨g, 0, none⟩)] w (fun e w' => e = .returned (.int .i64 (s.t : Int)) ∧ w = w') := by
  have h1 := h.c1
  go_enter Try.func12, Try.ntmps12
  go_wp2
  go_ret
  exact ⟨rfl, rfl⟩
theorem MemAt.is {w : World} {g gw c : Nat} {s : St} (h : MemAt w g gw c s) : IS w w.heap.size (some ⟨gw, 0, none⟩) s.ws := fun k x hk => ⟨gw, 0, rfl, h.lw, by rw [Nat.zero_add]; exact h.ic k x hk⟩
/-- what a call hands back that tells the numbers xs, in memory of its own -/
def TellsNums (w : World) (xs : List Int) (e : Ending) (w' : World) : Prop :=
  ∃ b c, e = .returned (.slice (some ⟨b, 0, none⟩) xs.length c) ∧ xs.length ≤ c ∧ w.heap.size ≤ b ∧ IB w' b xs ∧ Below w.heap.size w w'
open Go.Lib in
theorem clone_ib (gw c : Nat) (xs : List Int) (w : World) (h : ∀ (k : Nat) x, xs[k]? = some x → w.cell? ⟨gw, k, none⟩ = some (.int .i64 x)) (h1 : 0 < xs.length) (h2 : xs.length ≤ 1000000) :
    Calls Try.prog 37 #[.slice (some ⟨gw, 0, none⟩) xs.length c] w (TellsNums w xs) := by
  refine (Any.slices_Clone_int laysClone gw 0 xs.length c xs w (Nat.le_refl _) (by omega) fun j hj => ?_).mono ?_
  · obtain ⟨x, hx⟩ := num_some hj
    rw [Nat.zero_add, h j x hx, List.getD_eq_getElem?_getD, hx]
    rfl
  · rintro e w' ⟨v, rfl, hown, hne, hb2⟩
    rw [List.take_length] at hown
    obtain ⟨A2, c2, rfl⟩ := own_form hown
    obtain ⟨k1, k2, k3⟩ := own_is hown
    rcases hown.2 with ⟨e3, _⟩ | ⟨g', cap, cur, e3, hg, _⟩
    · exact absurd e3 hne
    · injection e3 with e3 e4 e5
      subst e3
      exact ⟨g', c2, rfl, k3, hg, .of_is k1 (Nat.le_refl _) h1, hb2⟩
theorem wordsS_any (g gw c : Nat) (s : St) (w : World) (h : MemAt w g gw c s) (h1 : 0 < s.ws.length) (h2 : s.ws.length ≤ 1000000) :
    Calls Try.prog 22 #[.pointer (some ⟨g, 0, none⟩)] w (TellsNums w s.ws) := by
  have h0 := h.c0
  go_enter Try.func22, Try.ntmps22
  go_wp2_with (go_at_call 37; refine (clone_ib gw c s.ws _ h.ic h1 h2).mono ?_; rintro e w1 ⟨b, c1, rfl, hc1, hb1, hb2, hb3⟩)
  go_ret
  exact ⟨b, c1, rfl, hc1, hb1, hb2, hb3⟩
theorem memAt_box (w : World) (gw c : Nat) (xs : List Int) (t : Nat) (T : TypeId) (h : IB w gw xs) (hf : ∀ j, w.frozen? ⟨gw, j, none⟩ = false) : MemAt (w.alloc (.cells #[.slice (some ⟨gw, 0, none⟩) xs.length c, .int .i64 t] T)) w.heap.size gw c ⟨xs, t⟩ := by
  have r := RowAt.new w T #[.slice (some ⟨gw, 0, none⟩) xs.length c, .int .i64 t]
  have h2 := h.on (bnew w (.cells #[.slice (some ⟨gw, 0, none⟩) xs.length c, .int .i64 t] T))
  exact ⟨Nat.ne_of_gt h.1, r.lt, h2.1, r.cell 0 rfl, r.cell 1 rfl, fun j => r.frozen j, fun j => by rw [(bnew w (.cells #[.slice (some ⟨gw, 0, none⟩) xs.length c, .int .i64 t] T)).frozen (p := ⟨gw, j, none⟩) h.1]; exact hf j, h2.2⟩
/-- what a call tells of a memory that it made -/
def TellsMem (w : World) (s : St) (g gw c : Nat) (w' : World) : Prop := w.heap.size ≤ g ∧ w.heap.size ≤ gw ∧ MemAt w' g gw c s ∧ Below w.heap.size w w'
theorem zeros_ib (w : World) (n : Nat) : IB (w.alloc (.cells (madeCells #[.int .i64 0] n) 3)) w.heap.size (List.replicate n 0) := by
  refine ⟨by simp, fun k x hk => ?_⟩
  obtain ⟨h1, rfl⟩ := rep_at hk
  exact (RowAt.new w 3 (madeCells #[.int .i64 0] n)).cell k (zeros_at n k h1)
set_option maxRecDepth 100000 in
set_option maxHeartbeats 2000000 in
theorem newS_any (n : Nat) (w : World) (h1 : 1 ≤ n) (h2 : n ≤ 4096) :
    Calls Try.prog 42 #[.int .i64 n] w (fun e w' => ∃ g gw, e = .returned (.tuple #[.pointer (some ⟨g, 0, none⟩), .int .i64 0]) ∧ TellsMem w ⟨List.replicate n 0, 0⟩ g gw n w') := by
  have hm := make_run n h2
  have hn := zeros_ib w n
  go_enter Try.func42, Try.ntmps42
  go_wp2
  go_ret2
  have hk := memAt_box _ w.heap.size n _ 0 73 hn (fun j => (RowAt.new w 3 (madeCells #[.int .i64 0] n)).frozen j)
  exact ⟨_, _, rfl, by simp, Nat.le_refl _, by simpa using hk, bst (bnew _ _) (bnew _ _)⟩
set_option maxRecDepth 100000 in
set_option maxHeartbeats 2000000 in
theorem memS_yes (c : Cf) (w : World) (hc : Rc c) :
    Calls Try.prog 29 #[Value.agg #[Value.int .i64 c.wo, Value.int .i64 c.sl, Value.int .i64 c.st, Value.int .i64 c.wa, Value.int .i64 c.us]] w (fun e w' => ∃ g gw, e = .returned (.tuple #[.pointer (some ⟨g, 0, none⟩), .int .i64 0]) ∧ TellsMem w ⟨List.replicate (cellsN c) 0, 0⟩ g gw (cellsN c) w') := by
  have hB : Below w.heap.size w (w.alloc (.cells #[Value.int .i64 c.wo, Value.int .i64 c.sl, Value.int .i64 c.st, Value.int .i64 c.wa, Value.int .i64 c.us] 31)) := bnew _ _
  have r0 := RowAt.new w 31 #[Value.int .i64 c.wo, Value.int .i64 c.sl, Value.int .i64 c.st, Value.int .i64 c.wa, Value.int .i64 c.us]
  have Hr := Lib.hid (rcB_iff.2 hc)
  have Hc := Lib.hid hc
  have Hn := Lib.hid (cellsN_eq hc)
  clear hc
  go_enter Try.func29, Try.ntmps29
  go_wp2_with fail
  refine (cright_any c _).mono ?_
  rintro e w1 ⟨rfl, hb⟩
  rw [Hr.out]
  replace hB := hB.trans (hb.mono hB.size)
  replace r0 := r0.below hb r0.lt
  clear hb
  go_wp2_with (refine wpList_load_row rfl 31 _ rfl _ rfl 31 _ (0, 0) _ r0 Try.underlying31 rfl (by kernel_rfl) ?_)
  refine (cells_any c _ Hc.out).mono ?_
  rintro e w2 ⟨rfl, hb⟩
  replace hB := hB.trans (hb.mono hB.size)
  clear hb
  rw [← Hn.out.1]
  go_wp2_with fail
  refine (newS_any (cellsN c) _ (by have := Hn.out.2; omega) (by have := Hn.out.2; omega)).mono ?_
  rintro e w3 ⟨g, gw, rfl, h1, h2, hm, hb⟩
  have hs := hB.size
  replace hB := hB.trans (hb.mono hB.size)
  clear hb
  go_wp2_with fail
  go_ret2
  exact ⟨g, gw, rfl, by omega, by omega, hm, hB⟩
end Go.Proofs.Ytalmadeibnekoaa
