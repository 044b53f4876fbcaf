/- What New, Many, Touched, Words and Copy tell and leave; two lists of numbers compared. -/
import Derived.Test.YthjhjjpgchmmfaaOne
import Derived.Test.YthjhjjpgchmmfaaClone
namespace Go.Proofs.Ythjhjjpgchmmfaa
open Go.RowKit
attribute [local go_sem ↓] Go.wp_at_zero Go.wp_at_succ

theorem MemAt.drew {w : World} {g gw c : Nat} {s : St} (h : MemAt w g gw c s) : MemAt w.drew g gw c s := ⟨h.ne, h.lg, h.lw, h.c0, h.c1, h.fg, h.fw, h.ic⟩
theorem many_any (g gw c : Nat) (s : St) (w : World) (h : MemAt w g gw c s) :
    Calls Try.prog 17 #[.pointer (some ⟨g, 0, none⟩)] w (fun e w' => e = .returned (.int .i64 (s.ws.length : Int)) ∧ w' = w) := by
  have h0 := h.c0
  go_enter Try.func17, Try.ntmps17
  go_wp2
  go_ret
  exact ⟨rfl, rfl⟩
theorem touched_any (g gw c : Nat) (s : St) (w : World) (h : MemAt w g gw c s) :
    Calls Try.prog 14 #[.pointer (some ⟨g, 0, none⟩)] w (fun e w' => e = .returned (.int .i64 (s.t : Int)) ∧ w' = w) := by
  have h1 := h.c1
  go_enter Try.func14, Try.ntmps14
  go_wp2
  go_ret
  exact ⟨rfl, rfl⟩

/-- block b begins with the numbers xs -/
structure Nums (w : World) (b : Nat) (xs : List Int) : Prop where
  lt : b < w.heap.size
  ic : ∀ (k : Nat) x, xs[k]? = some x → w.cell? ⟨b, k, none⟩ = some (.int .i64 x)
  free : ∀ j, w.frozen? ⟨b, j, none⟩ = false
theorem Nums.sp {w w' : World} {b g gw : Nat} {xs : List Int} (h : Nums w b xs) (hs : Sp g gw w w') (h1 : b ≠ g) (h2 : b ≠ gw) : Nums w' b xs :=
  ⟨Nat.lt_of_lt_of_le h.lt hs.size, fun k x hk => (hs.cell k h.lt h1 h2).trans (h.ic k x hk), fun j => (hs.frozen j h.lt h1 h2).trans (h.free j)⟩
theorem Nums.below {w w' : World} {b B : Nat} {xs : List Int} (h : Nums w b xs) (hs : Below B w w') (h1 : b < B) : Nums w' b xs :=
  ⟨Nat.lt_of_lt_of_le h.lt hs.size, fun k x hk => (hs.cell (p := ⟨b, k, none⟩) h1).trans (h.ic k x hk), fun j => (hs.frozen (p := ⟨b, j, none⟩) h1).trans (h.free j)⟩
theorem Nums.on {w w' : World} {b : Nat} {xs : List Int} (h : Nums w b xs) (hs : Below w.heap.size w w') : Nums w' b xs := h.below hs h.lt
theorem MemAt.nums {w : World} {g gw c : Nat} {s : St} (h : MemAt w g gw c s) : Nums w gw s.ws := ⟨h.lw, h.ic, h.fw⟩
theorem nums_block {w : World} {b cap : Nat} {xs : List Int} {cur : Array Value} (h : w.heap[b]? = some (.cells cur 3 (0, 0))) (hx : cur.toList.take xs.length = xs.map (Value.int .i64)) (_hc : xs.length ≤ cap) : Nums w b xs := by
  refine ⟨(Array.getElem?_eq_some_iff.1 h).1, fun k x hk => ?_, fun j => ?_⟩
  · rw [cell_of_row w b k cur 3 (0, 0) h]
    obtain ⟨hl, hk⟩ := List.getElem?_eq_some_iff.1 hk
    have e : (cur.toList.take xs.length)[k]? = (xs.map (Value.int .i64))[k]? := by rw [hx]
    rw [List.getElem?_take_of_lt hl, List.getElem?_map, List.getElem?_eq_getElem hl, hk] at e
    simpa using e
  · simp [World.frozen?, h]

/-- what a call hands back that tells the numbers xs, in memory of its own -/
def TellsNums (w : World) (xs : List Int) (e : Ending) (w' : World) : Prop :=
  ∃ b c, e = .returned (.slice (some ⟨b, 0, none⟩) xs.length c) ∧ w.heap.size ≤ b ∧ Nums w' b xs ∧ Below w.heap.size w w'
theorem clone_nums (gw c : Nat) (xs : List Int) (w : World) (h : Nums w gw xs) (h1 : 0 < xs.length) (h2 : xs.length ≤ 1000000) :
    Calls Try.prog 28 #[.slice (some ⟨gw, 0, none⟩) xs.length c] w (TellsNums w xs) := by
  refine (clone_at gw 0 xs.length c xs w (Nat.le_refl _) (by omega) fun j hj => ?_).mono ?_
  · rw [Nat.zero_add]
    refine h.ic j _ ?_
    simp [hj]
  · rintro e w' ⟨v, rfl, hown, _, hb⟩
    rw [List.take_length] at hown
    rcases hown.2 with ⟨_, h0⟩ | ⟨g, cap, cur, rfl, hg, hh, hcap, _, _, ht⟩
    · omega
    · rw [Nat.mul_one] at ht
      exact ⟨g, cap, rfl, hg, nums_block hh ht hcap, hb⟩
theorem words_any (g gw c : Nat) (s : St) (w : World) (h : MemAt w g gw c s) (h1 : 0 < s.ws.length) (h2 : s.ws.length ≤ 1000000) :
    Calls Try.prog 16 #[.pointer (some ⟨g, 0, none⟩)] w (TellsNums w s.ws) := by
  have h0 := h.c0
  go_enter Try.func16, Try.ntmps16
  go_wp2_with (go_at_call 28; refine (clone_nums gw c s.ws _ h.nums h1 h2).mono ?_; rintro e w1 ⟨b, c1, rfl, hb1, hb2, hb3⟩)
  go_ret
  exact ⟨b, c1, rfl, hb1, hb2, hb3⟩

/-- what a call hands back that makes a memory -/
def TellsMem (w : World) (s : St) (g gw c : Nat) (w' : World) : Prop := w.heap.size ≤ g ∧ w.heap.size ≤ gw ∧ MemAt w' g gw c s ∧ Below w.heap.size w w'
theorem info3 : (Try.prog.info? 3).map (fun i => (i.zero, i.size, i.bytes)) = some (some (.int .i64 0), 1, 8) := by kernel_rfl
theorem nums_new (w : World) (n : Nat) : Nums (w.alloc (.cells (madeCells #[.int .i64 0] n) 3)) w.heap.size (List.replicate n 0) := by
  have hb : (w.alloc (.cells (madeCells #[.int .i64 0] n) 3)).heap[w.heap.size]? = some (.cells (madeCells #[.int .i64 0] n) 3 (0, 0)) := heap_alloc_new w _
  refine nums_block (cap := n) hb ?_ (by simp)
  have e : (madeCells #[Value.int .i64 0] n).toList = List.replicate n (.int .i64 0) := by
    apply List.ext_getElem
    · simp [madeCells]
    · intro i h1 h2
      simp [madeCells, Nat.mod_one]
  rw [e]
  simp
theorem frozen_row {w : World} {b : Nat} {cs : Array Value} {T : TypeId} (hb : w.heap[b]? = some (.cells cs T (0, 0))) (j : Nat) : w.frozen? ⟨b, j, none⟩ = false := by simp [World.frozen?, hb]
theorem memAt_box (w : World) (gw c : Nat) (xs : List Int) (t : Nat) (T : TypeId) (h : Nums w gw xs) : MemAt (w.alloc (.cells #[.slice (some ⟨gw, 0, none⟩) xs.length c, .int .i64 t] T)) w.heap.size gw c ⟨xs, t⟩ := by
  have hb : (w.alloc (.cells #[.slice (some ⟨gw, 0, none⟩) xs.length c, .int .i64 t] T)).heap[w.heap.size]? = some (.cells #[.slice (some ⟨gw, 0, none⟩) xs.length c, .int .i64 t] T (0, 0)) := heap_alloc_new w _
  have hB := (Below.refl w.heap.size w).alloc (Nat.le_refl _) (.cells #[.slice (some ⟨gw, 0, none⟩) xs.length c, .int .i64 t] T)
  have h2 := h.on hB
  exact ⟨Nat.ne_of_gt h.lt, (Array.getElem?_eq_some_iff.1 hb).1, h2.lt, cell_of_row _ _ 0 _ T (0, 0) hb, cell_of_row _ _ 1 _ T (0, 0) hb, fun j => frozen_row hb j, h2.free, h2.ic⟩
theorem make_run (n : Nat) (h2 : n ≤ 4096) (W : World) : (Instr.makeSlice 29 (.int .i64 n) (.int .i64 n)).run Try.prog W = .ok (.slice (some ⟨W.heap.size, 0, none⟩) n n) (W.alloc (.cells (madeCells #[.int .i64 0] n) 3)) := by
  obtain ⟨i0, hi, hz0, hz1, hz2⟩ := info_parts info3
  have h := run_make (P := Try.prog) W 29 3 i0 (.int .i64 0) Try.underlying29 hi hz0 .i64 .i64 n n (by omega) (by omega) (by rw [hz2]; omega) (by omega)
  rw [hz1, Nat.mul_one, Int.toNat_natCast, show (Value.int .i64 0).cells = #[.int .i64 0] from rfl] at h
  exact h
theorem new_in (n : Nat) (w : World) (h1 : 1 ≤ n) (h2 : n ≤ 4096) :
    Calls Try.prog 11 #[.int .i64 n] w (fun e w' => ∃ g gw, e = .returned (.tuple #[.pointer (some ⟨g, 0, none⟩), .int .i64 0]) ∧ TellsMem w ⟨List.replicate n 0, 0⟩ g gw n w') := by
  have hm := make_run n h2
  have hn := nums_new w n
  go_enter Try.func11, Try.ntmps11
  go_wp2
  go_ret2
  have hk := memAt_box _ w.heap.size n _ 0 53 hn
  exact ⟨_, _, rfl, by simp, Nat.le_refl _, by simpa using hk, ((Below.refl _ _).alloc (Nat.le_refl _) _).alloc (by simp) _⟩
theorem new_out (i : Int) (w : World) (h : i < 1 ∨ 4096 < i) :
    Calls Try.prog 11 #[.int .i64 i] w (fun e w' => e = .returned (.tuple #[.pointer none, .int .i64 1]) ∧ w' = w) := by
  rcases h with h | h
  · go_enter Try.func11, Try.ntmps11
    go_wp2
    go_ret2
    exact ⟨rfl, rfl⟩
  · have h0 : ¬ i < 1 := by omega
    go_enter Try.func11, Try.ntmps11
    go_wp2
    go_ret2
    exact ⟨rfl, rfl⟩
theorem copy_any (g gw c : Nat) (s : St) (w : World) (h : MemAt w g gw c s) (h1 : 0 < s.ws.length) (h2 : s.ws.length ≤ 1000000) :
    Calls Try.prog 21 #[.pointer (some ⟨g, 0, none⟩)] w (fun e w' => ∃ g2 gw2 c2, e = .returned (.pointer (some ⟨g2, 0, none⟩)) ∧ TellsMem w s g2 gw2 c2 w') := by
  have h3 := h.c1
  go_enter Try.func21, Try.ntmps21
  go_wp2_with fail
  go_region_held3 (fun w' => w'.cell? ⟨g, 1, none⟩ = some (.int .i64 s.t)) (go_keep)
    (first | (go_at_call 16; refine (words_any g gw c s _ h.drew h1 h2).mono ?_; rintro e w1 ⟨b, c1, rfl, hb1, hb2, hb3⟩; have hx : w1.cell? ⟨g, 1, none⟩ = some (.int .i64 s.t) := ((cell_far hb3 1 h.lg).trans h3)))
  go_wp2
  go_ret
  have hB : Below w.heap.size w w1 := (Below.refl _ w).drew.trans hb3
  exact ⟨w1.heap.size, b, c1, rfl, hB.size, hb1, memAt_box w1 b c1 s.ws s.t 53 hb2, hB.alloc hB.size _⟩
end Go.Proofs.Ythjhjjpgchmmfaa
