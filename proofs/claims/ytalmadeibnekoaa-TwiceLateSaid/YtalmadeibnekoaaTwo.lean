/- Lists that one has alone, and copies of them. -/
import Derived.Test.YtalmadeibnekoaaInts
import Derived.Test.YtalmadeibnekoaaCm
import Derived.Test.YtalmadeibnekoaaTM
import Derived.Laws.CopyOwn
import Derived.Laws.OwnMore
import Derived.Maps.AppendAt
namespace Go.Proofs.Ytalmadeibnekoaa
open Go.RowKit
attribute [local go_sem ↓] Go.wp_at_zero Go.wp_at_succ

set_option maxRecDepth 100000 in
set_option maxHeartbeats 400000 in
theorem equal_any (A A2 : Option Addr) (c c2 : Nat) (xs ys : List Int) (w : World) (h : IS w w.heap.size A xs) (h2 : IS w w.heap.size A2 ys) (hl : xs.length ≤ 1000000) :
    Calls Try.prog 48 #[.slice A xs.length c, .slice A2 ys.length c2] w (fun e w' => e = .returned (.bool (decide (xs = ys))) ∧ Below w.heap.size w w') := by
  by_cases he : xs.length = ys.length
  · have He := Lib.hid he
    rw [← he]
    clear he
    go_enter Try.func48, Try.ntmps48
    go_wp2_with fail
    go_loopw [5, 13] (fun u i wr => ∃ (k : Nat), k ≤ xs.length ∧ i = .int .i64 k ∧ xs.take k = ys.take k ∧ Below w.heap.size w wr) (fun _ i _ => xs.length - (intOf i).toNat)
    case atStart => exact ⟨0, Nat.zero_le _, rfl, rfl, Below.refl _ _⟩
    case round =>
      obtain ⟨k, hk, rfl, hr, hB⟩ := hrel
      have Hr := Lib.hid hr
      clear hr
      by_cases hlt : k < xs.length
      · obtain ⟨x, hx⟩ := num_some hlt
        obtain ⟨y, hy⟩ := num_some (xs := ys) (k := k) (by rw [← He.out]; exact hlt)
        obtain ⟨b, off, rfl, _, hd1⟩ := (h.below hB) k _ hx
        obtain ⟨b2, off2, rfl, _, hd2⟩ := (h2.below hB) k _ hy
        have Hx := Lib.hid hx
        have Hy := Lib.hid hy
        clear hx hy
        have hk1 : (k : Int) < (xs.length : Int) := by omega
        by_cases hq : x = y
        · have hq2 : (x != y) = false := by simpa using hq
          have Hq := Lib.hid hq
          clear hq
          go_wp2
          go_quiet (fail)
          go_wp2
          go_roundw
          case rel => exact ⟨k + 1, by omega, by go_num, take_eq Hr.out Hx.out Hy.out Hq.out, bdrew hB _⟩
          case measure => simp [intOf]; omega
        · have hq2 : (x != y) = true := by simpa using hq
          have Hq := Lib.hid hq
          clear hq
          go_wp2
          go_quiet (fail)
          go_wp2
          go_ret
          refine ⟨ret_bool (decide_eq_false ?_).symm, bdrew hB _⟩
          intro e
          have h3 := Hx.out
          rw [e, Hy.out] at h3
          injection h3 with h3
          exact Hq.out h3.symm
      · obtain rfl : k = xs.length := by omega
        go_wp2
        go_ret
        refine ⟨ret_bool (decide_eq_true ?_).symm, hB⟩
        have h3 := Hr.out
        rwa [List.take_length, He.out, List.take_length] at h3
  · have hn : ((xs.length : Int) != (ys.length : Int)) = true := by rw [bne_iff_ne]; omega
    have hn2 : (xs.length != ys.length) = true := by rw [bne_iff_ne]; omega
    have Hf := Lib.hid (decide_eq_false (show ¬ xs = ys from fun e => he (by rw [e])))
    clear he
    go_enter Try.func48, Try.ntmps48
    go_wp2
    go_ret
    exact ⟨ret_bool Hf.out.symm, Below.refl _ _⟩


/-- numbers that one has alone: the slice lies in block b; where there is none, b is f -/
structure Own (w : World) (f b : Nat) (A : Option Addr) (n c : Nat) (xs : List Int) : Prop where
  own : w.ownsRow 0 3 1 (.slice A n c) n (xs.map (Value.int .i64))
  pl : (A = none ∧ b = f) ∨ (A = some ⟨b, 0, none⟩ ∧ b ≠ f)
  lt : b < w.heap.size
theorem Own.len {w : World} {f b n c : Nat} {A : Option Addr} {xs : List Int} (h : Own w f b A n c xs) : xs.length = n := by simpa using h.own.1
theorem Own.is {w : World} {f b n c : Nat} {A : Option Addr} {xs : List Int} (h : Own w f b A n c xs) : IS w w.heap.size A xs := (own_is h.own).1
theorem Own.nc {w : World} {f b n c : Nat} {A : Option Addr} {xs : List Int} (h : Own w f b A n c xs) : n ≤ c := (own_is h.own).2.2
theorem Own.spx {w w' : World} {f b n c : Nat} {A : Option Addr} {xs : List Int} {X : List Nat} (h : Own w f b A n c xs) (hs : SpX X w w') (hb : b = f ∨ b ∉ X) : Own w' f b A n c xs := by
  refine ⟨⟨h.own.1, ?_⟩, h.pl, Nat.lt_of_lt_of_le h.lt hs.size⟩
  rcases h.own.2 with h1 | ⟨g, cap, cur, e, k1, k2, k3⟩
  · exact .inl h1
  · refine .inr ⟨g, cap, cur, e, k1, ?_, k3⟩
    injection e with e1 e2 e3
    rcases h.pl with ⟨e4, _⟩ | ⟨e4, e5⟩
    · rw [e4] at e1; cases e1
    · rw [e4] at e1
      injection e1 with e1
      injection e1 with e1 _
      subst e1
      exact (hs.block b h.lt (hb.resolve_left e5)).trans k2
theorem Own.on {w w' : World} {f b n c : Nat} {A : Option Addr} {xs : List Int} (h : Own w f b A n c xs) (hb : Below w.heap.size w w') : Own w' f b A n c xs := h.spx (X := []) (.of_below hb) (.inr (by simp))
theorem Own.drew {w : World} {f b n c : Nat} {A : Option Addr} {xs : List Int} (h : Own w f b A n c xs) : Own w.drew f b A n c xs := ⟨h.own, h.pl, h.lt⟩
theorem Own.nil (w : World) (f : Nat) (h : f < w.heap.size) : Own w f f none 0 0 [] := ⟨World.ownsRow_nil _ _ _ _, .inl ⟨rfl, rfl⟩, h⟩
/-- none of them, the room kept -/
theorem Own.zero {w : World} {f b n c : Nat} {A : Option Addr} {xs : List Int} (h : Own w f b A n c xs) : Own w f b A 0 c [] := by
  refine ⟨⟨by simp, ?_⟩, h.pl, h.lt⟩
  rcases h.own.2 with ⟨h1, h2⟩ | ⟨g, cap, cur, e, k1, k2, k3, k4, k5, k6⟩
  · injection h1 with e1 e2 e3
    exact .inl ⟨by rw [e1, e3], rfl⟩
  · injection e with e1 e2 e3
    exact .inr ⟨g, cap, cur, by rw [e1, e3], k1, k2, Nat.zero_le _, k4, k5, by simp⟩
theorem Own.nil0 {w : World} {f b n c : Nat} {A : Option Addr} {xs : List Int} (h : Own w f b A n c xs) : A = none → c = 0 := by
  intro e
  rcases h.own.2 with ⟨h1, h2⟩ | ⟨g, cap, cur, e2, _⟩
  · injection h1
  · injection e2 with e1 _ _
    rw [e] at e1; cases e1
theorem own_row {w : World} {f b : Nat} {xs : List Int} (h : RowAt w b 3 (xs.map (Value.int .i64)).toArray) (hf : b ≠ f) (hm : xs.length ≤ 1000000) : Own w f b (some ⟨b, 0, none⟩) xs.length xs.length xs :=
  ⟨⟨by simp, .inr ⟨b, xs.length, _, rfl, Nat.zero_le _, h, Nat.le_refl _, by unfold maxLen; omega, by simp, List.take_of_length_le (by simp)⟩⟩, .inr ⟨rfl, hf⟩, h.lt⟩
theorem own_of {w : World} {f n c : Nat} {A : Option Addr} {xs : List Int} {m : Nat} (h : w.ownsRow m 3 1 (.slice A n c) n (xs.map (Value.int .i64))) (b : Nat) (hA : A = some ⟨b, 0, none⟩) (hf : b ≠ f) : Own w f b A n c xs := by
  refine ⟨⟨h.1, ?_⟩, .inr ⟨hA, hf⟩, ?_⟩
  · rcases h.2 with h1 | ⟨g, cap, cur, e, k1, k2⟩
    · exact .inl h1
    · exact .inr ⟨g, cap, cur, e, Nat.zero_le _, k2⟩
  · rcases h.2 with ⟨h1, _⟩ | ⟨g, cap, cur, e, k1, k2, _⟩
    · injection h1 with e1
      rw [hA] at e1; cases e1
    · injection e with e1
      rw [hA] at e1
      injection e1 with e1
      injection e1 with e1 _
      subst e1
      exact (Array.getElem?_eq_some_iff.1 k2).1
theorem sp_grown {w w' : World} {row : Option Nat} {X : List Nat} (h : w.grownBy w' row) (hx : ∀ k, row = some k → k ∈ X) : SpX X w w' :=
  ⟨h.os, h.tape, h.output, h.size, fun k hk hn => h.block k hk (fun e => hn (hx k e.symm))⟩
/-- one more: the run -/
theorem Own.run1 {w : World} {f b n c : Nat} {A : Option Addr} {xs : List Int} (h : Own w f b A n c xs) (hf : f < w.heap.size) (hn2 : n ≤ 1000000) (y : Int) (g : Nat) (eg : w.heap.size = g) :
    ∃ b' c' w', (Builtin.append_ #[32, 32] 32 #[.slice A n c, .slice (some ⟨g, 0, none⟩) 1 1]).run Try.prog (w.alloc (.cells #[.int .i64 y] 3)) = .ok (.slice (some ⟨b', 0, none⟩) (n + 1) c') w' ∧ Own w' f b' (some ⟨b', 0, none⟩) (n + 1) c' (xs ++ [y]) ∧ (∀ X, (b ≠ f → b ∈ X) → SpX X w w') ∧ ((b' = b ∧ b ≠ f) ∨ w.heap.size ≤ b') := by
  subst eg
  obtain ⟨i0, hi, hz0, hz1, hz2⟩ := info_parts infoI2
  have hB : Below w.heap.size w (w.alloc (.cells #[.int .i64 y] 3)) := (Below.refl _ _).alloc (Nat.le_refl _) _
  obtain ⟨v', w4, hrun, hown4, hgrow4, _, hat⟩ := run_append_own_at (P := Try.prog) (w.alloc (.cells #[.int .i64 y] 3)) 0 32 32 3 i0 (.int .i64 0) 1 8 Try.underlying32 hi hz0 hz1 hz2 rfl (by decide) (.slice A n c) n _ ((h.on hB).own) ⟨w.heap.size, 0, none⟩ 1 1 [Value.int .i64 y] rfl (cell_one_new _ _ _) (by simp [Value.oneCell']) (by unfold maxLen; omega) (by omega) (by omega)
  obtain ⟨A', c', rfl⟩ := own_form hown4
  have hA' : ∃ b', A' = some ⟨b', 0, none⟩ := by
    rcases hown4.2 with ⟨_, e⟩ | ⟨b', cap, cur, e, _⟩
    · omega
    · injection e with e1
      exact ⟨b', e1⟩
  obtain ⟨b', rfl⟩ := hA'
  have hb' : (b' = b ∧ b ≠ f) ∨ w.heap.size < b' := by
    rcases hat with e | e
    · rcases h.pl with ⟨e2, _⟩ | ⟨e2, e3⟩
      · rw [e2] at e; simp [Value.ownBlock] at e
      · rw [e2] at e; simp [Value.ownBlock] at e
        exact .inl ⟨e, e3⟩
    · simp [Value.ownBlock] at e
      exact .inr (by omega)
  refine ⟨b', c', w4, hrun, own_of (by rw [List.map_append]; exact hown4) b' rfl (by rcases hb' with ⟨e, e2⟩ | e <;> omega), fun X hX => (SpX.of_below hB).trans (sp_grown hgrow4 fun k e => ?_), by omega⟩
  rcases h.pl with ⟨e2, _⟩ | ⟨e2, e3⟩
  · rw [e2] at e; simp [Value.ownBlock] at e
  · rw [e2] at e; simp [Value.ownBlock] at e
    exact e ▸ hX e3
/-- a list like it, in memory of its own -/
def RetCopy (w : World) (xs : List Int) (e : Ending) (w' : World) : Prop := ∃ b, e = .returned (.slice (some ⟨b, 0, none⟩) xs.length xs.length) ∧ RowAt w' b 3 (xs.map (Value.int .i64)).toArray ∧ w.heap.size ≤ b ∧ Below w.heap.size w w'
set_option maxRecDepth 100000 in
set_option maxHeartbeats 2000000 in
theorem copied_any (A : Option Addr) (c n : Nat) (xs : List Int) (w : World) (hn : xs.length = n) (h : IS w w.heap.size A xs) (h1 : 1 ≤ n) (h2 : n ≤ 4096) :
    Calls Try.prog 36 #[.slice A n c] w (RetCopy w xs) := by
  subst hn
  obtain ⟨b0, off, rfl, _, _⟩ := h 0 _ (List.getElem?_eq_getElem (by omega))
  have hm := make_run xs.length h2
  have hB : Below w.heap.size w (w.alloc (.cells (madeCells #[.int .i64 0] xs.length) 3)) := (Below.refl _ _).alloc (Nat.le_refl _) _
  obtain ⟨cs, ecs⟩ : ∃ cs, cs = xs.map (Value.int .i64) := ⟨_, rfl⟩
  have hlen : cs.length = xs.length := by rw [ecs, List.length_map]
  have hrow := RowAt.new w 3 (madeCells #[.int .i64 0] xs.length)
  have hsrc : ∀ j v, cs[j]? = some v → (w.alloc (.cells (madeCells #[.int .i64 0] xs.length) 3)).cell? ((⟨b0, off, none⟩ : Addr).add j) = some v := by
    intro j v hj
    rw [ecs, List.getElem?_map] at hj
    cases hy : xs[j]? with
    | none => rw [hy] at hj; cases hj
    | some y =>
      rw [hy] at hj
      injection hj with hj
      subst hj
      obtain ⟨b2, off2, e, hb2, hc2⟩ := (h.below hB) j y hy
      injection e with e
      injection e with e1 e2
      subst e1 e2
      have ha : (⟨b0, off, none⟩ : Addr).add j = ⟨b0, off + j, none⟩ := by unfold Addr.add; split <;> simp_all
      rw [ha]
      exact hc2
  have hsz : (madeCells #[Value.int .i64 0] xs.length).size = xs.length := by
    have := congrArg List.length (toList_madeCells_one (Value.int .i64 0) xs.length)
    simpa using this
  have hrun := run_copy_row (P := Try.prog) (w.alloc (.cells (madeCells #[.int .i64 0] xs.length) 3)) 32 32 3 3 w.heap.size 0 xs.length xs.length ⟨b0, off, none⟩ xs.length c _ 3 cs Try.underlying32 (by kernel_rfl) hrow (by rw [hlen]; exact (Nat.min_self _).symm) hsrc (by omega) (by rw [ecs]; simp [Value.oneCell'])
  have hfin : ((madeCells #[Value.int .i64 0] xs.length).toList.take 0 ++ cs ++ (madeCells #[Value.int .i64 0] xs.length).toList.drop (0 + cs.length)).toArray = cs.toArray := by
    rw [List.drop_eq_nil_of_le (by rw [Array.length_toList]; omega)]
    simp
  rw [hfin] at hrun
  have Hfin := Lib.hid (setRow_heap (w.alloc (.cells (madeCells #[.int .i64 0] xs.length) 3)) w.heap.size _ cs.toArray 3 _ hrow)
  have HB := Lib.hid (below_setRow hB (Nat.le_refl _) cs.toArray)
  have Hcs := Lib.hid ecs
  clear hsrc hsz hfin h hrow ecs hB
  go_enter Try.func36, Try.ntmps36
  go_wp2
  go_ret
  exact ⟨_, rfl, by rw [← Hcs.out]; exact Hfin.out, Nat.le_refl _, HB.out⟩
theorem wp_append_run {P : Program} {o : Oper} {a : Act} {w : World} {K : Act → World → Prop} {Q : Exit → Act → World → Prop} (s x : Operand) (t : TypeId) (ho : o.op = .call { callee := .builtin .append, args := #[s, x], argTypes := #[t, t] }) (v y : Value) (hs : a.eval s = v) (hx : a.eval x = y) (v' : Value) (w' : World)
    (hr : (Builtin.append_ #[t, t] o.type #[v, y]).run P w = .ok v' w') (hK : K (a.put o.dst v') w') : o.wp P a w K Q := by
  unfold Oper.wp execOp
  simp only [ho, resolve, invoke, builtin, Sem.run_bind, Sem.run_pure, Result.andThen_ok, List.map_toArray, List.map_cons, List.map_nil, hs, hx, hr]
  exact hK
/-- the block of one's own list, if there is one -/
def Ow (f b : Nat) : List Nat := if b = f then [] else [b]
theorem ow_in {f b : Nat} (h : b ≠ f) : b ∈ Ow f b := by simp [Ow, h]
theorem ow_not (f b : Nat) : f ∉ Ow f b := by
  unfold Ow
  split <;> simp <;> omega
theorem ow_only {f b k : Nat} (h : k ∈ Ow f b) : k = b := by
  unfold Ow at h
  split at h <;> simp at h
  exact h
theorem ow_ne {f b k : Nat} (h : k ∈ Ow f b) : b ≠ f := by
  unfold Ow at h
  split at h
  · simp at h
  · assumption
theorem slot_off {c : Cf} {k : Int} (h : c.sl ≤ k) : slotI c k = -1 := by
  unfold slotI cellI wiB
  rw [if_neg (by simp; omega)]
end Go.Proofs.Ytalmadeibnekoaa
