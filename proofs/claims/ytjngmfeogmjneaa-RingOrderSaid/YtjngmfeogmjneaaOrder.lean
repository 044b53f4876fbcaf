/- The law RingOrder, walked. -/
import Derived.Test.YtjngmfeogmjneaaLeft
import Derived.Test.YtjngmfeogmjneaaLists
import Derived.Deep.AppendLies
namespace Go.Proofs.Ytjngmfeogmjneaa
open Go.RowKit
attribute [local go_sem ↓] Go.wp_at_zero Go.wp_at_succ

/-- a ring, and two lists of numbers beside it, all made since w0 -/
structure Ord (w0 w : World) (g gb room : Nat) (vi vo : Value) (a b q : List Int) : Prop where
  mine : Mine w0 w g gb room q
  hin : w.ownsRow w0.heap.size 3 1 vi a.length (a.map vI)
  hout : w.ownsRow w0.heap.size 3 1 vo b.length (b.map vI)
  s1 : ∀ k, vi.ownBlock = some k → k ≠ g ∧ k ≠ gb
  s2 : ∀ k, vo.ownBlock = some k → k ≠ g ∧ k ≠ gb
  s3 : ∀ k, vi.ownBlock = some k → vo.ownBlock ≠ some k
theorem Ord.swap {w0 w : World} {g gb room : Nat} {vi vo : Value} {a b q : List Int} (h : Ord w0 w g gb room vi vo a b q) : Ord w0 w g gb room vo vi b a q :=
  ⟨h.mine, h.hout, h.hin, h.s2, h.s1, fun k hk e => h.s3 k e hk⟩
theorem own_block {w w' : World} {base e size n : Nat} {v : Value} {xs : List Value} (h : w.ownsRow base e size v n xs) (hb : ∀ k, v.ownBlock = some k → w'.heap[k]? = w.heap[k]?) : w'.ownsRow base e size v n xs := by
  refine ⟨h.1, ?_⟩
  rcases h.2 with h1 | ⟨g, cap, cur, rfl, h2, h3, h4⟩
  · exact .inl h1
  · exact .inr ⟨g, cap, cur, rfl, h2, (hb g rfl).trans h3, h4⟩
theorem Ord.turn {w0 w w' : World} {g gb room : Nat} {vi vo : Value} {a b q q' : List Int} (h : Ord w0 w g gb room vi vo a b q) (k : TurnsL w g gb room q' w') : ∃ gb', Ord w0 w' g gb' room vi vo a b q' := by
  obtain ⟨gb', h1, h2, h3⟩ := k
  have z := h.mine.below.size
  have z2 := h.mine.gb0
  refine ⟨gb', ⟨h1, h.mine.g0, by omega, Sp.below h.mine.below h2 z h.mine.g0 z2⟩, own_block h.hin fun k hk => h2.block k (h.hin.lt k hk).2 (h.s1 k hk).1 (h.s1 k hk).2,
    own_block h.hout fun k hk => h2.block k (h.hout.lt k hk).2 (h.s2 k hk).1 (h.s2 k hk).2, fun k hk => ⟨(h.s1 k hk).1, ?_⟩, fun k hk => ⟨(h.s2 k hk).1, ?_⟩, h.s3⟩
  · have := (h.hin.lt k hk).2; have := (h.s1 k hk).2; omega
  · have := (h.hout.lt k hk).2; have := (h.s2 k hk).2; omega
theorem Ord.appIn {w0 w w4 : World} {g gb room G cap : Nat} {vi vo : Value} {a b q : List Int} {x : Int} {o : Obj} (h : Ord w0 w g gb room vi vo a b q)
    (hown : w4.ownsRow w0.heap.size 3 1 (.slice (some ⟨G, 0, none⟩) (a.length + 1) cap) (a.length + 1) (a.map vI ++ [vI x])) (hgrow : (w.alloc o).grownBy w4 vi.ownBlock) (hG : vi.ownBlock = some G ∨ G = w.heap.size + 1) :
    Ord w0 w4 g gb room (.slice (some ⟨G, 0, none⟩) (a.length + 1) cap) vo (a ++ [x]) b q := by
  have hz : w.heap.size ≤ w4.heap.size := by have := hgrow.size; simp at this; omega
  have hk : ∀ k, k < w.heap.size → vi.ownBlock ≠ some k → w4.heap[k]? = w.heap[k]? := fun k hk hv => (hgrow.block k (by simp; omega) (fun e => hv e.symm)).trans (Below.heap_alloc w o k hk)
  have hg := h.mine.line.lt
  refine ⟨⟨h.mine.line.of_blocks hz (hk g hg.1 fun e => (h.s1 g e).1 rfl) (hk gb hg.2 fun e => (h.s1 gb e).2 rfl), h.mine.g0, h.mine.gb0, ?_⟩, ?_, own_block h.hout fun k e => hk k (h.hout.lt k e).2 fun e2 => h.s3 k e2 e, fun k e => ?_, h.s2, fun k e => ?_⟩
  · exact (h.mine.below.alloc h.mine.below.size o).grown hgrow (by have := h.mine.below.size; simp; omega) fun j e => (h.hin.lt j e).1
  · rw [List.length_append, List.map_append]
    exact hown
  · obtain rfl : G = k := by simpa [Value.ownBlock] using e
    rcases hG with hG | hG
    · exact h.s1 G hG
    · constructor <;> omega
  · obtain rfl : G = k := by simpa [Value.ownBlock] using e
    rcases hG with hG | hG
    · exact h.s3 G hG
    · intro e2
      have := (h.hout.lt _ e2).2
      omega
theorem Ord.start {w0 w : World} {g gb room : Nat} {q : List Int} (h : Mine w0 w g gb room q) : Ord w0 w g gb room (.slice none 0 0) (.slice none 0 0) [] [] q :=
  ⟨h, World.ownsRow_nil _ _ _ _, World.ownsRow_nil _ _ _ _, fun k hk => by simp [Value.ownBlock] at hk, fun k hk => by simp [Value.ownBlock] at hk, fun k hk => by simp [Value.ownBlock] at hk⟩

set_option maxRecDepth 100000 in
set_option maxHeartbeats 1000000 in
theorem order_long (room : Int) (A A2 : Option Addr) (n c n2 c2 : Nat) (w : World) (hl : 80 < n) :
    Calls Try.prog 4 #[.int .i64 room, .slice A n c, .slice A2 n2 c2] w (fun e w' => e = .returned (.bool true) ∧ Below w.heap.size w w') := by
  go_enter Try.func4, Try.ntmps4
  go_wp2_with fail
  refine (awake_any _).mono ?_
  rintro e w1 ⟨rfl, hB1⟩
  go_wp2_with fail
  go_ret
  exact ⟨rfl, hB1⟩
theorem bool_some {xs : List Bool} {k : Nat} (h : k < xs.length) : ∃ x, xs[k]? = some x := ⟨xs[k], by simp⟩
set_option maxRecDepth 100000 in
set_option maxHeartbeats 4000000 in
theorem order_go (room : Int) (A A2 : Option Addr) (c c2 : Nat) (l : List Int) (ps : List Bool) (w : World) (hl : l.length ≤ 80) (hI : IS w w.heap.size A l) (hP : BS w w.heap.size A2 ps) :
    Calls Try.prog 4 #[.int .i64 room, .slice A l.length c, .slice A2 ps.length c2] w (fun e w' => e = .returned (.bool true) ∧ Below w.heap.size w w') := by
  obtain ⟨i0, hi, hz0, hz1, hz2⟩ := info_parts infoI2
  go_enter Try.func4, Try.ntmps4
  go_wp2_with fail
  refine (awake_any _).mono ?_
  rintro e w1 ⟨rfl, hB1⟩
  go_wp2_with fail
  refine (new_mine _ w _ hB1).mono ?_
  rintro e w2 ⟨g, rfl, hM⟩
  clear hB1
  obtain ⟨R, eR⟩ : ∃ R, R = roomN room := ⟨_, rfl⟩
  rw [← eR] at hM
  clear eR
  have hO := Ord.start hM
  clear hM
  go_wp2_with fail
  go_loopw [9, 10, 11] (fun vi vo i wr => ∃ (k gb : Nat) (a b q : List Int), k ≤ l.length ∧ i = .int .i64 k ∧ a.length ≤ k ∧ a = b ++ q ∧ Ord w wr g gb R vi vo a b q) (fun _ _ i _ => l.length - (intOf i).toNat)
  case atStart => exact ⟨0, g, [], [], [], Nat.zero_le _, rfl, Nat.zero_le _, rfl, hO⟩
  case round =>
    obtain ⟨k, gb, a, b, q, hk, rfl, hak, hab, hO2⟩ := hrel
    clear hO
    have Hab := Lib.hid hab
    clear hab
    by_cases hlt : k < l.length
    · obtain ⟨x, hx⟩ := num_some hlt
      obtain ⟨bx, off, rfl, _, hd1⟩ := (hI.below hO2.mine.below) k _ hx
      have Hx := Lib.hid hx
      clear hx
      have hk1 : (k : Int) < (l.length : Int) := by omega
      obtain ⟨A3, c3, rfl⟩ := own_form hO2.hin
      obtain ⟨A4, c4, rfl⟩ := own_form hO2.hout
      go_wp2_with fail
      refine (push_line g gb R x _ _ hO2.mine.line).mono ?_
      by_cases hq : q.length < R
      · rw [pushL_room hq, decide_eq_true hq]
        rintro e w3 ⟨rfl, hT⟩
        obtain ⟨gb3, hO3⟩ := hO2.turn hT
        clear hT hO2
        obtain ⟨_, _, hA, _, hd2⟩ := (hI.below hO3.mine.below) k _ Hx.out
        injection hA with hA
        injection hA with hA1 hA2
        subst hA1 hA2
        clear hd1
        have hz3 := hO3.mine.below.size
        go_wp2_with (first
          | (at_builtin; refine wpList_append_lies _ rfl _ _ 22 rfl w.heap.size 3 i0 (.int .i64 0) 1 8 Try.underlying22 hi hz0 hz1 hz2 rfl (by decide) _ _ _ rfl (hO3.hin.alloc _) ⟨w3.heap.size, 0, none⟩ 1 1 [vI x] rfl rfl ?c1 ?c2 (by decide) ?c3 ?c4 ?c5 _ (World.size_alloc _ _) ?_))
        case c1 => exact cell_one_new _ _ _
        case c2 => simp [Value.oneCell']
        case c3 => unfold maxLen; omega
        case c4 => omega
        case c5 => simp; omega
        intro G cap w4 hown4 hgrow4 hG4 _
        have hO4 := hO3.appIn hown4 hgrow4 hG4
        clear hown4 hgrow4 hG4 hO3 hd2
        have Hab1 := Lib.hid (show a ++ [x] = b ++ (q ++ [x]) by rw [Hab.out, List.append_assoc])
        obtain ⟨a1, ea⟩ : ∃ a1, a1 = a ++ [x] := ⟨_, rfl⟩
        obtain ⟨q1, eq⟩ : ∃ q1, q1 = q ++ [x] := ⟨_, rfl⟩
        have ea2 : a.length + 1 = a1.length := by rw [ea, List.length_append]; rfl
        rw [← ea, ← eq] at hO4 Hab1
        rw [ea2] at hO4 ⊢
        have hak1 : a1.length ≤ k + 1 := by omega
        clear ea ea2 eq Hab hak
        obtain ⟨A5, eA5⟩ : ∃ A5 : Option Addr, A5 = some ⟨G, 0, none⟩ := ⟨_, rfl⟩
        obtain ⟨c5, ec5⟩ : ∃ c5, c5 = cap := ⟨_, rfl⟩
        rw [← eA5, ← ec5] at hO4 ⊢
        clear eA5 ec5
        by_cases hp : k < ps.length
        · obtain ⟨pb, hpb⟩ := bool_some hp
          obtain ⟨bp, offp, rfl, _, hdp⟩ := (hP.below hO4.mine.below) k _ hpb
          have hp1 : (k : Int) < (ps.length : Int) := by omega
          clear hpb
          cases pb with
          | false =>
            go_wp2_with fail
            have hle : ¬ (R : Int) < (q1.length : Int) := by have := hO4.mine.line.le; rw [List.length_map] at this; omega
            have hde : (a1.length : Int) - (b.length : Int) = (q1.length : Int) := by rw [Hab1.out, List.length_append]; omega
            have hbz : b.length ≤ a1.length := by rw [Hab1.out, List.length_append]; omega
            refine (len_line g gb3 R q1 _ hO4.mine.line).mono ?_
            rintro e w7 ⟨rfl, rfl⟩
            go_wp2_with fail
            refine (room_line g gb3 R q1 _ hO4.mine.line).mono ?_
            rintro e w8 ⟨rfl, rfl⟩
            go_wp2_with fail
            refine (len_line g gb3 R q1 _ hO4.mine.line).mono ?_
            rintro e w9 ⟨rfl, rfl⟩
            go_wp2_with fail
            go_roundw
            case rel => exact ⟨k + 1, gb3, a1, b, q1, by omega, by go_num, by omega, Hab1.out, hO4⟩
            case measure => simp [intOf]; omega
          | true =>
            go_wp2_with fail
            refine (pop_line g gb3 R q1 _ hO4.mine.line).mono ?_
            cases q1 with
            | nil =>
              rintro e w5 ⟨rfl, hT⟩
              rw [List.tail_nil] at hT
              obtain ⟨gb5, hO5⟩ := hO4.turn hT
              clear hT hO4 hdp
              go_wp2_with fail
              have hle : ¬ (R : Int) < (([] : List Int).length : Int) := by have := hO5.mine.line.le; rw [List.length_map] at this; omega
              have hde : (a1.length : Int) - (b.length : Int) = (([] : List Int).length : Int) := by rw [Hab1.out, List.length_append]; omega
              have hbz : b.length ≤ a1.length := by rw [Hab1.out, List.length_append]; omega
              refine (len_line g gb5 R ([] : List Int) _ hO5.mine.line).mono ?_
              rintro e w7 ⟨rfl, rfl⟩
              go_wp2_with fail
              refine (room_line g gb5 R ([] : List Int) _ hO5.mine.line).mono ?_
              rintro e w8 ⟨rfl, rfl⟩
              go_wp2_with fail
              refine (len_line g gb5 R ([] : List Int) _ hO5.mine.line).mono ?_
              rintro e w9 ⟨rfl, rfl⟩
              go_wp2_with fail
              go_roundw
              case rel => exact ⟨k + 1, gb5, a1, b, ([] : List Int), by omega, by go_num, by omega, Hab1.out, hO5⟩
              case measure => simp [intOf]; omega
            | cons y q2 =>
              rintro e w5 ⟨rfl, hT⟩
              rw [List.tail_cons] at hT
              obtain ⟨gb5, hO5⟩ := hO4.turn hT
              clear hT hO4 hdp
              have hz5 := hO5.mine.below.size
              have hb80 : b.length ≤ 81 := by have := Hab1.out; have := congrArg List.length this; rw [List.length_append] at this; omega
              go_wp2_with (first
                | (at_builtin; refine wpList_append_lies _ rfl _ _ 22 rfl w.heap.size 3 i0 (.int .i64 0) 1 8 Try.underlying22 hi hz0 hz1 hz2 rfl (by decide) _ _ _ rfl (hO5.hout.alloc _) ⟨w5.heap.size, 0, none⟩ 1 1 [vI y] rfl rfl ?c1 ?c2 (by decide) ?c3 ?c4 ?c5 _ (World.size_alloc _ _) ?_))
              case c1 => exact cell_one_new _ _ _
              case c2 => simp [Value.oneCell']
              case c3 => unfold maxLen; omega
              case c4 => omega
              case c5 => simp; omega
              intro G6 cap6 w6 hown6 hgrow6 hG6 _
              have hO6 := (hO5.swap.appIn hown6 hgrow6 hG6).swap
              have Hab2 := Lib.hid (show a1 = (b ++ [y]) ++ q2 by rw [Hab1.out, List.append_assoc]; rfl)
              clear hown6 hgrow6 hG6 hO5
              obtain ⟨b1, eb1⟩ : ∃ b1, b1 = b ++ [y] := ⟨_, rfl⟩
              have eb2 : b.length + 1 = b1.length := by rw [eb1, List.length_append]; rfl
              rw [← eb1] at hO6 Hab2
              rw [eb2] at hO6 ⊢
              clear eb1 eb2 Hab1
              go_wp2_with fail
              have hle : ¬ (R : Int) < (q2.length : Int) := by have := hO6.mine.line.le; rw [List.length_map] at this; omega
              have hde : (a1.length : Int) - (b1.length : Int) = (q2.length : Int) := by rw [Hab2.out, List.length_append]; omega
              have hbz : b1.length ≤ a1.length := by rw [Hab2.out, List.length_append]; omega
              refine (len_line g gb5 R q2 _ hO6.mine.line).mono ?_
              rintro e w7 ⟨rfl, rfl⟩
              go_wp2_with fail
              refine (room_line g gb5 R q2 _ hO6.mine.line).mono ?_
              rintro e w8 ⟨rfl, rfl⟩
              go_wp2_with fail
              refine (len_line g gb5 R q2 _ hO6.mine.line).mono ?_
              rintro e w9 ⟨rfl, rfl⟩
              go_wp2_with fail
              go_roundw
              case rel => exact ⟨k + 1, gb5, a1, b1, q2, by omega, by go_num, by omega, Hab2.out, hO6⟩
              case measure => simp [intOf]; omega
        · have hp1 : ¬ (k : Int) < (ps.length : Int) := by omega
          go_wp2_with fail
          have hle : ¬ (R : Int) < (q1.length : Int) := by have := hO4.mine.line.le; rw [List.length_map] at this; omega
          have hde : (a1.length : Int) - (b.length : Int) = (q1.length : Int) := by rw [Hab1.out, List.length_append]; omega
          have hbz : b.length ≤ a1.length := by rw [Hab1.out, List.length_append]; omega
          refine (len_line g gb3 R q1 _ hO4.mine.line).mono ?_
          rintro e w7 ⟨rfl, rfl⟩
          go_wp2_with fail
          refine (room_line g gb3 R q1 _ hO4.mine.line).mono ?_
          rintro e w8 ⟨rfl, rfl⟩
          go_wp2_with fail
          refine (len_line g gb3 R q1 _ hO4.mine.line).mono ?_
          rintro e w9 ⟨rfl, rfl⟩
          go_wp2_with fail
          go_roundw
          case rel => exact ⟨k + 1, gb3, a1, b, q1, by omega, by go_num, by omega, Hab1.out, hO4⟩
          case measure => simp [intOf]; omega
      · rw [pushL_full hq, decide_eq_false hq]
        rintro e w3 ⟨rfl, hT⟩
        obtain ⟨gb3, hO4⟩ := hO2.turn hT
        clear hT hO2 hd1
        have Hab1 := Lib.hid Hab.out
        obtain ⟨a1, ea⟩ : ∃ a1, a1 = a := ⟨_, rfl⟩
        obtain ⟨q1, eq⟩ : ∃ q1, q1 = q := ⟨_, rfl⟩
        rw [← ea, ← eq] at hO4 Hab1
        rw [← ea]
        have hak1 : a1.length ≤ k + 1 := by rw [ea]; omega
        clear ea eq Hab hak
        by_cases hp : k < ps.length
        · obtain ⟨pb, hpb⟩ := bool_some hp
          obtain ⟨bp, offp, rfl, _, hdp⟩ := (hP.below hO4.mine.below) k _ hpb
          have hp1 : (k : Int) < (ps.length : Int) := by omega
          clear hpb
          cases pb with
          | false =>
            go_wp2_with fail
            have hle : ¬ (R : Int) < (q1.length : Int) := by have := hO4.mine.line.le; rw [List.length_map] at this; omega
            have hde : (a1.length : Int) - (b.length : Int) = (q1.length : Int) := by rw [Hab1.out, List.length_append]; omega
            have hbz : b.length ≤ a1.length := by rw [Hab1.out, List.length_append]; omega
            refine (len_line g gb3 R q1 _ hO4.mine.line).mono ?_
            rintro e w7 ⟨rfl, rfl⟩
            go_wp2_with fail
            refine (room_line g gb3 R q1 _ hO4.mine.line).mono ?_
            rintro e w8 ⟨rfl, rfl⟩
            go_wp2_with fail
            refine (len_line g gb3 R q1 _ hO4.mine.line).mono ?_
            rintro e w9 ⟨rfl, rfl⟩
            go_wp2_with fail
            go_roundw
            case rel => exact ⟨k + 1, gb3, a1, b, q1, by omega, by go_num, by omega, Hab1.out, hO4⟩
            case measure => simp [intOf]; omega
          | true =>
            go_wp2_with fail
            refine (pop_line g gb3 R q1 _ hO4.mine.line).mono ?_
            cases q1 with
            | nil =>
              rintro e w5 ⟨rfl, hT⟩
              rw [List.tail_nil] at hT
              obtain ⟨gb5, hO5⟩ := hO4.turn hT
              clear hT hO4 hdp
              go_wp2_with fail
              have hle : ¬ (R : Int) < (([] : List Int).length : Int) := by have := hO5.mine.line.le; rw [List.length_map] at this; omega
              have hde : (a1.length : Int) - (b.length : Int) = (([] : List Int).length : Int) := by rw [Hab1.out, List.length_append]; omega
              have hbz : b.length ≤ a1.length := by rw [Hab1.out, List.length_append]; omega
              refine (len_line g gb5 R ([] : List Int) _ hO5.mine.line).mono ?_
              rintro e w7 ⟨rfl, rfl⟩
              go_wp2_with fail
              refine (room_line g gb5 R ([] : List Int) _ hO5.mine.line).mono ?_
              rintro e w8 ⟨rfl, rfl⟩
              go_wp2_with fail
              refine (len_line g gb5 R ([] : List Int) _ hO5.mine.line).mono ?_
              rintro e w9 ⟨rfl, rfl⟩
              go_wp2_with fail
              go_roundw
              case rel => exact ⟨k + 1, gb5, a1, b, ([] : List Int), by omega, by go_num, by omega, Hab1.out, hO5⟩
              case measure => simp [intOf]; omega
            | cons y q2 =>
              rintro e w5 ⟨rfl, hT⟩
              rw [List.tail_cons] at hT
              obtain ⟨gb5, hO5⟩ := hO4.turn hT
              clear hT hO4 hdp
              have hz5 := hO5.mine.below.size
              have hb80 : b.length ≤ 81 := by have := Hab1.out; have := congrArg List.length this; rw [List.length_append] at this; omega
              go_wp2_with (first
                | (at_builtin; refine wpList_append_lies _ rfl _ _ 22 rfl w.heap.size 3 i0 (.int .i64 0) 1 8 Try.underlying22 hi hz0 hz1 hz2 rfl (by decide) _ _ _ rfl (hO5.hout.alloc _) ⟨w5.heap.size, 0, none⟩ 1 1 [vI y] rfl rfl ?c1 ?c2 (by decide) ?c3 ?c4 ?c5 _ (World.size_alloc _ _) ?_))
              case c1 => exact cell_one_new _ _ _
              case c2 => simp [Value.oneCell']
              case c3 => unfold maxLen; omega
              case c4 => omega
              case c5 => simp; omega
              intro G6 cap6 w6 hown6 hgrow6 hG6 _
              have hO6 := (hO5.swap.appIn hown6 hgrow6 hG6).swap
              have Hab2 := Lib.hid (show a1 = (b ++ [y]) ++ q2 by rw [Hab1.out, List.append_assoc]; rfl)
              clear hown6 hgrow6 hG6 hO5
              obtain ⟨b1, eb1⟩ : ∃ b1, b1 = b ++ [y] := ⟨_, rfl⟩
              have eb2 : b.length + 1 = b1.length := by rw [eb1, List.length_append]; rfl
              rw [← eb1] at hO6 Hab2
              rw [eb2] at hO6 ⊢
              clear eb1 eb2 Hab1
              go_wp2_with fail
              have hle : ¬ (R : Int) < (q2.length : Int) := by have := hO6.mine.line.le; rw [List.length_map] at this; omega
              have hde : (a1.length : Int) - (b1.length : Int) = (q2.length : Int) := by rw [Hab2.out, List.length_append]; omega
              have hbz : b1.length ≤ a1.length := by rw [Hab2.out, List.length_append]; omega
              refine (len_line g gb5 R q2 _ hO6.mine.line).mono ?_
              rintro e w7 ⟨rfl, rfl⟩
              go_wp2_with fail
              refine (room_line g gb5 R q2 _ hO6.mine.line).mono ?_
              rintro e w8 ⟨rfl, rfl⟩
              go_wp2_with fail
              refine (len_line g gb5 R q2 _ hO6.mine.line).mono ?_
              rintro e w9 ⟨rfl, rfl⟩
              go_wp2_with fail
              go_roundw
              case rel => exact ⟨k + 1, gb5, a1, b1, q2, by omega, by go_num, by omega, Hab2.out, hO6⟩
              case measure => simp [intOf]; omega
        · have hp1 : ¬ (k : Int) < (ps.length : Int) := by omega
          go_wp2_with fail
          have hle : ¬ (R : Int) < (q1.length : Int) := by have := hO4.mine.line.le; rw [List.length_map] at this; omega
          have hde : (a1.length : Int) - (b.length : Int) = (q1.length : Int) := by rw [Hab1.out, List.length_append]; omega
          have hbz : b.length ≤ a1.length := by rw [Hab1.out, List.length_append]; omega
          refine (len_line g gb3 R q1 _ hO4.mine.line).mono ?_
          rintro e w7 ⟨rfl, rfl⟩
          go_wp2_with fail
          refine (room_line g gb3 R q1 _ hO4.mine.line).mono ?_
          rintro e w8 ⟨rfl, rfl⟩
          go_wp2_with fail
          refine (len_line g gb3 R q1 _ hO4.mine.line).mono ?_
          rintro e w9 ⟨rfl, rfl⟩
          go_wp2_with fail
          go_roundw
          case rel => exact ⟨k + 1, gb3, a1, b, q1, by omega, by go_num, by omega, Hab1.out, hO4⟩
          case measure => simp [intOf]; omega
    · obtain rfl : k = l.length := by omega
      have hk1 : ¬ (l.length : Int) < (l.length : Int) := by omega
      have hq80 : q.length ≤ l.length := by have := congrArg List.length Hab.out; rw [List.length_append] at this; omega
      obtain ⟨A3, c3, rfl⟩ := own_form hO2.hin
      go_wp2_with fail
      go_loopw [10, 14] (fun vo i wr => ∃ (k gb : Nat) (b q : List Int), k ≤ l.length ∧ i = .int .i64 k ∧ q.length ≤ l.length - k ∧ a = b ++ q ∧ Ord w wr g gb R (.slice A3 a.length c3) vo a b q) (fun _ i _ => l.length - (intOf i).toNat)
      case atStart => exact ⟨0, gb, b, q, Nat.zero_le _, rfl, by omega, Hab.out, hO2⟩
      case round =>
        obtain ⟨k, gb4, b1, q1, hk4, rfl, hq1, hab1, hO4⟩ := hrel
        have Hab1 := Lib.hid hab1
        clear hab1 hO2 Hab hq80 hk1
        obtain ⟨A4, c4, rfl⟩ := own_form hO4.hout
        by_cases hlt : k < l.length
        · have hk1 : (k : Int) < (l.length : Int) := by omega
          go_wp2_with fail
          refine (pop_line g gb4 R q1 _ hO4.mine.line).mono ?_
          cases q1 with
          | nil =>
            rintro e w5 ⟨rfl, hT⟩
            rw [List.tail_nil] at hT
            obtain ⟨gb5, hO5⟩ := hO4.turn hT
            clear hT hO4
            go_wp2_with fail
            go_roundw
            case rel => exact ⟨k + 1, gb5, b1, [], by omega, by go_num, by simp, Hab1.out, hO5⟩
            case measure => simp [intOf]; omega
          | cons y q2 =>
            rintro e w5 ⟨rfl, hT⟩
            rw [List.tail_cons] at hT
            obtain ⟨gb5, hO5⟩ := hO4.turn hT
            clear hT hO4
            have hz5 := hO5.mine.below.size
            have hb80 : b1.length ≤ 81 := by have := Hab1.out; have := congrArg List.length this; rw [List.length_append] at this; omega
            go_wp2_with (first
              | (at_builtin; refine wpList_append_lies _ rfl _ _ 22 rfl w.heap.size 3 i0 (.int .i64 0) 1 8 Try.underlying22 hi hz0 hz1 hz2 rfl (by decide) _ _ _ rfl (hO5.hout.alloc _) ⟨w5.heap.size, 0, none⟩ 1 1 [vI y] rfl rfl ?c1 ?c2 (by decide) ?c3 ?c4 ?c5 _ (World.size_alloc _ _) ?_))
            case c1 => exact cell_one_new _ _ _
            case c2 => simp [Value.oneCell']
            case c3 => unfold maxLen; omega
            case c4 => omega
            case c5 => simp; omega
            intro G6 cap6 w6 hown6 hgrow6 hG6 _
            have hO6 := (hO5.swap.appIn hown6 hgrow6 hG6).swap
            have Hab2 := Lib.hid (show a = (b1 ++ [y]) ++ q2 by rw [Hab1.out, List.append_assoc]; rfl)
            clear hown6 hgrow6 hG6 hO5
            rw [List.length_cons] at hq1
            go_wp2_with fail
            go_roundw
            case rel => exact ⟨k + 1, gb5, b1 ++ [y], q2, by omega, by go_num, by omega, Hab2.out, hO6⟩
            case measure => simp [intOf]; omega
        · obtain rfl : k = l.length := by omega
          obtain rfl : q1 = [] := List.eq_nil_of_length_eq_zero (by omega)
          have hk1 : ¬ (l.length : Int) < (l.length : Int) := by omega
          go_wp2_with fail
          refine (pop_line g gb4 R [] _ hO4.mine.line).mono ?_
          rintro e w5 ⟨rfl, hT⟩
          rw [List.tail_nil] at hT
          obtain ⟨gb5, hO5⟩ := hO4.turn hT
          clear hT hO4
          go_wp2_with fail
          refine (len_line g gb5 R [] _ hO5.mine.line).mono ?_
          rintro e w7 ⟨rfl, rfl⟩
          obtain ⟨hi1, hi2, hi3⟩ := own_is hO5.hin
          obtain ⟨ho1, ho2, ho3⟩ := own_is hO5.hout
          have Hae := Lib.hid (show a = b1 by rw [Hab1.out, List.append_nil])
          go_wp2_with fail
          refine (ints_same A3 A4 _ c3 _ c4 a b1 _ rfl rfl hi1 ho1 (by omega) Hae.out).mono ?_
          rintro e w8 ⟨rfl, hB8⟩
          go_wp2_with fail
          go_ret
          exact ⟨ret_bool (by simp), (hO5.mine.on hB8).below⟩
theorem order_any (room : Int) (A : Option Addr) (n c : Nat) (l : List Int) (A2 : Option Addr) (n2 c2 : Nat) (ps : List Bool) (w : World) (hn : l.length = n) (_hc : n ≤ c) (hI : IS w w.heap.size A l) (hn2 : ps.length = n2) (_hc2 : n2 ≤ c2) (hP : BS w w.heap.size A2 ps) :
    Calls Try.prog 4 #[.int .i64 room, .slice A n c, .slice A2 n2 c2] w (fun e w' => e = .returned (.bool true) ∧ Below w.heap.size w w') := by
  subst hn hn2
  by_cases hl : 80 < l.length
  · exact order_long room A A2 _ c _ c2 w hl
  · exact order_go room A A2 c c2 l ps w (by omega) hI hP
end Go.Proofs.Ytjngmfeogmjneaa
