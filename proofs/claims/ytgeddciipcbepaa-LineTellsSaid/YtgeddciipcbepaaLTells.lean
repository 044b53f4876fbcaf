/- LineTells: the law answers true, whatever its numbers; nothing that was there changes. -/
import Derived.Test.YtgeddciipcbepaaLHead
import Derived.Test.YtgeddciipcbepaaRef3
namespace Go.Proofs.Ytgeddciipcbepaa
open Go.RowKit
attribute [local go_sem ↓] Go.wp_at_zero Go.wp_at_succ

set_option maxRecDepth 100000 in
set_option maxHeartbeats 1000000 in
theorem ltells_no (q x : Int) (w : World) (h : ¬ Rt q) (hq : q ≤ 9223372036854775807) : Calls Try.prog 3 #[vI q, vI x] w fun e w' => e = .returned (.bool true) ∧ Below w.heap.size w w' := by
  have h2 := fun w => right_no w h
  have h3 := fun w => rright_any q w hq
  rw [decide_eq_false h] at h3
  clear h
  go_enter Try.func3, Try.ntmps3
  go_wp2_with fail
  refine (awake_any w).mono ?_
  rintro e w1 ⟨rfl, hB⟩
  go_wp2_with (first | (go_at_call 10; refine (h3 _).mono ?_; rintro e w2 ⟨rfl, hB2⟩) | (go_at_call 11; refine (h2 _).mono ?_; rintro e w3 ⟨rfl, hB3⟩))
  go_ret
  exact ⟨rfl, bstep (bstep hB hB2) hB3⟩
theorem rlist_line {l : List Int} (w : World) (h : Ok l) : Calls Try.prog 12 #[vI (wd l)] w (RetInts w l) := by
  have h1 := h.hi
  have := rlist_any (wd l) w h.lo (by omega)
  rwa [dl_wd 16 l (Nat.le_succ_of_le h.len) h.rng] at this
/-- a list of n numbers -/
def RetN (w : World) (n : Nat) (xs : List Int) (e : Ending) (w' : World) : Prop := ∃ A c, e = .returned (.slice A n c) ∧ n ≤ c ∧ IS w' w'.heap.size A xs ∧ Below w.heap.size w w'
theorem rof_n (A : Option Addr) (n c : Nat) (xs : List Int) (w : World) (hn : xs.length = n) (hl : n ≤ 1000000) (h : IS w w.heap.size A xs) : Calls Try.prog 15 #[.slice A n c] w fun e w' => e = .returned (ofV xs) ∧ Below w.heap.size w w' := by
  subst hn
  exact rof_any A c xs w hl h
theorem word_n (A : Option Addr) (n c : Nat) (xs : List Int) (w : World) (hn : xs.length = n) (h : IS w w.heap.size A xs) (hO : Ok xs) : Calls Try.prog 23 #[.slice A n c] w fun e w' => e = .returned (vI (wd xs)) ∧ Below w.heap.size w w' := by
  subst hn
  exact word_any A c xs w h hO
theorem ints_n (A A2 : Option Addr) (n n2 c c2 : Nat) (xs : List Int) (w : World) (hn : xs.length = n) (hn2 : xs.length = n2) (hl : n ≤ 1000000) (h : IS w w.heap.size A xs) (h2 : IS w w.heap.size A2 xs) : Calls Try.prog 19 #[.slice A n c, .slice A2 n2 c2] w fun e w' => e = .returned (.bool true) ∧ Below w.heap.size w w' := by
  subst hn
  subst hn2
  have := ints_any A A2 c c2 xs xs w h h2 hl
  rwa [decide_eq_true rfl] at this
theorem is_tail {w : World} {M b off : Nat} {l t : List Int} (h : IS w M (some ⟨b, off, none⟩) l) (ht : ∀ (k : Nat) x, t[k]? = some x → l[k + 1]? = some x) : IS w M (some ⟨b, off + 1, none⟩) t := by
  intro k x hk
  obtain ⟨h1, h2⟩ := h.at (ht k x hk)
  exact ⟨b, off + 1, rfl, h1, by rw [← h2]; congr 2; omega⟩
theorem is_nil {w : World} {M : Nat} {A : Option Addr} {t : List Int} (h : t.length = 0) : IS w M A t := by
  intro k x hk
  obtain rfl := List.eq_nil_of_length_eq_zero h
  simp at hk
theorem retN {w : World} {n f : Nat} {args : Array Value} {xs : List Int} (hn : n = xs.length) (h : Calls Try.prog f args w (RetInts w xs)) : Calls Try.prog f args w (RetN w n xs) := by
  subst hn
  exact h
/-- many numbers more -/
theorem Mine.appAll {w0 w : World} {v : Value} {xs : List Int} (h : Mine w0 w v xs) {ops : Array Oper} {rest : List Oper} {o : Oper} {a : Act} {Q : Exit → Act → World → Prop} {n m k : Nat} {zs : List Int} (hn : xs.length = n) (hn2 : n + m ≤ 1000000) (hk : n + m = k)
    (hg : o.guard = none) (s t : Operand) (hop : o.op = Op.call { callee := Callee.builtin Builtin.append, args := #[s, t], argTypes := #[24, 24] }) (hs : a.eval s = v) (ys : List Int) (hm : ys.length = m) (b off c : Nat) (hx : a.eval t = .slice (some ⟨b, off, none⟩) m c)
    (hc : ∀ k y, ys[k]? = some y → w.cell? ⟨b, off + k, none⟩ = some (vI y))
    (hz : xs ++ ys = zs)
    (hK : ∀ A' c' w', Mine w0 w' (.slice A' k c') zs → wpList Try.prog ops Q rest (a.put o.dst (.slice A' k c')) w') :
    wpList Try.prog ops Q (o :: rest) a w := by
  subst hk
  subst hz
  obtain ⟨i0, hi, hz0, hz1, hz2⟩ := info_parts infoI2
  have hsz := h.below.size
  refine wpList_append_own _ hg _ _ 24 hop w0.heap.size 3 i0 (.int .i64 0) 1 8 Try.underlying24 hi hz0 hz1 hz2 rfl (by decide) _ _ _ hs h.own ⟨b, off, none⟩ m c (ys.map vI) hx (by simp [hm]) (fun j u hj => ?_) (by simp [Value.oneCell']) (by unfold maxLen; omega) (by omega) (by omega) ?_
  · rw [List.getElem?_map] at hj
    cases hy : ys[j]? with
    | none => rw [hy] at hj; cases hj
    | some y =>
      rw [hy] at hj
      injection hj with hj
      subst hj
      have ha : (⟨b, off, none⟩ : Addr).add j = ⟨b, off + j, none⟩ := by unfold Addr.add; split <;> simp_all
      rw [ha]
      exact hc j y hy
  intro v' w4 hown4 hgrow4 _
  have hlen : (xs ++ ys).length = n + m := by simp [hn, hm]
  rw [hn] at hown4
  obtain ⟨A', c', rfl⟩ := own_form hown4
  exact hK A' c' w4 ⟨by rw [hlen, List.map_append]; exact hown4, h.below.grown hgrow4 hsz (fun j e => (h.own.lt j e).1)⟩
theorem mine_empty (w : World) : Mine w (w.alloc (.cells #[] 3)) (.slice (some ⟨w.heap.size, 0, none⟩) 0 0) [] :=
  ⟨⟨rfl, .inr ⟨w.heap.size, 0, #[], rfl, Nat.le_refl _, World.alloc_heap_new w _, Nat.le_refl _, by unfold maxLen; omega, rfl, rfl⟩⟩, bnew _ _⟩
set_option maxRecDepth 100000 in
set_option maxHeartbeats 4000000 in
theorem ltells_cons (a : Int) (t : List Int) (x : Int) (w : World) (h : Ok (a :: t)) : Calls Try.prog 3 #[vI (wd (a :: t)), vI x] w fun e w' => e = .returned (.bool true) ∧ Below w.heap.size w w' := by
  have h1 := h.hi
  have hll := h.len
  have h2 := fun w => right_yes w h
  have h3 := fun w => rright_any (wd (a :: t)) w (by omega)
  rw [decide_eq_true (rt_wd h)] at h3
  have h4 := fun w => rlist_line w h
  have h5 : ∀ w, Calls Try.prog 13 #[vI (wd (a :: t))] w fun e w' => e = .returned (.tuple #[vI a, .bool true]) ∧ Below w.heap.size w w' := fun w => head_line w h
  have h6 := fun w => push_any x w h
  have hof : (decide (Ok (a :: t ++ [x])) = true ∧ ofV (a :: t ++ [x]) = .tuple #[vI (wd (if Ok (a :: t ++ [x]) then a :: t ++ [x] else a :: t)), .bool true]) ∨ (decide (Ok (a :: t ++ [x])) = false ∧ ofV (a :: t ++ [x]) = .tuple #[.int .i64 0, .bool false] ∧ wd (if Ok (a :: t ++ [x]) then a :: t ++ [x] else a :: t) = wd (a :: t)) := by
    by_cases k : Ok (a :: t ++ [x])
    · rw [if_pos k]
      exact .inl ⟨decide_eq_true k, ofV_ok k⟩
    · rw [if_neg k]
      exact .inr ⟨decide_eq_false k, ofV_no k, rfl⟩
  have h7 := fun w => drop_any x w h
  have h8 := fun A n c w hn hl hI => rhas_any A n c (a :: t) x w hn hl hI
  have h9 := fun w => len_line w h
  have h10 := fun w => list_line w h
  have h11 := fun w => has_line x w h
  have h12 : ∀ w, Calls Try.prog 22 #[vI (wd (a :: t))] w fun e w' => e = .returned (vI (wd t)) ∧ w = w' := fun w => by
    have := pop_any (wd (a :: t)) w
    rwa [wd_tail a t (h.rng a (by simp)).1 (h.rng a (by simp)).2] at this
  have h13 := fun A n c w hn hI => word_n A n c t w hn hI (ok_tail h)
  have h14 := fun A n c w hn hl hI => rdrop_any A n c (a :: t) x w hn hl hI
  have h15 := fun A n c w hn hI => word_n A n c (less (a :: t) x) w hn hI (ok_less h x)
  obtain ⟨u, eu⟩ : ∃ u, u = less (a :: t) x := ⟨_, rfl⟩
  obtain ⟨z, ez⟩ : ∃ z, z = wd (less (a :: t) x) := ⟨_, rfl⟩
  obtain ⟨r, er⟩ : ∃ r, r = wd t := ⟨_, rfl⟩
  obtain ⟨g, eg⟩ : ∃ g, g = decide (x ∈ a :: t) := ⟨_, rfl⟩
  rw [← ez, ← eg] at h7
  rw [← eg] at h8 h11
  rw [← er] at h12 h13
  rw [← ez, ← eu] at h15
  rw [← eu] at h14
  clear eu ez er eg
  obtain ⟨d, ed⟩ : ∃ d, d = decide (Ok (a :: t ++ [x])) := ⟨_, rfl⟩
  obtain ⟨y, ey⟩ : ∃ y, y = wd (if Ok (a :: t ++ [x]) then a :: t ++ [x] else a :: t) := ⟨_, rfl⟩
  obtain ⟨l, el⟩ : ∃ l, l = a :: t := ⟨_, rfl⟩
  obtain ⟨q, eq⟩ : ∃ y, y = wd (a :: t) := ⟨_, rfl⟩
  have h0 : l[0]? = some a := by rw [el]; rfl
  have hn : l.length = t.length + 1 := by rw [el]; rfl
  rw [← ed, ← ey] at h6 hof
  rw [← eq] at h2 h3 h4 h5 h6 h7 h9 h10 h11 h12 hof ⊢
  rw [← el] at h4 h8 h9 h10 h14 hof
  have Ed := Lib.hid ed
  have Ey := Lib.hid ey
  have El := Lib.hid el
  have Eq := Lib.hid eq
  have H := Lib.hid h
  have H0 := Lib.hid h0
  obtain ⟨n, en⟩ : ∃ n, n = l.length := ⟨_, rfl⟩
  have En := Lib.hid (And.intro en hn)
  replace h4 := fun w => retN en (h4 w)
  replace h10 := fun w => retN en (h10 w)
  rw [← en] at h9
  have H8 := Lib.hid h8
  have H13 := Lib.hid h13
  have H14 := Lib.hid h14
  have H15 := Lib.hid h15
  have HT := Lib.hid (show ∀ k x, t[k]? = some x → l[k + 1]? = some x from fun k x hk => by rw [el]; exact hk)
  clear h8 h13 h14 h15
  have hn15 : n ≤ 15 := by rw [en, hn]; simpa using hll
  have hn1 : 1 ≤ n := by omega
  clear ed ey el eq h h0 h1 hll hn en
  go_enter Try.func3, Try.ntmps3
  go_wp2_with fail
  refine (awake_any w).mono ?_
  rintro e w1 ⟨rfl, hB⟩
  go_wp2_with (first | (go_at_call 10; refine (h3 _).mono ?_; rintro e w2 ⟨rfl, hB2⟩) | (go_at_call 11; refine (h2 _).mono ?_; rintro e w3 ⟨rfl, hB3⟩))
  replace hB := bstep (bstep hB hB2) hB3
  clear h2 h3 hB2 hB3
  refine (h4 w3).mono ?_
  rintro e w4 ⟨A, c, rfl, hc, hI, hB4⟩
  replace hB := bstep hB hB4
  obtain ⟨b, off, rfl, _, _⟩ := hI 0 a H0.out
  go_wp2_with fail
  refine (h5 w4).mono ?_
  rintro e w5 ⟨rfl, hB5⟩
  replace hB := bstep hB hB5
  replace hI := hI.on hB5
  clear hB5 hB4 h4 h5
  go_wp2_with fail
  refine (h6 w5).mono ?_
  rintro e w6 ⟨rfl, hB6⟩
  replace hB := bstep hB hB6
  replace hI := hI.on hB6
  clear h6 hB6
  go_wp2_with (at_builtin; refine (mine_empty w6).appAll (n := 0) (m := n) rfl (by omega) (Nat.zero_add n) rfl _ _ rfl rfl l En.out.1.symm b off c rfl (fun k y hy => ((hI.on (bnew w6 _)).at hy).2) (List.nil_append l) ?_)
  intro A7 c7 w7 hM7
  go_wp2_with (at_builtin; refine hM7.app En.out.1.symm (by omega) rfl _ _ rfl rfl _ _ rfl ?_)
  intro A8 c8 w8 hM8
  obtain ⟨hn8, hI8, hB8, hA8⟩ := hM8.inv
  have hI6 := hI
  replace hI := hI.on hB8
  replace hB := bstep hB hB8
  clear hM7 hM8 hA8 hB8 hI6
  have ho := rof_n A8 (n + 1) c8 (l ++ [x]) w8 hn8 (by omega) hI8
  clear hn8 hI8
  have HO := Lib.hid ho
  clear ho
  rcases hof with ⟨rfl, ho2⟩ | ⟨rfl, ho2, rfl⟩
  · have ho := HO.out
    rw [ho2] at ho
    clear ho2
    go_wp2_with fail
    refine ho.mono ?_
    rintro e w9 ⟨rfl, hB9⟩
    replace hB := bstep hB hB9
    replace hI := hI.on hB9
    clear ho
    go_wp2_with fail
    refine (h7 w9).mono ?_
    rintro e w10 ⟨rfl, hB10⟩
    replace hB := bstep hB hB10
    replace hI := hI.on hB10
    go_wp2_with fail
    refine (H8.out _ n c w10 En.out.1.symm (by omega) hI).mono ?_
    rintro e w11 ⟨rfl, hB11⟩
    replace hB := bstep hB hB11
    replace hI := hI.on hB11
    have hd := (hI.at H0.out).2
    rw [Nat.add_zero] at hd
    have hc1 : 1 ≤ c := by omega
    have hn0 : (0 : Int) < (n : Int) := by omega
    clear HO h7 hB9 hB10 hB11
    go_wp2_with fail
    all_goals
      refine (h9 w11).mono ?_
      rintro e w12 ⟨rfl, hB12⟩
      replace hB := bstep hB hB12
      replace hI := hI.on hB12
      go_wp2_with fail
      refine (h10 w12).mono ?_
      rintro e w13 ⟨A13, c13, rfl, hc13, hI13, hB13⟩
      replace hB := bstep hB hB13
      replace hI := hI.on hB13
      go_wp2_with fail
      refine (ints_n _ _ _ _ _ _ l w13 En.out.1.symm En.out.1.symm (by omega) hI13 hI).mono ?_
      rintro e w14 ⟨rfl, hB14⟩
      replace hB := bstep hB hB14
      replace hI := hI.on hB14
      go_wp2_with fail
      refine (h11 w14).mono ?_
      rintro e w15 ⟨rfl, hB15⟩
      replace hB := bstep hB hB15
      replace hI := hI.on hB15
      clear hB12 hB13 hB14 hB15 h9 h10 hd hc13 hI13
      go_wp2_with (first
        | (go_at_call 22; refine (h12 w15).mono ?_; rintro e w16 ⟨rfl, rfl⟩)
        | (go_at_call 23; refine (H13.out _ _ _ w15 (by have := En.out; omega) (by first | exact is_nil (by have := En.out; omega) | exact is_tail hI HT.out)).mono ?_; rintro e w17 ⟨rfl, hB17⟩; have K17 := bstep hB hB17; have I17 := hI.on hB17))
      refine (H14.out _ _ _ w17 En.out.1.symm (by omega) I17).mono ?_
      rintro e w18 ⟨A18, c18, rfl, hc18, hI18, hB18⟩
      have K18 := bstep K17 hB18
      go_wp2_with fail
      refine (H15.out _ _ _ w18 rfl hI18).mono ?_
      rintro e w19 ⟨rfl, hB19⟩
      have K19 := bstep K18 hB19
      go_wp2_with fail
      go_ret
      exact ⟨rfl, K19⟩
  · have ho := HO.out
    rw [ho2] at ho
    clear ho2
    go_wp2_with fail
    refine ho.mono ?_
    rintro e w9 ⟨rfl, hB9⟩
    replace hB := bstep hB hB9
    replace hI := hI.on hB9
    clear ho
    go_wp2_with fail
    refine (h7 w9).mono ?_
    rintro e w10 ⟨rfl, hB10⟩
    replace hB := bstep hB hB10
    replace hI := hI.on hB10
    go_wp2_with fail
    refine (H8.out _ n c w10 En.out.1.symm (by omega) hI).mono ?_
    rintro e w11 ⟨rfl, hB11⟩
    replace hB := bstep hB hB11
    replace hI := hI.on hB11
    have hd := (hI.at H0.out).2
    rw [Nat.add_zero] at hd
    have hc1 : 1 ≤ c := by omega
    have hn0 : (0 : Int) < (n : Int) := by omega
    clear HO h7 hB9 hB10 hB11
    go_wp2_with fail
    all_goals
      refine (h9 w11).mono ?_
      rintro e w12 ⟨rfl, hB12⟩
      replace hB := bstep hB hB12
      replace hI := hI.on hB12
      go_wp2_with fail
      refine (h10 w12).mono ?_
      rintro e w13 ⟨A13, c13, rfl, hc13, hI13, hB13⟩
      replace hB := bstep hB hB13
      replace hI := hI.on hB13
      go_wp2_with fail
      refine (ints_n _ _ _ _ _ _ l w13 En.out.1.symm En.out.1.symm (by omega) hI13 hI).mono ?_
      rintro e w14 ⟨rfl, hB14⟩
      replace hB := bstep hB hB14
      replace hI := hI.on hB14
      go_wp2_with fail
      refine (h11 w14).mono ?_
      rintro e w15 ⟨rfl, hB15⟩
      replace hB := bstep hB hB15
      replace hI := hI.on hB15
      clear hB12 hB13 hB14 hB15 h9 h10 hd hc13 hI13
      go_wp2_with (first
        | (go_at_call 22; refine (h12 w15).mono ?_; rintro e w16 ⟨rfl, rfl⟩)
        | (go_at_call 23; refine (H13.out _ _ _ w15 (by have := En.out; omega) (by first | exact is_nil (by have := En.out; omega) | exact is_tail hI HT.out)).mono ?_; rintro e w17 ⟨rfl, hB17⟩; have K17 := bstep hB hB17; have I17 := hI.on hB17))
      refine (H14.out _ _ _ w17 En.out.1.symm (by omega) I17).mono ?_
      rintro e w18 ⟨A18, c18, rfl, hc18, hI18, hB18⟩
      have K18 := bstep K17 hB18
      go_wp2_with fail
      refine (H15.out _ _ _ w18 rfl hI18).mono ?_
      rintro e w19 ⟨rfl, hB19⟩
      have K19 := bstep K18 hB19
      go_wp2_with fail
      go_ret
      exact ⟨rfl, K19⟩
theorem Mine.appAt {w0 w : World} {v : Value} {xs : List Int} (h : Mine w0 w v xs) {ops : Array Oper} {rest : List Oper} {o : Oper} {a : Act} {Q : Exit → Act → World → Prop} {n : Nat} (hn : xs.length = n) (hn2 : n ≤ 1000000) (g : Nat) (eg : g = w.heap.size)
    (hg : o.guard = none) (s t : Operand) (hop : o.op = Op.call { callee := Callee.builtin Builtin.append, args := #[s, t], argTypes := #[24, 24] }) (hs : a.eval s = v) (y : Int) (c : Nat) (hx : a.eval t = .slice (some ⟨g, 0, none⟩) 1 c)
    (hK : ∀ A' c' w', Mine w0 w' (.slice A' (n + 1) c') (xs ++ [y]) → wpList Try.prog ops Q rest (a.put o.dst (.slice A' (n + 1) c')) w') :
    wpList Try.prog ops Q (o :: rest) a (w.alloc (.cells #[vI y] 3)) := by
  subst eg
  exact h.app hn hn2 hg s t hop hs y c hx hK
theorem rlist_zero (w : World) : Calls Try.prog 12 #[vI 0] w fun e w' => e = .returned (.slice none 0 0) ∧ w = w' := by
  go_enter Try.func12, Try.ntmps12
  go_wp2_with fail
  go_loopw [0, 3] (fun z v wr => z = .int .i64 0 ∧ v = .slice none 0 0 ∧ w = wr) (fun _ _ => fun _ => 0)
  case atStart => exact ⟨rfl, rfl, rfl⟩
  case round =>
    obtain ⟨rfl, rfl, rfl⟩ := hrel
    go_wp2_with fail
    go_ret
    exact ⟨rfl, rfl⟩
set_option maxRecDepth 100000 in
set_option maxHeartbeats 4000000 in
theorem ltells_nil (x : Int) (w : World) : Calls Try.prog 3 #[vI 0, vI x] w fun e w' => e = .returned (.bool true) ∧ Below w.heap.size w w' := by
  have h2 : ∀ w, Calls Try.prog 11 #[vI 0] w fun e w' => e = .returned (.bool true) ∧ Below w.heap.size w w' := fun w => right_yes (l := []) w Ok.nil
  have h3 : ∀ w, Calls Try.prog 10 #[vI 0] w fun e w' => e = .returned (.bool true) ∧ Below w.heap.size w w' := fun w => by
    have := rright_any (wd []) w (by decide)
    rwa [decide_eq_true (rt_wd Ok.nil)] at this
  have h5 : ∀ w, Calls Try.prog 13 #[vI 0] w fun e w' => e = .returned (.tuple #[.int .i64 0, .bool false]) ∧ Below w.heap.size w w' := fun w => head_line (l := []) w Ok.nil
  have h6 : ∀ w, Calls Try.prog 14 #[vI 0, vI x] w fun e w' => e = .returned (.tuple #[vI (wd (if Ok ([] ++ [x]) then [] ++ [x] else [])), .bool (decide (Ok ([] ++ [x])))]) ∧ Below w.heap.size w w' := fun w => push_any (l := []) x w Ok.nil
  have hof : (decide (Ok ([] ++ [x])) = true ∧ ofV [x] = .tuple #[vI (wd (if Ok ([] ++ [x]) then [] ++ [x] else [])), .bool true]) ∨ (decide (Ok ([] ++ [x])) = false ∧ ofV [x] = .tuple #[.int .i64 0, .bool false] ∧ wd (if Ok ([] ++ [x]) then [] ++ [x] else []) = 0) := by
    by_cases k : Ok ([] ++ [x])
    · rw [if_pos k]
      exact .inl ⟨decide_eq_true k, ofV_ok k⟩
    · rw [if_neg k]
      exact .inr ⟨decide_eq_false k, ofV_no k, rfl⟩
  have h7 : ∀ w, Calls Try.prog 16 #[vI 0, vI x] w fun e w' => e = .returned (.tuple #[vI 0, .bool false]) ∧ Below w.heap.size w w' := fun w => drop_no (l := []) x w Ok.nil (by simp)
  have h8 : ∀ w, Calls Try.prog 17 #[.slice none 0 0, vI x] w fun e w' => e = .returned (.bool false) ∧ Below w.heap.size w w' := fun w => by
    have := rhas_any none 0 0 [] x w rfl (by omega) (is_nil rfl)
    rwa [decide_eq_false (by simp)] at this
  have h9 : ∀ w, Calls Try.prog 18 #[vI 0] w fun e w' => e = .returned (vI 0) ∧ Below w.heap.size w w' := fun w => len_line (l := []) w Ok.nil
  have h10 : ∀ w, Calls Try.prog 20 #[vI 0] w (RetN w 0 []) := fun w => retN (xs := []) rfl (list_line (l := []) w Ok.nil)
  have h11 : ∀ w, Calls Try.prog 21 #[vI 0, vI x] w fun e w' => e = .returned (.bool false) ∧ Below w.heap.size w w' := fun w => by
    have := has_line (l := []) x w Ok.nil
    rwa [decide_eq_false (by simp)] at this
  have h12 : ∀ w, Calls Try.prog 22 #[vI 0] w fun e w' => e = .returned (vI 0) ∧ w = w' := fun w => pop_any 0 w
  have h13 : ∀ A c w, Calls Try.prog 23 #[.slice A 0 c] w fun e w' => e = .returned (vI 0) ∧ Below w.heap.size w w' := fun A c w => word_n A 0 c [] w rfl (is_nil rfl) Ok.nil
  have h14 : ∀ w, Calls Try.prog 24 #[.slice none 0 0, vI x] w (RetN w 0 []) := fun w => retN (xs := []) rfl (rdrop_any none 0 0 [] x w rfl (by omega) (is_nil rfl))
  obtain ⟨d, ed⟩ : ∃ d, d = decide (Ok ([] ++ [x])) := ⟨_, rfl⟩
  obtain ⟨y, ey⟩ : ∃ y, y = wd (if Ok ([] ++ [x]) then [] ++ [x] else []) := ⟨_, rfl⟩
  rw [← ed, ← ey] at h6 hof
  clear ed ey
  go_enter Try.func3, Try.ntmps3
  go_wp2_with fail
  refine (awake_any w).mono ?_
  rintro e w1 ⟨rfl, hB⟩
  go_wp2_with (first | (go_at_call 10; refine (h3 _).mono ?_; rintro e w2 ⟨rfl, hB2⟩) | (go_at_call 11; refine (h2 _).mono ?_; rintro e w3 ⟨rfl, hB3⟩))
  replace hB := bstep (bstep hB hB2) hB3
  clear h2 h3 hB2 hB3
  refine (rlist_zero w3).mono ?_
  rintro e w4 ⟨rfl, rfl⟩
  go_wp2_with fail
  refine (h5 w3).mono ?_
  rintro e w5 ⟨rfl, hB5⟩
  replace hB := bstep hB hB5
  clear hB5 h5
  go_wp2_with fail
  refine (h6 w5).mono ?_
  rintro e w6 ⟨rfl, hB6⟩
  replace hB := bstep hB hB6
  clear h6 hB6
  go_wp2_with (at_builtin; refine (mine_empty w6).appAt (n := 0) rfl (by omega) (w6.heap.size + 1) (by simp) rfl _ _ rfl rfl _ _ rfl ?_)
  intro A8 c8 w8 hM8
  obtain ⟨hn8, hI8, hB8, hA8⟩ := hM8.inv
  replace hB := bstep hB hB8
  have ho : Calls Try.prog 15 #[.slice A8 (0 + 1) c8] w8 fun e w' => e = .returned (ofV [x]) ∧ Below w8.heap.size w8 w' := rof_n A8 1 c8 [x] w8 rfl (by omega) hI8
  clear hM8 hA8 hB8 hn8 hI8
  rcases hof with ⟨rfl, ho2⟩ | ⟨rfl, ho2, rfl⟩
  · rw [ho2] at ho
    clear ho2
    go_wp2_with fail
    refine ho.mono ?_
    rintro e w9 ⟨rfl, hB9⟩
    replace hB := bstep hB hB9
    clear ho
    go_wp2_with fail
    refine (h7 w9).mono ?_
    rintro e w10 ⟨rfl, hB10⟩
    replace hB := bstep hB hB10
    go_wp2_with fail
    refine (h8 w10).mono ?_
    rintro e w11 ⟨rfl, hB11⟩
    replace hB := bstep hB hB11
    clear h7 h8 hB9 hB10 hB11
    go_wp2_with fail
    refine (h9 w11).mono ?_
    rintro e w12 ⟨rfl, hB12⟩
    replace hB := bstep hB hB12
    go_wp2_with fail
    refine (h10 w12).mono ?_
    rintro e w13 ⟨A13, c13, rfl, hc13, hI13, hB13⟩
    replace hB := bstep hB hB13
    go_wp2_with fail
    refine (ints_n _ _ 0 0 _ _ [] w13 rfl rfl (by omega) hI13 (is_nil rfl)).mono ?_
    rintro e w14 ⟨rfl, hB14⟩
    replace hB := bstep hB hB14
    go_wp2_with fail
    refine (h11 w14).mono ?_
    rintro e w15 ⟨rfl, hB15⟩
    replace hB := bstep hB hB15
    clear hB12 hB13 hB14 hB15 h9 h10 hc13 hI13
    go_wp2_with (first
      | (go_at_call 22; refine (h12 w15).mono ?_; rintro e w16 ⟨rfl, rfl⟩)
      | (go_at_call 23; refine (h13 _ _ w15).mono ?_; rintro e w17 ⟨rfl, hB17⟩; have K17 := bstep hB hB17))
    refine (h14 w17).mono ?_
    rintro e w18 ⟨A18, c18, rfl, hc18, hI18, hB18⟩
    have K18 := bstep K17 hB18
    go_wp2_with fail
    refine (h13 _ _ w18).mono ?_
    rintro e w19 ⟨rfl, hB19⟩
    have K19 := bstep K18 hB19
    go_wp2_with fail
    go_ret
    exact ⟨rfl, K19⟩
  · rw [ho2] at ho
    clear ho2
    go_wp2_with fail
    refine ho.mono ?_
    rintro e w9 ⟨rfl, hB9⟩
    replace hB := bstep hB hB9
    clear ho
    go_wp2_with fail
    refine (h7 w9).mono ?_
    rintro e w10 ⟨rfl, hB10⟩
    replace hB := bstep hB hB10
    go_wp2_with fail
    refine (h8 w10).mono ?_
    rintro e w11 ⟨rfl, hB11⟩
    replace hB := bstep hB hB11
    clear h7 h8 hB9 hB10 hB11
    go_wp2_with fail
    refine (h9 w11).mono ?_
    rintro e w12 ⟨rfl, hB12⟩
    replace hB := bstep hB hB12
    go_wp2_with fail
    refine (h10 w12).mono ?_
    rintro e w13 ⟨A13, c13, rfl, hc13, hI13, hB13⟩
    replace hB := bstep hB hB13
    go_wp2_with fail
    refine (ints_n _ _ 0 0 _ _ [] w13 rfl rfl (by omega) hI13 (is_nil rfl)).mono ?_
    rintro e w14 ⟨rfl, hB14⟩
    replace hB := bstep hB hB14
    go_wp2_with fail
    refine (h11 w14).mono ?_
    rintro e w15 ⟨rfl, hB15⟩
    replace hB := bstep hB hB15
    clear hB12 hB13 hB14 hB15 h9 h10 hc13 hI13
    go_wp2_with (first
      | (go_at_call 22; refine (h12 w15).mono ?_; rintro e w16 ⟨rfl, rfl⟩)
      | (go_at_call 23; refine (h13 _ _ w15).mono ?_; rintro e w17 ⟨rfl, hB17⟩; have K17 := bstep hB hB17))
    refine (h14 w17).mono ?_
    rintro e w18 ⟨A18, c18, rfl, hc18, hI18, hB18⟩
    have K18 := bstep K17 hB18
    go_wp2_with fail
    refine (h13 _ _ w18).mono ?_
    rintro e w19 ⟨rfl, hB19⟩
    have K19 := bstep K18 hB19
    go_wp2_with fail
    go_ret
    exact ⟨rfl, K19⟩
theorem ltells_any (q x : Int) (w : World) (hq : q ≤ 9223372036854775807) : Calls Try.prog 3 #[vI q, vI x] w fun e w' => e = .returned (.bool true) ∧ Below w.heap.size w w' := by
  by_cases h : Rt q
  · obtain ⟨l, hO, rfl, _⟩ := h.line
    cases l with
    | nil => exact ltells_nil x w
    | cons a t => exact ltells_cons a t x w hO
  · exact ltells_no q x w h hq
end Go.Proofs.Ytgeddciipcbepaa
