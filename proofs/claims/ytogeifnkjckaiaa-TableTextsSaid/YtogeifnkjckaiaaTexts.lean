/- TableTexts's walk. -/
import Derived.Test.YtogeifnkjckaiaaSmall
import Derived.Test.YtogeifnkjckaiaaFill
import Derived.Test.YtogeifnkjckaiaaOpen
import Derived.Test.YtogeifnkjckaiaaCalls2
import Derived.Test.YtogeifnkjckaiaaLeast2
namespace Go.Proofs.Ytogeifnkjckaiaa
open Go.RowKit Go.Shelf
attribute [local go_sem] Oper.semAt_some

abbrev TP := List (ByteArray × Int)
/-- each text with its place -/
def tx (l : List ByteArray) : TP := l.zipIdx.map fun s => (s.1, (s.2 : Int))
theorem tx_len (l : List ByteArray) : (tx l).length = l.length := by simp [tx]
theorem tx_at {l : List ByteArray} {k : Nat} {s : ByteArray} (h : l[k]? = some s) : (tx l)[k]? = some (s, (k : Int)) := by simp [tx, h]
theorem tx_mem {l : List ByteArray} {s : ByteArray} {v : Int} (h : (s, v) ∈ tx l) : ∃ k : Nat, v = (k : Int) ∧ l[k]? = some s := by
  obtain ⟨k, hk⟩ := List.mem_iff_getElem?.1 h
  cases e : l[k]? with
  | none => rw [show (tx l)[k]? = none by simp [tx, e]] at hk; cases hk
  | some t =>
    rw [tx_at e] at hk
    injection hk with hk
    injection hk with h1 h2
    exact ⟨k, h2.symm, by rw [e, h1]⟩
theorem tx_take {l : List ByteArray} {k : Nat} {s : ByteArray} (h : l[k]? = some s) : (tx l).take (k + 1) = (tx l).take k ++ [(s, (k : Int))] := by rw [List.take_add_one, tx_at h]; rfl
theorem fillG_len (l : TP) : (fillG l).length ≤ l.length := by
  have : ∀ (l acc : TP), (l.foldl (fun xs p => ins xs p.1 p.2) acc).length ≤ acc.length + l.length := by
    intro l
    induction l with
    | nil => exact fun acc => Nat.le_refl _
    | cons p t ih =>
      intro acc
      have h1 := ih (ins acc p.1 p.2)
      have h2 := ins_len (l := acc) p.1 p.2
      simp only [List.foldl_cons, List.length_cons]
      split at h2 <;> omega
  simpa [fillG] using this l []
theorem text_some {l : List ByteArray} {k : Nat} (h : k < l.length) : ∃ x, l[k]? = some x := ⟨l[k], by simp⟩
def lkey (pre : TP) : ByteArray := match pre.getLast? with
  | none => ⟨#[]⟩
  | some p => p.1
theorem lkey_snoc (pre : TP) (p : ByteArray × Int) : lkey (pre ++ [p]) = p.1 := by simp [lkey]

theorem run_equalIn_nilFunc2 (d : Nat) (fn : Fn) (fi ca : Array Value) (W : World) : (Op.equalIn (d + 1) 56 (.func fn fi ca) .nilFunc).run Try.prog W = .ok false W := by
  simp [Op.equalIn, run_underlying Try.underlying56]
theorem run_equal_nilFunc2 (fn : Fn) (fi ca : Array Value) (W : World) : (Op.equal 56 (.func fn fi ca) .nilFunc).run Try.prog W = .ok false W := run_equalIn_nilFunc2 9999 fn fi ca W
theorem run_eql_nilFunc2 (fn : Fn) (fi ca : Array Value) (W : World) : (binOp .eql 56 (.func fn fi ca) .nilFunc).run Try.prog W = .ok (.bool false) W := by
  simp only [binOp]
  simp [run_equal_nilFunc2]
theorem boxed_below {N b : Nat} {w w' : World} {t : TypeId} {v : Value} (h : Boxed w b t v) (hb : Below N w w') (hl : b < N) : Boxed w' b t v := (hb.block b hl).trans h
theorem boxed_sp {g b : Nat} {w w' : World} {t : TypeId} {v : Value} (h : Boxed w b t v) (hs : Sp g w w') (hg : b ≠ g) : Boxed w' b t v := (hs.block b h.lt hg).trans h

theorem Grow.below' {n D : Nat} (A : World) (o : Obj) (h : n ≤ D) : Below n A (A.putObj D o) :=
  ⟨rfl, rfl, rfl, by simp, fun k hk => World.putObj_heap_other (by omega)⟩

set_option maxRecDepth 100000 in
set_option maxHeartbeats 4000000 in
theorem texts_any (A : Option Addr) (n c : Nat) (l : List ByteArray) (w : World) (hl : l.length = n) (hc : n ≤ c) (hs : SS w w.heap.size A l) :
    Calls Try.prog 6 #[.slice A n c] w (fun e w' => e = .returned (.bool true) ∧ Below w.heap.size w w') := by
  refine (callsIn_wide (n := 6)).1 ?_
  refine callsIn_of_wp_marks Try.func6 rfl trivial ?_ rfl
  simp only [Try.ntmps6, List.size_toArray, List.length_cons, List.length_nil, Nat.reduceAdd, Nat.reduceSub, Array.replicate_succ, Array.replicate_zero, List.push_toArray, List.append_toArray, List.nil_append, List.cons_append]
  obtain ⟨n0, hn0⟩ : ∃ n0, n0 = w.heap.size := ⟨_, rfl⟩
  have b1 := (Boxed.new w 51 (.slice A n c)).alloc (.cells #[.bool false] 4)
  have b2 := Boxed.new (w.alloc (.cells #[.slice A n c] 51)) 4 (.bool false)
  have hB0 : Below w.heap.size w ((w.alloc (.cells #[.slice A n c] 51)).alloc (.cells #[.bool false] 4)) := bstep (bnew _ _) (bnew _ _)
  have hz0 : ((w.alloc (.cells #[.slice A n c] 51)).alloc (.cells #[.bool false] 4)).heap.size = w.heap.size + 2 := by simp
  rw [World.size_alloc, ← hn0] at b2
  rw [← hn0] at b1 hB0 hz0 hs
  have Hn0 := Lib.hid hn0
  gi_wp2_with fail
  rw [← Hn0.out]
  clear hn0
  obtain ⟨W1, hW1⟩ : ∃ W1, W1 = ((w.alloc (.cells #[.slice A n c] 51)).alloc (.cells #[.bool false] 4)) := ⟨_, rfl⟩
  rw [← hW1] at b1 b2 hB0 hz0 ⊢
  clear hW1
  refine ⟨trivial, ?_⟩
  gi_at_call 9
  refine (callsIn_wide.2 (awake_any W1)).mono ?_
  rintro e w2 ⟨rfl, hB2⟩
  have b1' := boxed_below b1 hB2 b1.lt
  have b2' := boxed_below b2 hB2 b2.lt
  have hB3 : Below n0 w w2 := hB0.trans (hB2.mono (by omega))
  have hz2 : n0 + 2 ≤ w2.heap.size := by have := hB2.size; omega
  have c1 := b1'.cell
  have f2 := b2'.frozen
  have c2 := b2'.cell
  clear b1 b2 hB0 hz0 hB2
  by_cases hn : n ≤ 60
  · subst hl
    gi_wp2_with fail
    refine ⟨trivial, ?_⟩
    gi_at_call 24
    refine (callsIn_wide.2 (new2_any w2)).mono ?_
    rintro e w3 ⟨rfl, hT3, hB4, hs3⟩
    obtain ⟨g, hg⟩ : ∃ g, g = w2.heap.size := ⟨_, rfl⟩
    have b1'' := boxed_below b1' hB4 b1'.lt
    have b2'' := boxed_below b2' hB4 b2'.lt
    have hB5 := hB3.trans (hB4.mono (by omega))
    have hgs : g < w3.heap.size := by omega
    rw [← hg] at hT3 ⊢
    have hg1 : n0 + 2 ≤ g := by omega
    clear c1 c2 f2 b1' b2' hB3 hB4 hg hs3 hz2
    gi_wp2_with fail
    gi_loopw [5] (fun i wr => ∃ k : Nat, i = .int .i64 k ∧ k ≤ l.length ∧ Tab2 [g] wr g (fillG ((tx l).take k)) ∧ Boxed wr n0 51 (.slice A l.length c) ∧ Boxed wr (n0 + 1) 4 (.bool false) ∧ Below n0 w wr ∧ g < wr.heap.size) (fun i _ => l.length - (intOf i).toNat)
    case atStart => exact ⟨0, rfl, Nat.zero_le _, hT3, b1'', b2'', hB5, hgs⟩
    case round =>
      obtain ⟨k, rfl, hk, hT, b1, b2, hB, hgs⟩ := hrel
      have c1 := b1.cell
      by_cases hlt : k < l.length
      · obtain ⟨s, hsk⟩ := text_some hlt
        obtain ⟨b, off, rfl, hb, d1⟩ := hs k s hsk
        have e1 := (hB.cell (p := ⟨b, off + k, none⟩) hb).trans d1
        have hk1 : (k : Int) < (l.length : Int) := by omega
        have hk0 : (0 : Int) ≤ (k : Int) := Int.natCast_nonneg _
        have hput := tput2_any hT s k (by have := fillG_len ((tx l).take k); have := List.length_take_le k (tx l); omega)
        rw [← show fillG ((tx l).take (k + 1)) = ins (fillG ((tx l).take k)) s k by rw [tx_take hsk, fill_snoc]] at hput
        clear hsk d1
        gi_wp2_with (first
          | (refine ⟨trivial, ?_⟩; gi_at_call 25; refine (callsIn_wide.2 hput).mono ?_; rintro e w5 ⟨rfl, hT5, hS5⟩))
        go_roundw
        case rel => exact ⟨k + 1, by go_num, by omega, hT5, boxed_sp b1 hS5 (by omega), boxed_sp b2 hS5 (by omega), Sp.below hB hS5 (by omega) (by omega), Nat.lt_of_lt_of_le hgs hS5.size⟩
        case measure => simp [intOf]; omega
      · obtain rfl : k = l.length := by omega
        rw [List.take_of_length_le (by rw [tx_len]; exact Nat.le_refl _)] at hT
        clear hk hlt
        have hnf := run_eql_nilFunc2
        obtain ⟨m, hm⟩ : ∃ m, m = wr.heap.size := ⟨_, rfl⟩
        have hxr : Rises (fillG (tx l)) := fill_rises _
        have hxm : ∀ s v, (s, v) ∈ fillG (tx l) → ∃ k : Nat, v = (k : Int) ∧ l[k]? = some s := fun s v h => tx_mem (last_mem ((got_fill _ s).symm.trans ((got_mem hxr).2 h)))
        have hxl : (fillG (tx l)).length ≤ 60 := by have := fillG_len (tx l); rw [tx_len] at this; omega
        have hxg : ∀ q, got (fillG (tx l)) q = last (tx l) q := fun q => got_fill _ q
        obtain ⟨xs, ex⟩ : ∃ xs, xs = fillG (tx l) := ⟨_, rfl⟩
        rw [← ex] at hT hxr hxm hxl hxg
        have Hxr := Lib.hid hxr
        have Hxm := Lib.hid hxm
        have Hxg := Lib.hid (And.intro ex hxg)
        clear hxr hxm hxg ex
        have b6 := ((Boxed.new wr 9 (.string ⟨#[]⟩)).alloc (.cells #[.int .i64 0] 3)).alloc (.cells #[.pointer (some ⟨g, 0, none⟩)] 52)
        have b7 := (Boxed.new (wr.alloc (.cells #[.string ⟨#[]⟩] 9)) 3 (.int .i64 0)).alloc (.cells #[.pointer (some ⟨g, 0, none⟩)] 52)
        have bt := Boxed.new ((wr.alloc (.cells #[.string ⟨#[]⟩] 9)).alloc (.cells #[.int .i64 0] 3)) 52 (.pointer (some ⟨g, 0, none⟩))
        have hBw : Below wr.heap.size wr (((wr.alloc (.cells #[.string ⟨#[]⟩] 9)).alloc (.cells #[.int .i64 0] 3)).alloc (.cells #[.pointer (some ⟨g, 0, none⟩)] 52)) := bstep (bstep (bnew _ _) (bnew _ _)) (bnew _ _)
        have hZT : Tab2 [wr.heap.size + 1, wr.heap.size, g] (((wr.alloc (.cells #[.string ⟨#[]⟩] 9)).alloc (.cells #[.int .i64 0] 3)).alloc (.cells #[.pointer (some ⟨g, 0, none⟩)] 52)) g xs := by
          have := (hT.box (.cells #[.string ⟨#[]⟩] 9)).box (.cells #[.int .i64 0] 3)
          rw [World.size_alloc] at this
          exact this.below (bnew _ _)
        simp only [World.size_alloc] at b7 bt
        have B1 := boxed_below b1 hBw b1.lt
        have B2 := boxed_below b2 hBw b2.lt
        gi_wp2_with (first
          | (refine ⟨trivial, ?_⟩; gi_at_call 26; refine (allF2_in _ g _).mono ?_; rintro e w6 ⟨rfl, rfl⟩))
        obtain ⟨W0, hW0⟩ : ∃ W0, W0 = (((wr.alloc (.cells #[.string ⟨#[]⟩] 9)).alloc (.cells #[.int .i64 0] 3)).alloc (.cells #[.pointer (some ⟨g, 0, none⟩)] 52)) := ⟨_, rfl⟩
        have hWs : W0.heap.size = wr.heap.size + 3 := by rw [hW0]; simp
        rw [← hW0] at b6 b7 bt hBw hZT B1 B2 ⊢
        have hBm : Below n0 w W0 := hB.trans (hBw.mono (by omega))
        rw [← hm] at b6 b7 bt hZT hWs ⊢
        have hmg : g < m := by omega
        clear hW0 hm hBw hB hT b1 b2 c1 hnf hgs
        have eg := enters_of Try.func41 (by kernel_rfl) rfl
        obtain ⟨A2, t, h⟩ := hZT
        have htl := h.tl
        subst htl
        have hlt : ∀ k, (k ∉ [m + 1, m, g] ∧ k < m + 3) → k < W0.heap.size := fun k hk => by rw [hWs]; exact hk.2
        have hT2 : TreeAt vS vI (fun k => k ∉ [m + 1, m, g] ∧ k < m + 3) W0 A2 t := h.tr.less fun k h1 h2 => ⟨h1, by rw [hWs] at h2; exact h2⟩
        have hg0 := h.c0
        have hn1 : n0 ≤ W0.heap.size := by omega
        have Hs := Lib.hid hs
        have hm7 : m + 1 < W0.heap.size := by omega
        clear hs
        refine wpIn_range (enc := en2) (fi := #[]) (lb := #[.pointer (some ⟨m + 1 + 1, 0, none⟩)]) rfl eg (fall2_it (fun k => k ∉ [m + 1, m, g] ∧ k < m + 3) (m + 1 + 1) g A2 t) ⟨⟨hlt, hT2⟩, bt.cell, hg0⟩ (fun _ => rfl)
          (fun Y pre V => Gn n0 W0 Y V ∧ Kp (fun k => k < W0.heap.size ∧ k ≠ m ∧ k ≠ m + 1) W0 Y V ∧ Boxed V m 9 (vS (lkey pre)) ∧ Boxed V (m + 1) 3 (.int .i64 pre.length))
          (fun _ _ _ _ => False) ?ab (fun _ _ _ _ _ _ h _ => h.elim) ⟨Gn.refl _ _, ⟨Nat.le_refl _, fun _ h => h.elim, fun k h => ⟨h.1, rfl⟩⟩, b6, b7⟩
          (fun y => { tmps := #[.slice A l.length c, .pointer (some ⟨n0, 0, none⟩), .pointer (some ⟨n0 + 1, 0, none⟩), .bool true, .pointer (some ⟨g, 0, none⟩), .int .i64 (l.length : Int), .pointer (some ⟨m, 0, none⟩), .pointer (some ⟨m + 1, 0, none⟩), .func (.func 41) #[] #[.pointer (some ⟨m + 1 + 1, 0, none⟩)], vS y.1, vI y.2, undef, undef, undef, undef, .bool true, .slice A l.length c, .int .i64 (l.length : Int), .bool (decide (60 < (l.length : Int))), undef, .pointer (some ⟨g, 0, none⟩), .pointer (some ⟨g, 0, none⟩), .bool false, .int .i64 (l.length : Int), .slice A l.length c, .int .i64 (l.length : Int), .bool false, u27, u28, u29, u30, u31, u32, u33, u34, u35, .pointer (some ⟨g, 0, none⟩), .func (.func 41) #[] #[.pointer (some ⟨m + 1 + 1, 0, none⟩)], .func (.func 41) #[] #[.pointer (some ⟨m + 1 + 1, 0, none⟩)], .bool false, .func (.func 41) #[] #[.pointer (some ⟨m + 1 + 1, 0, none⟩)], vS y.1, vI y.2, undef, undef, undef, undef, undef, undef, undef, undef, undef, undef, undef, undef, undef, undef, undef, undef, undef, undef, undef, undef, undef, undef, undef, undef, undef, undef, undef, undef, undef, undef, undef, undef, undef, undef, undef, undef, undef, undef, undef, undef, undef, undef, undef, undef, undef, undef, undef, undef, undef, undef, undef, undef, undef, undef, undef], defers := [] }) ?assign ?body ?done ?stop
        case ab =>
          rintro X X' s A B ⟨h1, h2, h3, h4⟩ hg
          exact ⟨h1.grow hn1 hg, h2.grow hg, h1.boxed (by omega) h3 hg, h1.boxed hm7 h4 hg⟩
        case assign =>
          intro l1 y V K hK
          gi_wp2
          exact hK
        case body =>
          rintro l1 Y pre ⟨s, v⟩ V hl1 ⟨hG, hK, b6, b7⟩ hpp
          have hmem : (s, v) ∈ t.toL := hpp.subset (by simp)
          obtain ⟨k, rfl, hsk⟩ := Hxm.out s v hmem
          obtain ⟨b, off, rfl, hb, d1⟩ := Hs.out k s hsk
          have hBV : Below n0 w V := hBm.trans hG.below
          have e1 := (hBV.cell (p := ⟨b, off + k, none⟩) hb).trans d1
          have hkl := (List.getElem?_eq_some_iff.1 hsk).1
          have hk1 : (k : Int) < (l.length : Int) := by omega
          have hk0 : (0 : Int) ≤ (k : Int) := Int.natCast_nonneg _
          have B1V : Boxed V n0 51 (.slice (some ⟨b, off, none⟩) l.length c) := (hK.2.2 n0 ⟨by omega, by omega, by omega⟩).2.trans B1
          have c1 := B1V.cell
          have c6 := b6.cell
          have c7 := b7.cell
          have f6 := b6.frozen
          have f7 := b7.frozen
          have hne : ∀ k, k < W0.heap.size → ¬ Y k := fun k hk e => by have := (hG.new k e).1; omega
          have hm0 : m ≠ m + 1 := by omega
          have fin : ∀ (N : Int), N = ((pre ++ [(s, (k : Int))]).length : Int) → Kept (fun k => k ∉ [m + 1, m, g] ∧ k < m + 3) Y V ((V.setCell ⟨m, 0, none⟩ (vS s)).setCell ⟨m + 1, 0, none⟩ (.int .i64 N)) ∧
              Gn n0 W0 Y ((V.setCell ⟨m, 0, none⟩ (vS s)).setCell ⟨m + 1, 0, none⟩ (.int .i64 N)) ∧ Kp (fun k => k < W0.heap.size ∧ k ≠ m ∧ k ≠ m + 1) W0 Y ((V.setCell ⟨m, 0, none⟩ (vS s)).setCell ⟨m + 1, 0, none⟩ (.int .i64 N)) ∧
              Boxed ((V.setCell ⟨m, 0, none⟩ (vS s)).setCell ⟨m + 1, 0, none⟩ (.int .i64 N)) m 9 (vS (lkey (pre ++ [(s, (k : Int))]))) ∧ Boxed ((V.setCell ⟨m, 0, none⟩ (vS s)).setCell ⟨m + 1, 0, none⟩ (.int .i64 N)) (m + 1) 3 (.int .i64 ((pre ++ [(s, (k : Int))]).length : Nat)) := by
            rintro N rfl
            have hk : Kept (fun k => k ∉ [m + 1, m, g] ∧ k < m + 3) Y V ((V.setCell ⟨m, 0, none⟩ (vS s)).setCell ⟨m + 1, 0, none⟩ (.int .i64 ((pre ++ [(s, (k : Int))]).length : Int))) :=
              (kept_set _ _ _ _ (fun e => e.1 (by simp)) (hne _ (by omega))).trans (kept_set _ _ _ _ (fun e => e.1 (by simp)) (hne _ hm7))
            refine ⟨hk, (hG.set m 0 _ (by omega)).set (m + 1) 0 _ (by omega), hK.kept hk (fun k hk => .inr (.inr ?_)) hl1, ?_, ((b7.other (show m + 1 ≠ m by omega) (vS s)).set _)⟩
            · exact (Below.heap_setCell _ _ _ _ hk.2.2).trans (Below.heap_setCell _ _ _ _ hk.2.1)
            · rw [lkey_snoc]
              exact (b6.set (vS s)).other hm0 _
          rcases List.eq_nil_or_concat pre with rfl | ⟨pre0, y, rfl⟩
          · have c7' : V.cell? ⟨m + 1, 0, none⟩ = some (.int .i64 0) := c7
            clear c7 hpp hsk d1 hmem b6 b7 hK hG hBV B1V
            gi_wp2
            exact fin 1 rfl
          · have hlt2 : Key.lt y.1 s = true := by
              obtain ⟨r, hr⟩ := hpp
              have h1 := Hxr.out
              rw [← hr] at h1
              simp only [List.concat_eq_append, List.append_assoc, List.singleton_append, Rises, List.pairwise_append] at h1
              exact (List.pairwise_cons.1 h1.2.1.1).1 (s, (k : Int)) (by simp)
            have hlk : lkey (pre0.concat y) = y.1 := by rw [List.concat_eq_append]; exact lkey_snoc pre0 y
            rw [hlk] at c6
            obtain ⟨N, hN⟩ : ∃ N, N = (pre0.concat y).length := ⟨_, rfl⟩
            have hN1 : 1 ≤ N := by rw [hN]; simp
            have hN2 : N ≤ 100 := by rw [hN]; have := hpp.length_le; simp at this ⊢; omega
            rw [← hN] at c7
            have q1 : Op.bytesLess s.toList y.1.toList = false := by
              rw [Proofs.bytesLess_eq, Lib.toList_data, Lib.toList_data]
              exact lt_asymm hlt2
            have q2 : (s.toList == y.1.toList) = false := by
              rw [beq_eq_false_iff_ne, Lib.toList_data, Lib.toList_data]
              intro e
              exact lt_ne hlt2 (bytes_ext e).symm
            have hN3 : (0 : Int) < (N : Int) := by omega
            have HN := Lib.hid hN
            clear hpp hsk d1 hmem hlt2 hlk b6 b7 hK hG hBV B1V hN
            gi_wp2
            exact fin ((N : Int) + 1) (by rw [HN.out]; simp; omega)
        case stop =>
          rintro Y D c' pre V hD hDe hpp h hDV
          exact h.elim
        case done =>
          rintro Y D V hD hDe ⟨hG, hK, b6, b7⟩ hDV
          have hBV : Below n0 w V := hBm.trans hG.below
          have B1V : Boxed V n0 51 (.slice A l.length c) := (hK.2.2 n0 ⟨by omega, by omega, by omega⟩).2.trans B1
          have B2V : Boxed V (n0 + 1) 4 (.bool false) := (hK.2.2 (n0 + 1) ⟨by omega, by omega, by omega⟩).2.trans B2
          have hTV : Tab2 [m + 1, m, g] V g t.toL := Tab.kept ⟨A2, t, h⟩ hG.size (hK.2.2 g ⟨by omega, by omega, by omega⟩).2 fun k hk hl => (hK.2.2 k ⟨hl, fun e => hk (by simp [e]), fun e => hk (by simp [e])⟩).2
          have hDm : m + 3 ≤ D := by have := (hG.new D hD).1; omega
          clear hK hDe B1 B2 b6 bt hT2 hg0 hlt h eg hBm
          gi_wp2
          gi_loopw [11] (fun i wr => ∃ (k : Nat) (ys : TP), i = .int .i64 k ∧ k ≤ l.length ∧ ys.length ≤ 60 ∧ RowKit.Hid (∀ q, got ys q = if (last ((tx l).take k) q).isSome then none else got (fillG (tx l)) q) ∧ Tab2 [m + 1, m, g] wr g ys ∧
            Boxed wr n0 51 (.slice A l.length c) ∧ Boxed wr (n0 + 1) 4 (.bool false) ∧ Boxed wr (m + 1) 3 (.int .i64 ys.length) ∧ Below n0 w wr ∧ wr.heap[D]? = some (.deferred (some []))) (fun i _ => l.length - (intOf i).toNat)
          case atStart => exact ⟨0, t.toL, rfl, Nat.zero_le _, hxl, Lib.hid (fun q => by rw [← Hxg.out.1]; simp [last]), hTV, B1V, B2V, b7, hBV, hDV⟩
          case round =>
            obtain ⟨k, ys, rfl, hk, hyl, hys, hT, B1, B2, b7, hB, hDr⟩ := hrel
            have c1 := B1.cell
            have c7 := b7.cell
            by_cases hlt : k < l.length
            · obtain ⟨s, hsk⟩ := text_some hlt
              obtain ⟨b, off, rfl, hb, d1⟩ := Hs.out k s hsk
              have e1 := (hB.cell (p := ⟨b, off + k, none⟩) hb).trans d1
              have hk1 : (k : Int) < (l.length : Int) := by omega
              have hk0 : (0 : Int) ≤ (k : Int) := Int.natCast_nonneg _
              have hdrop := tdrop2_any hT s (by omega)
              have hr3 := hT.rs
              have hnext : ∀ q, got (del ys s) q = if (last ((tx l).take (k + 1)) q).isSome then none else got (fillG (tx l)) q := fun q => by
                rw [got_del' hr3, tx_take hsk, last_snoc, hys.out q]
                by_cases e : q = s
                · subst e; simp
                · rw [if_neg e, if_neg (fun h : s = q => e h.symm)]
              have hdl : (del ys s).length ≤ 60 := Nat.le_trans (del_sub ys s).length_le hyl
              have hdn := del_len (l := ys) s
              have Hnext := Lib.hid hnext
              have Hsk := Lib.hid hsk
              clear hnext hr3 hys hsk d1
              cases eg : got ys s with
              | none =>
                rw [eg] at hdrop hdn
                have Hdn := Lib.hid hdn
                clear eg hdn
                gi_wp2_with (first
                  | (refine ⟨trivial, ?_⟩; gi_at_call 27; refine (callsIn_wide.2 hdrop).mono ?_; rintro e w5 ⟨rfl, hT5, hS5⟩))
                go_roundw
                case rel => exact ⟨k + 1, del ys s, by go_num, by omega, hdl, Hnext, hT5, boxed_sp B1 hS5 (by omega), boxed_sp B2 hS5 (by omega), by rw [Hdn.out]; exact boxed_sp b7 hS5 (by omega), Sp.below hB hS5 (by have := B1.lt; omega) (by omega), (hS5.block D (Array.getElem?_eq_some_iff.1 hDr).1 (by omega)).trans hDr⟩
                case measure => simp [intOf]; omega
              | some u =>
                rw [eg] at hdrop hdn
                have hpos : 1 ≤ ys.length := by
                  cases ys with
                  | nil => simp [got] at eg
                  | cons _ _ => simp
                have Hdn := Lib.hid hdn
                clear eg hdn
                gi_wp2_with (first
                  | (refine ⟨trivial, ?_⟩; gi_at_call 27; refine (callsIn_wide.2 hdrop).mono ?_; rintro e w5 ⟨rfl, hT5, hS5⟩; have b75 := boxed_sp b7 hS5 (show m + 1 ≠ g by omega); have c75 := b75.cell; have f75 := b75.frozen))
                go_roundw
                case rel =>
                  have hz5 : n0 ≤ w5.heap.size := by have := B1.lt; have := hS5.size; omega
                  refine ⟨k + 1, del ys s, by go_num, by omega, hdl, Hnext, hT5.set 0 _ (by simp) (by omega), (boxed_sp B1 hS5 (by omega)).other (by omega) _, (boxed_sp B2 hS5 (by omega)).other (by omega) _, ?_, (Sp.below hB hS5 (by have := B1.lt; omega) (by omega)).trans ((Below.refl n0 w5).setCell (show n0 ≤ m + 1 by omega) _), ?_⟩
                  · rw [show ((del ys s).length : Int) = (ys.length : Int) - 1 by rw [Hdn.out]; simp; omega]
                    exact b75.set _
                  · exact (Below.heap_setCell _ _ _ _ (show D ≠ m + 1 by omega)).trans ((hS5.block D (Array.getElem?_eq_some_iff.1 hDr).1 (by omega)).trans hDr)
                case measure => simp [intOf]; omega
            · obtain rfl : k = l.length := by omega
              have hys2 := hys.out
              rw [List.take_of_length_le (by rw [tx_len]; exact Nat.le_refl _)] at hys2
              obtain rfl : ys = [] := fill_nil hT.rs hys2
              have c7' : wr.cell? ⟨m + 1, 0, none⟩ = some (.int .i64 0) := c7
              have c4 : Calls Try.prog 28 #[.pointer (some ⟨g, 0, none⟩)] wr (fun e w' => e = .returned (.tuple #[.string ⟨#[]⟩, .int .i64 0, .bool false]) ∧ Below wr.heap.size wr w') := least2_any hT
              clear hys hys2 c7
              gi_wp2_with (first
                | (refine ⟨trivial, ?_⟩; gi_at_call 28; refine (callsIn_wide.2 c4).mono ?_; rintro e w5 ⟨rfl, hB5⟩; have c75 := (boxed_below b7 hB5 b7.lt).cell; have B25 := boxed_below B2 hB5 B2.lt; have c25 := B25.cell; have f25 := B25.frozen))
              have hD5 : (w5.setCell ⟨n0 + 1, 0, none⟩ (.bool true)).heap[D]? = some (.deferred (some [])) := (Below.heap_setCell _ _ _ _ (show D ≠ n0 + 1 by omega)).trans ((hB5.block D (Array.getElem?_eq_some_iff.1 hDr).1).trans hDr)
              refine ⟨by simp, .inl ⟨_, _, rfl, run_takeDeferred hD5, ?_⟩⟩
              have B26 := boxed_grow (B25.set (.bool true)) (Grow.putObj (X := fun k => k = D) _ D (.deferred none) rfl) (show ¬ n0 + 1 = D by omega)
              have c26 := B26.cell
              refine ⟨.bool true, by simp [results, Try.f6, go_sem, c26], rfl, ?_⟩
              rw [← Hn0.out]
              have hz : n0 ≤ wr.heap.size := by have := B1.lt; omega
              exact ((hB.trans (hB5.mono hz)).trans ((Below.refl n0 w5).setCell (show n0 ≤ n0 + 1 by omega) _)).trans (Grow.below' _ _ (by omega))
  · have hn2 : (60 : Int) < (n : Int) := by omega
    gi_wp2_with fail
    have b3' := b2'.set (.bool true)
    have c3 := b3'.cell
    exact ⟨.bool true, by simp [results, Try.f6, go_sem, c3], rfl, by rw [← Hn0.out]; exact hB3.trans ((Below.refl n0 w2).setCell (show n0 ≤ n0 + 1 by omega) _)⟩
end Go.Proofs.Ytogeifnkjckaiaa
