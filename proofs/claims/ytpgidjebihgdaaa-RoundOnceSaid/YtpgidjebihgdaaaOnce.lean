/- RoundOnce: the law answers true, whatever its numbers; nothing that was there changes. -/
import Derived.Test.YtpgidjebihgdaaaChains
import Derived.Test.YtpgidjebihgdaaaDrawn
namespace Go.Proofs.Ytpgidjebihgdaaa
open Go.RowKit Go.Shelf
attribute [local go_sem] Oper.semAt_some

theorem run_equalIn_nilFunc (d : Nat) (fn : Fn) (fi ca : Array Value) (W : World) : (Op.equalIn (d + 1) 26 (.func fn fi ca) .nilFunc).run Try.prog W = .ok false W := by
  simp [Op.equalIn, run_underlying Try.underlying26]
theorem run_equal_nilFunc (fn : Fn) (fi ca : Array Value) (W : World) : (Op.equal 26 (.func fn fi ca) .nilFunc).run Try.prog W = .ok false W := run_equalIn_nilFunc 9999 fn fi ca W
theorem run_eql_nilFunc (fn : Fn) (fi ca : Array Value) (W : World) : (binOp .eql 26 (.func fn fi ca) .nilFunc).run Try.prog W = .ok (.bool false) W := by
  simp only [binOp]
  simp [run_equal_nilFunc]

theorem count_upto (a b j : Int) : (upto a b).count j = if a ≤ j ∧ j < b then 1 else 0 := by
  unfold upto
  generalize hm : (b - a).toNat = m
  induction m generalizing b with
  | zero => simp; omega
  | succ m ih =>
    have := ih (b - 1) (by omega)
    rw [List.range_succ, List.map_append, List.count_append, this]
    simp only [List.map_cons, List.map_nil, List.count_cons, List.count_nil, beq_iff_eq]
    split <;> split <;> split <;> omega
theorem count_ofL (n : Nat) (frm j : Int) (hn : n ≤ 100) (h0 : 0 ≤ j) (h1 : j < n) : (ofL n frm).count j = 1 := by
  unfold ofL
  have hm : min (n : Int) 100000 = n := by omega
  rw [hm]
  split <;> rw [List.count_append, count_upto, count_upto]
  · split <;> split <;> omega
  · rw [if_pos (by omega), if_neg (by omega)]
/-- where the numbers begin -/
def beg (n : Nat) (frm : Int) : Nat := if 0 ≤ frm ∧ frm < n then frm.toNat else 0
theorem ofL_at (n : Nat) (frm : Int) (hn : n ≤ 100) (k : Nat) (hk : k < n) : (ofL n frm)[k]? = some (((beg n frm + k) % n : Nat) : Int) := by
  unfold ofL beg
  have hm : min (n : Int) 100000 = n := by omega
  rw [hm]
  split
  · rename_i h
    by_cases hlt : k < (n - frm).toNat
    · rw [List.getElem?_append_left (by rw [upto_len]; exact hlt), upto_at _ _ _ hlt, Nat.mod_eq_of_lt (by omega)]
      congr 1; omega
    · rw [List.getElem?_append_right (by rw [upto_len]; omega), upto_len, upto_at _ _ _ (by omega), Nat.mod_eq_sub_mod (by omega), Nat.mod_eq_of_lt (by omega)]
      congr 1; omega
  · rw [List.getElem?_append_left (by rw [upto_len]; omega), upto_at _ _ _ (by omega), Nat.mod_eq_of_lt (by omega)]
    congr 1
/-- a number that the law would not take behind those -/
def Bad (n : Nat) (pre : List Int) : Prop := ∃ p x, pre = p ++ [x] ∧ (x < 0 ∨ (n : Int) ≤ x ∨ (0 ≤ p.getLastD (-1) ∧ x ≠ (p.getLastD (-1) + 1) % n))
theorem not_bad (n : Nat) (frm : Int) (hn : n ≤ 100) (h1 : 1 ≤ n) (pre : List Int) (h : pre <+: ofL n frm) : ¬ Bad n pre := by
  rintro ⟨p, x, rfl, hb⟩
  obtain ⟨t, ht⟩ := h
  have hlen : (ofL n frm).length = n := by rw [ofL_len]; omega
  have hp : p.length < n := by rw [← hlen, ← ht]; simp
  have hx := ofL_at n frm hn p.length hp
  rw [← ht, List.append_assoc, List.getElem?_append_right (Nat.le_refl _), Nat.sub_self] at hx
  simp only [List.singleton_append, List.getElem?_cons_zero] at hx
  injection hx with hx
  have hlt := Nat.mod_lt (beg n frm + p.length) (show 0 < n by omega)
  rcases hb with hb | hb | ⟨h0, hb⟩
  · omega
  · omega
  · apply hb
    rcases List.eq_nil_or_concat p with rfl | ⟨q, y, rfl⟩
    · simp at h0
    · rw [List.concat_eq_append] at *
      have hy := ofL_at n frm hn q.length (by simp at hp; omega)
      rw [← ht, List.append_assoc, List.append_assoc, List.getElem?_append_right (Nat.le_refl _), Nat.sub_self] at hy
      simp only [List.singleton_append, List.getElem?_cons_zero] at hy
      injection hy with hy
      have e : (q ++ [y]).getLastD (-1) = y := by simp
      rw [e, hy, hx]
      have e2 : (q ++ [y]).length = q.length + 1 := by simp
      rw [e2, ← Nat.add_assoc, ← Nat.mod_add_mod]
      generalize (beg n frm + q.length) % n = z
      simp

theorem boxed_below {A B : World} {k : Nat} {t : TypeId} {v : Value} (h : Boxed A k t v) (hb : Below A.heap.size A B) : Boxed B k t v := (hb.block k h.lt).trans h
/-- block g holds how often each number below n stands in pre -/
structure Cnt (W : World) (g n : Nat) (pre : List Int) : Prop where
  lt : g < W.heap.size
  cell : ∀ j, j < n → W.cell? ⟨g, j, none⟩ = some (vI (pre.count (j : Int) : Nat))
  free : ∀ j, W.frozen? ⟨g, j, none⟩ = false
theorem Cnt.of_block {A B : World} {g n : Nat} {pre : List Int} (h : Cnt A g n pre) (hb : B.heap[g]? = A.heap[g]?) (hg : g < B.heap.size) : Cnt B g n pre :=
  ⟨hg, fun j hj => (World.cell?_of_block (w := A) (a := ⟨g, j, none⟩) hb).trans (h.cell j hj), fun j => (World.frozen?_of_block (w := A) (a := ⟨g, j, none⟩) hb).trans (h.free j)⟩
theorem Cnt.of_below {A B : World} {g n : Nat} {pre : List Int} (h : Cnt A g n pre) (hb : Below A.heap.size A B) : Cnt B g n pre := h.of_block (hb.block g h.lt) (Nat.lt_of_lt_of_le h.lt hb.size)
theorem Cnt.alloc {A : World} {g n : Nat} {pre : List Int} (h : Cnt A g n pre) (o : Obj) : Cnt (A.alloc o) g n pre := h.of_below ((Below.refl _ A).alloc (Nat.le_refl _) o)
theorem Cnt.put {W : World} {g n k : Nat} {pre : List Int} (h : Cnt W g n pre) (hk : k < n) : Cnt (W.setCell ⟨g, k, none⟩ (vI ((pre.count (k : Int) : Nat) + 1))) g n (pre ++ [(k : Int)]) := by
  refine ⟨by simpa [World.setCell] using h.lt, fun j hj => ?_, fun j => by rw [World.frozen?_setCell]; exact h.free j⟩
  rw [List.count_append, List.count_singleton]
  by_cases e : j = k
  · subst e
    rw [World.cell?_setCell_same' _ _ _ (by rw [h.cell j hj]; rfl)]
    simp
  · rw [World.cell?_setCell_other _ _ _ _ (by intro h'; injection h' with _ h'; exact e h'.symm), h.cell j hj, if_neg (by simp; omega)]
    simp
theorem cnt_new (W : World) (n : Nat) : Cnt (W.alloc (.cells (madeCells #[.int .i64 0] n) 3)) W.heap.size n [] := by
  have hb : (W.alloc (.cells (madeCells #[.int .i64 0] n) 3)).heap[W.heap.size]? = some (.cells (madeCells #[.int .i64 0] n) 3 (0, 0)) := World.alloc_heap_new W _
  refine ⟨(Array.getElem?_eq_some_iff.1 hb).1, fun j hj => ?_, fun j => ?_⟩
  · have e : (madeCells #[Value.int .i64 0] n)[j]? = some (.int .i64 0) := by
      simp [madeCells, hj, Nat.mod_one]
    unfold World.cell?
    rw [show (W.alloc (.cells (madeCells #[.int .i64 0] n) 3)).heap[(⟨W.heap.size, j, none⟩ : Addr).block]? = _ from hb]
    exact e
  · unfold World.frozen?
    rw [show (W.alloc (.cells (madeCells #[.int .i64 0] n) 3)).heap[(⟨W.heap.size, j, none⟩ : Addr).block]? = _ from hb]
    simp
/-- the law's own blocks: its answer, n, the list's head, the counts, how many, the last one -/
structure At (Br Bn Bs g Bc Bl n : Nat) (pre : List Int) (W : World) : Prop where
  hr : Boxed W Br 4 (.bool false)
  hn : Boxed W Bn 3 (vI n)
  hs : Boxed W Bs 23 (.slice (some ⟨g, 0, none⟩) n n)
  ha : Cnt W g n pre
  hc : Boxed W Bc 3 (vI pre.length)
  hl : Boxed W Bl 3 (vI (pre.getLastD (-1)))
def Six (Br Bn Bs g Bc Bl : Nat) : Set' := fun k => k = Br ∨ k = Bn ∨ k = Bs ∨ k = g ∨ k = Bc ∨ k = Bl
theorem At.same {Br Bn Bs g Bc Bl n : Nat} {pre : List Int} {A B : World} (h : At Br Bn Bs g Bc Bl n pre A) (hb : ∀ k, Six Br Bn Bs g Bc Bl k → B.heap[k]? = A.heap[k]?) (hg : g < B.heap.size) : At Br Bn Bs g Bc Bl n pre B :=
  ⟨(hb Br (.inl rfl)).trans h.hr, (hb Bn (.inr (.inl rfl))).trans h.hn, (hb Bs (.inr (.inr (.inl rfl)))).trans h.hs, h.ha.of_block (hb g (.inr (.inr (.inr (.inl rfl))))) hg, (hb Bc (.inr (.inr (.inr (.inr (.inl rfl)))))).trans h.hc, (hb Bl (.inr (.inr (.inr (.inr (.inr rfl)))))).trans h.hl⟩
theorem other_set {A : World} (b b' off : Nat) (v : Value) (h : b' ≠ b) : (A.setCell ⟨b, off, none⟩ v).heap[b']? = A.heap[b']? := Below.heap_setCell A ⟨b, off, none⟩ v b' h
theorem size_set (A : World) (p : Addr) (v : Value) : (A.setCell p v).heap.size = A.heap.size := by simp [World.setCell]
/-- a number more is told -/
theorem At.step {Br Bn Bs g Bc Bl n k : Nat} {pre : List Int} {A : World} (h : At Br Bn Bs g Bc Bl n pre A) (hk : k < n) (o : Br < Bn ∧ Bn < g ∧ g < Bs ∧ Bs < Bc ∧ Bc < Bl) :
    At Br Bn Bs g Bc Bl n (pre ++ [(k : Int)]) (((A.setCell ⟨g, k, none⟩ (vI ((pre.count (k : Int) : Nat) + 1))).setCell ⟨Bl, 0, none⟩ (vI k)).setCell ⟨Bc, 0, none⟩ (vI (pre.length + 1))) := by
  have e1 : (((pre ++ [(k : Int)]).length : Nat) : Int) = pre.length + 1 := by simp
  have e2 : (pre ++ [(k : Int)]).getLastD (-1) = k := by simp
  refine ⟨?_, ?_, ?_, ?_, ?_, ?_⟩
  · exact (other_set _ _ _ _ (by omega)).trans ((other_set _ _ _ _ (by omega)).trans ((other_set _ _ _ _ (by omega)).trans h.hr))
  · exact (other_set _ _ _ _ (by omega)).trans ((other_set _ _ _ _ (by omega)).trans ((other_set _ _ _ _ (by omega)).trans h.hn))
  · exact (other_set _ _ _ _ (by omega)).trans ((other_set _ _ _ _ (by omega)).trans ((other_set _ _ _ _ (by omega)).trans h.hs))
  · exact (h.ha.put hk).of_block ((other_set _ _ _ _ (by omega)).trans (other_set _ _ _ _ (by omega))) (by rw [size_set, size_set, size_set]; exact h.ha.lt)
  · rw [e1]
    have hb : Boxed ((A.setCell ⟨g, k, none⟩ (vI ((pre.count (k : Int) : Nat) + 1))).setCell ⟨Bl, 0, none⟩ (vI k)) Bc 3 (vI pre.length) := (other_set _ _ _ _ (by omega)).trans ((other_set _ _ _ _ (by omega)).trans h.hc)
    exact hb.set _
  · rw [e2]
    have hb : Boxed (A.setCell ⟨g, k, none⟩ (vI ((pre.count (k : Int) : Nat) + 1))) Bl 3 (vI (pre.getLastD (-1))) := (other_set _ _ _ _ (by omega)).trans h.hl
    exact (other_set _ _ _ _ (by omega)).trans (hb.set _)
theorem At.drewN {Br Bn Bs g Bc Bl n : Nat} {pre : List Int} {A : World} (h : At Br Bn Bs g Bc Bl n pre A) (q : Nat) : At Br Bn Bs g Bc Bl n pre (A.drewN q) := h.same (fun _ _ => rfl) h.ha.lt

set_option maxRecDepth 100000 in
set_option maxHeartbeats 8000000 in
theorem once_go (m : Nat) (frm : Int) (w : World) (hm : m < 256) :
    Calls Try.prog 4 #[.int .u8 m, vI frm] w (fun e w' => e = .returned (.bool true) ∧ Below w.heap.size w w') := by
  obtain ⟨i0, hi, hz0, hz1, hz2⟩ := info_parts infoI2
  obtain ⟨n, hn, hn1, hn2⟩ : ∃ n : Nat, 1 + (m : Int) % 100 = n ∧ 1 ≤ n ∧ n ≤ 100 := ⟨1 + m % 100, by omega, by omega, by omega⟩
  have hmk : ∀ W : World, (Instr.makeSlice 23 (.int .i64 n) (.int .i64 n)).run Try.prog W = .ok (.slice (some ⟨W.heap.size, 0, none⟩) n n) (W.alloc (.cells (madeCells #[.int .i64 0] n) 3)) := fun W => by
    have h := run_make (P := Try.prog) W 23 3 i0 (.int .i64 0) Try.underlying23 hi hz0 .i64 .i64 n n (by omega) (by omega) (by rw [hz2]; omega) (by omega)
    rw [hz1, Int.toNat_natCast, Nat.mul_one] at h
    exact h
  have hnf := run_eql_nilFunc
  refine (callsIn_wide (n := 6)).1 ?_
  refine callsIn_of_wp_marks Try.func4 rfl trivial ?_ rfl
  simp only [Try.ntmps4, List.size_toArray, List.length_cons, List.length_nil, Nat.reduceAdd, Nat.reduceSub, Array.replicate_succ, Array.replicate_zero, List.push_toArray, List.append_toArray, List.nil_append, List.cons_append]
  gi_wp2_with (first
    | (refine ⟨trivial, ?_⟩; gi_at_call 8; refine (callsIn_wide.2 (awake_any _)).mono ?_; rintro e w1 ⟨rfl, hB1⟩)
    | (refine ⟨trivial, ?_⟩; gi_at_call 10; refine (callsIn_wide.2 (of_new _ frm _)).mono ?_; rintro e w2 ⟨lb, rfl, hS, hB2⟩))
  clear hnf hmk
  have k1 := boxed_below (((((boxed_below (Boxed.new w 4 (.bool false)) hB1).alloc (.cells #[vI n] 3)).alloc (.cells (madeCells #[.int .i64 0] n) 3)).alloc (.cells #[.slice (some ⟨w1.heap.size + 1, 0, none⟩) n n] 23)).alloc (.cells #[vI 0] 3) |>.alloc (.cells #[vI (-1)] 3)) hB2
  have k2 := boxed_below (((((Boxed.new w1 3 (vI n)).alloc (.cells (madeCells #[.int .i64 0] n) 3)).alloc (.cells #[.slice (some ⟨w1.heap.size + 1, 0, none⟩) n n] 23)).alloc (.cells #[vI 0] 3)).alloc (.cells #[vI (-1)] 3)) hB2
  have k3 := (((cnt_new (w1.alloc (.cells #[vI n] 3)) n).alloc (.cells #[.slice (some ⟨w1.heap.size + 1, 0, none⟩) n n] 23)).alloc (.cells #[vI 0] 3)).alloc (.cells #[vI (-1)] 3) |>.of_below hB2
  have k4 := boxed_below (((Boxed.new ((w1.alloc (.cells #[vI n] 3)).alloc (.cells (madeCells #[.int .i64 0] n) 3)) 23 (.slice (some ⟨w1.heap.size + 1, 0, none⟩) n n)).alloc (.cells #[vI 0] 3)).alloc (.cells #[vI (-1)] 3)) hB2
  have k5 := boxed_below ((Boxed.new (((w1.alloc (.cells #[vI n] 3)).alloc (.cells (madeCells #[.int .i64 0] n) 3)).alloc (.cells #[.slice (some ⟨w1.heap.size + 1, 0, none⟩) n n] 23)) 3 (vI 0)).alloc (.cells #[vI (-1)] 3)) hB2
  have k6 := boxed_below (Boxed.new ((((w1.alloc (.cells #[vI n] 3)).alloc (.cells (madeCells #[.int .i64 0] n) 3)).alloc (.cells #[.slice (some ⟨w1.heap.size + 1, 0, none⟩) n n] 23)).alloc (.cells #[vI 0] 3)) 3 (vI (-1))) hB2
  have hs1 := hB1.size
  have hs2 := hB2.size
  simp only [World.size_alloc] at k1 k2 k3 k4 k5 k6 hs1 hs2
  have hB : Below w.heap.size w w2 := by
    refine bthen (bthen (bthen ((Below.refl _ w).alloc (Nat.le_refl _) _) hB1) ?_) hB2
    exact (((((Below.refl _ w1).alloc (Nat.le_refl _) _).alloc (by simp) _).alloc (by simp; omega) _).alloc (by simp; omega) _).alloc (by simp; omega) _
  obtain ⟨eg, E, hIt, hE⟩ := hS
  simp only [World.size_alloc] at hE
  clear hB1 hB2 hi hz0 hz1 hz2
  have Hn := Lib.hid hn
  clear hn
  obtain ⟨Bl, eBl⟩ : ∃ Bl, Bl = w1.heap.size + 1 + 1 + 1 + 1 := ⟨_, rfl⟩
  obtain ⟨Bc, eBc⟩ : ∃ Bc, Bc = w1.heap.size + 1 + 1 + 1 := ⟨_, rfl⟩
  obtain ⟨Bs, eBs⟩ : ∃ Bs, Bs = w1.heap.size + 1 + 1 := ⟨_, rfl⟩
  obtain ⟨g, eg'⟩ : ∃ g, g = w1.heap.size + 1 := ⟨_, rfl⟩
  obtain ⟨Bn, eBn⟩ : ∃ Bn, Bn = w1.heap.size := ⟨_, rfl⟩
  obtain ⟨Br, eBr⟩ : ∃ Br, Br = w.heap.size := ⟨_, rfl⟩
  rw [← eBl] at k6 ⊢
  rw [← eBc] at k5 ⊢
  rw [← eBs] at k4 ⊢
  rw [← eg'] at k3 k4 ⊢
  rw [← eBn] at k2 ⊢
  rw [← eBr] at k1 ⊢
  have hA0 : At Br Bn Bs g Bc Bl n [] w2 := ⟨k1, k2, k4, k3, k5, k6⟩
  have hord : Br < Bn ∧ Bn < g ∧ g < Bs ∧ Bs < Bc ∧ Bc < Bl ∧ Bl < w2.heap.size := ⟨by omega, by omega, by omega, by omega, by omega, by omega⟩
  have hE2 : ∀ k, E k → Bl < k := fun k hk => by have := hE k hk; omega
  have hwr : w.heap.size ≤ Br := by omega
  clear hE k1 k2 k3 k4 k5 k6 hs1 hs2 eBl eBc eBs eg' eBn eBr
  obtain ⟨o1, o2, o3, o4, o5, o6⟩ := hord
  have hsix : ∀ k, Six Br Bn Bs g Bc Bl k → Br ≤ k ∧ k < w2.heap.size ∧ ¬ E k := fun k hk => by
    have h1 : Br ≤ k ∧ k ≤ Bl := by rcases hk with rfl | rfl | rfl | rfl | rfl | rfl <;> omega
    exact ⟨h1.1, by omega, fun e => by have := hE2 k e; omega⟩
  refine wpIn_range (lb := lb) rfl eg hIt rfl
    (fun Y pre V => (At Br Bn Bs g Bc Bl n pre V ∧ ∀ k, Y k → w2.heap.size ≤ k) ∧ (∀ y ∈ pre, 0 ≤ y ∧ y < n) ∧ Below w.heap.size w V ∧ w2.heap.size ≤ V.heap.size)
    (fun c Y pre V => c = .ret ∧ Bad n pre) ?ab (fun _ _ _ _ _ _ h _ => h) ⟨⟨hA0, fun _ h => h.elim⟩, by simp, hB, Nat.le_refl _⟩
    (fun x => { tmps := #[.int .u8 m, vI frm, undef, undef, ptr Br, .bool true, ptr Bn, ptr Bs, ptr Bc, ptr Bl, fv 31 lb, vI x, undef, .bool true, .int .u8 m, .int .u8 ((m : Int) % 100), vI ((m : Int) % 100), vI n, vI n, .slice (some ⟨g, 0, none⟩) n n, vI n, vI frm, fv 31 lb, fv 31 lb, .bool false, fv 31 lb, vI x, undef, undef, undef, undef, undef, undef, undef, undef, undef, undef, undef, undef, undef, undef, undef, undef, undef, undef, undef, undef, undef, undef, undef, undef, undef, undef, undef, undef, undef, undef, undef, undef, undef, undef, undef, undef, undef, undef, undef, undef, undef, undef, undef, undef, undef, undef], defers := [] }) ?assign ?body ?done ?stop
  case ab =>
    rintro X X' s A B ⟨⟨h1, h2⟩, h3, h4, h5⟩ hg
    have hx' : ∀ k, X' k → w2.heap.size ≤ k := fun k hk => (hg.new k hk).elim (h2 k) (fun e => by omega)
    refine ⟨⟨h1.same (fun k hk => ?_) (Nat.lt_of_lt_of_le h1.ha.lt hg.size), hx'⟩, h3, ⟨hg.os.trans h4.os, hg.tape.trans h4.tape, hg.output.trans h4.output, Nat.le_trans h4.size hg.size, fun k hk => (hg.block k (Nat.lt_of_lt_of_le hk h4.size) (fun e => ?_)).trans (h4.block k hk)⟩, Nat.le_trans h5 hg.size⟩
    · have := hsix k hk
      exact hg.block k (by omega) (fun e => by have := h2 k e; omega)
    · have := h2 k e
      omega
  case assign =>
    intro l x W K hK
    gi_wp2
    exact hK
  case body =>
    rintro l1 Y pre x V hl ⟨⟨hA, hYl⟩, hin, hBV, hsV⟩ hlt
    have cN := hA.hn.cell
    have cR := hA.hr.cell
    have fR := hA.hr.frozen
    have cS := hA.hs.cell
    have cC := hA.hc.cell
    have fC := hA.hc.frozen
    have cL := hA.hl.cell
    have fL := hA.hl.frozen
    have hbadS : ∀ V', V' = V.setCell ⟨Br, 0, none⟩ (.bool false) → Kept E Y V V' := by
      rintro V' rfl
      exact kept_set _ _ _ (hsix Br (.inl rfl)).2.2 (fun e => by have := hYl _ e; omega)
    by_cases hx0 : x < 0
    · gi_wp2
      exact ⟨hbadS _ rfl, rfl, pre, x, rfl, .inl hx0⟩
    obtain ⟨k, rfl⟩ := Int.eq_ofNat_of_zero_le (show 0 ≤ x by omega)
    by_cases hxn : n ≤ k
    · have hxn' : (n : Int) ≤ (k : Int) := by omega
      gi_wp2
      exact ⟨hbadS _ rfl, rfl, pre, _, rfl, .inr (.inl (by omega))⟩
    have hxn' : (k : Int) < (n : Int) := by omega
    obtain ⟨z, hz⟩ : ∃ z, z = pre.getLastD (-1) := ⟨_, rfl⟩
    rw [← hz] at cL
    have Hz := Lib.hid hz
    have hzr : z < n ∧ -1 ≤ z := by
      rw [hz]
      rcases List.eq_nil_or_concat pre with rfl | ⟨q, y, rfl⟩
      · simp; omega
      · rw [List.concat_eq_append] at hin ⊢
        have := hin y (by simp)
        simp; omega
    clear hz
    by_cases hbad : 0 ≤ z ∧ (k : Int) ≠ (z + 1) % n
    · obtain ⟨hb1, hb2⟩ := hbad
      have Hb1 := Lib.hid hb1
      have Hb2 := Lib.hid hb2
      have hb3 : ((k : Int) != (z + 1).tmod n) = true := by
        rw [Int.tmod_eq_emod_of_nonneg (by omega)]
        simpa using hb2
      gi_wp2
      exact ⟨hbadS _ rfl, rfl, pre, _, rfl, .inr (.inr ⟨by rw [← Hz.out]; exact Hb1.out, by rw [← Hz.out]; exact Hb2.out⟩)⟩
    · have cA := hA.ha.cell k (by omega)
      have fA := hA.ha.free k
      obtain ⟨ct, hct⟩ : ∃ ct, ct = pre.count (k : Int) := ⟨_, rfl⟩
      have hcl : ct ≤ 200000 := by rw [hct]; have := List.count_le_length (a := (k : Int)) (l := pre); omega
      rw [← hct] at cA
      have Hct := Lib.hid hct
      clear hct
      have n1 : Bl ≠ g := by omega
      have n2 : g ≠ Bl := by omega
      have n3 : Bc ≠ g := by omega
      have n4 : g ≠ Bc := by omega
      have n5 : Bl ≠ Bc := by omega
      have n6 : Bc ≠ Bl := by omega
      have hgood : ∀ (q : Nat) (a : Act), rPost E Y (fun Y pre V => (At Br Bn Bs g Bc Bl n pre V ∧ ∀ k, Y k → w2.heap.size ≤ k) ∧ (∀ y ∈ pre, 0 ≤ y ∧ y < n) ∧ Below w.heap.size w V ∧ w2.heap.size ≤ V.heap.size)
          (fun c Y pre V => c = .ret ∧ Bad n pre) (pre ++ [(k : Int)]) V .normal a ((((V.drewN q).setCell ⟨g, k, none⟩ (vI (ct + 1))).setCell ⟨Bl, 0, none⟩ (vI k)).setCell ⟨Bc, 0, none⟩ (vI (pre.length + 1))) := by
        intro q a
        rw [Hct.out]
        have hoth : ∀ i, ¬ Six Br Bn Bs g Bc Bl i → ((((V.drewN q).setCell ⟨g, k, none⟩ (vI ((pre.count (k : Int) : Nat) + 1))).setCell ⟨Bl, 0, none⟩ (vI k)).setCell ⟨Bc, 0, none⟩ (vI (pre.length + 1))).heap[i]? = V.heap[i]? := fun i hi =>
          (other_set _ _ _ _ (fun e => hi (.inr (.inr (.inr (.inr (.inl e))))))).trans ((other_set _ _ _ _ (fun e => hi (.inr (.inr (.inr (.inr (.inr e))))))).trans (other_set _ _ _ _ (fun e => hi (.inr (.inr (.inr (.inl e)))))))
        refine ⟨fun i hi => hoth i (fun e => ?_), ⟨(hA.drewN q).step (by omega) ⟨o1, o2, o3, o4, o5⟩, hYl⟩, fun y hy => ?_, ⟨hBV.os, hBV.tape, hBV.output, by rw [size_set, size_set, size_set]; exact hBV.size, fun i hi => (hoth i (fun e => ?_)).trans (hBV.block i hi)⟩, by rw [size_set, size_set, size_set]; exact hsV⟩
        · have := hsix i e
          rcases hi with hi | hi
          · exact this.2.2 hi
          · have := hYl i hi; omega
        · rcases List.mem_append.1 hy with hy | hy
          · exact hin y hy
          · obtain rfl : y = k := by simpa using hy
            omega
        · have := hsix i e; omega
      have Hgood := Lib.hid hgood
      clear hgood
      by_cases hz0 : z < 0
      · gi_wp2
        have hmx : Try.prog.follows .mixedOrders = true := by kernel_rfl
        refine region_inRound l1 hmx (by kernel_rfl) ?_
        refine wpAnyIn_take (i := 1) (v := vI k) rfl rfl (by kernel_rfl) (by kernel_rfl) (by kernel_rfl) (fun _ _ _ h => h) ⟨Or.inl ⟨by rfl, by (intro w; go_simp)⟩, fun _ => rfl⟩ ?_
        refine wpAnyIn_take (i := 3) (v := vI k) rfl rfl (by kernel_rfl) (by kernel_rfl) (by kernel_rfl) (fun _ _ _ h => h) ⟨Or.inl ⟨by rfl, by (intro w; go_simp)⟩, fun _ => rfl⟩ ?_
        refine wpAnyIn_ready (rs := [0, 2]) (by kernel_rfl) (by simp) ?_
        refine AllReadyIn.cons rfl (fun K hK => ?_) ?_
        · go_simp
          refine hK _ _ ?_
          clear hK K
          refine wpAnyIn_ready (rs := [2]) (by kernel_rfl) (by simp) ?_
          refine AllReadyIn.cons rfl (fun K hK => ?_) AllReadyIn.nil
          go_simp
          refine hK _ _ ?_
          clear hK K
          refine wpAnyIn_take (i := 4) (v := .pointer (some ⟨g, k, none⟩)) rfl rfl (by kernel_rfl) (by kernel_rfl) (by kernel_rfl) (fun _ _ _ h => h) ⟨Or.inl ⟨by rfl, by (intro w; go_simp)⟩, fun _ => rfl⟩ ?_
          refine wpAnyIn_ready (rs := [5]) (by kernel_rfl) (by simp) ?_
          refine AllReadyIn.cons rfl (fun K hK => ?_) AllReadyIn.nil
          go_simp
          refine hK _ _ ?_
          clear hK K
          refine wpAnyIn_take (i := 6) (v := vI (ct + 1)) rfl rfl (by kernel_rfl) (by kernel_rfl) (by kernel_rfl) (fun _ _ _ h => h) ⟨Or.inl ⟨by rfl, by (intro w; go_simp; exact Go.IntWalk.i64_in _ (by omega))⟩, fun _ => rfl⟩ ?_
          refine wpAnyIn_take (i := 7) (v := .pointer (some ⟨g, k, none⟩)) rfl rfl (by kernel_rfl) (by kernel_rfl) (by kernel_rfl) (fun _ _ _ h => h) ⟨Or.inl ⟨by rfl, by (intro w; go_simp)⟩, fun _ => rfl⟩ ?_
          refine wpAnyIn_ready (rs := [8]) (by kernel_rfl) (by simp) ?_
          refine AllReadyIn.cons rfl (fun K hK => ?_) AllReadyIn.nil
          go_simp
          refine hK _ _ ?_
          clear hK K
          refine wpAnyIn_done (by kernel_rfl) ?_ _
          gi_wp2
          exact Hgood.out 1 _
        refine AllReadyIn.cons rfl (fun K hK => ?_) AllReadyIn.nil
        go_simp
        refine hK _ _ ?_
        clear hK K
        refine wpAnyIn_take (i := 4) (v := .pointer (some ⟨g, k, none⟩)) rfl rfl (by kernel_rfl) (by kernel_rfl) (by kernel_rfl) (fun _ _ _ h => h) ⟨Or.inl ⟨by rfl, by (intro w; go_simp)⟩, fun _ => rfl⟩ ?_
        refine wpAnyIn_ready (rs := [0, 5]) (by kernel_rfl) (by simp) ?_
        refine AllReadyIn.cons rfl (fun K hK => ?_) ?_
        · go_simp
          refine hK _ _ ?_
          clear hK K
          refine wpAnyIn_ready (rs := [5]) (by kernel_rfl) (by simp) ?_
          refine AllReadyIn.cons rfl (fun K hK => ?_) AllReadyIn.nil
          go_simp
          refine hK _ _ ?_
          clear hK K
          refine wpAnyIn_take (i := 6) (v := vI (ct + 1)) rfl rfl (by kernel_rfl) (by kernel_rfl) (by kernel_rfl) (fun _ _ _ h => h) ⟨Or.inl ⟨by rfl, by (intro w; go_simp; exact Go.IntWalk.i64_in _ (by omega))⟩, fun _ => rfl⟩ ?_
          refine wpAnyIn_take (i := 7) (v := .pointer (some ⟨g, k, none⟩)) rfl rfl (by kernel_rfl) (by kernel_rfl) (by kernel_rfl) (fun _ _ _ h => h) ⟨Or.inl ⟨by rfl, by (intro w; go_simp)⟩, fun _ => rfl⟩ ?_
          refine wpAnyIn_ready (rs := [8]) (by kernel_rfl) (by simp) ?_
          refine AllReadyIn.cons rfl (fun K hK => ?_) AllReadyIn.nil
          go_simp
          refine hK _ _ ?_
          clear hK K
          refine wpAnyIn_done (by kernel_rfl) ?_ _
          gi_wp2
          exact Hgood.out 1 _
        refine AllReadyIn.cons rfl (fun K hK => ?_) AllReadyIn.nil
        go_simp
        refine hK _ _ ?_
        clear hK K
        refine wpAnyIn_take (i := 6) (v := vI (ct + 1)) rfl rfl (by kernel_rfl) (by kernel_rfl) (by kernel_rfl) (fun _ _ _ h => h) ⟨Or.inl ⟨by rfl, by (intro w; go_simp; exact Go.IntWalk.i64_in _ (by omega))⟩, fun _ => rfl⟩ ?_
        refine wpAnyIn_ready (rs := [0]) (by kernel_rfl) (by simp) ?_
        refine AllReadyIn.cons rfl (fun K hK => ?_) AllReadyIn.nil
        go_simp
        refine hK _ _ ?_
        clear hK K
        refine wpAnyIn_take (i := 7) (v := .pointer (some ⟨g, k, none⟩)) rfl rfl (by kernel_rfl) (by kernel_rfl) (by kernel_rfl) (fun _ _ _ h => h) ⟨Or.inl ⟨by rfl, by (intro w; go_simp)⟩, fun _ => rfl⟩ ?_
        refine wpAnyIn_ready (rs := [8]) (by kernel_rfl) (by simp) ?_
        refine AllReadyIn.cons rfl (fun K hK => ?_) AllReadyIn.nil
        go_simp
        refine hK _ _ ?_
        clear hK K
        refine wpAnyIn_done (by kernel_rfl) ?_ _
        gi_wp2
        exact Hgood.out 1 _
      · have hz1 : 0 ≤ z := by omega
        have hb3 : ((k : Int) != (z + 1).tmod n) = false := by
          rw [Int.tmod_eq_emod_of_nonneg (by omega)]
          simp
          by_cases e : (k : Int) = (z + 1) % n
          · exact e
          · exact absurd ⟨hz1, e⟩ hbad
        gi_wp2
        have hmx : Try.prog.follows .mixedOrders = true := by kernel_rfl
        refine region_inRound l1 hmx (by kernel_rfl) ?_
        refine wpAnyIn_take (i := 1) (v := vI k) rfl rfl (by kernel_rfl) (by kernel_rfl) (by kernel_rfl) (fun _ _ _ h => h) ⟨Or.inl ⟨by rfl, by (intro w; go_simp)⟩, fun _ => rfl⟩ ?_
        refine wpAnyIn_take (i := 3) (v := vI k) rfl rfl (by kernel_rfl) (by kernel_rfl) (by kernel_rfl) (fun _ _ _ h => h) ⟨Or.inl ⟨by rfl, by (intro w; go_simp)⟩, fun _ => rfl⟩ ?_
        refine wpAnyIn_ready (rs := [0, 2]) (by kernel_rfl) (by simp) ?_
        refine AllReadyIn.cons rfl (fun K hK => ?_) ?_
        · go_simp
          refine hK _ _ ?_
          clear hK K
          refine wpAnyIn_ready (rs := [2]) (by kernel_rfl) (by simp) ?_
          refine AllReadyIn.cons rfl (fun K hK => ?_) AllReadyIn.nil
          go_simp
          refine hK _ _ ?_
          clear hK K
          refine wpAnyIn_take (i := 4) (v := .pointer (some ⟨g, k, none⟩)) rfl rfl (by kernel_rfl) (by kernel_rfl) (by kernel_rfl) (fun _ _ _ h => h) ⟨Or.inl ⟨by rfl, by (intro w; go_simp)⟩, fun _ => rfl⟩ ?_
          refine wpAnyIn_ready (rs := [5]) (by kernel_rfl) (by simp) ?_
          refine AllReadyIn.cons rfl (fun K hK => ?_) AllReadyIn.nil
          go_simp
          refine hK _ _ ?_
          clear hK K
          refine wpAnyIn_take (i := 6) (v := vI (ct + 1)) rfl rfl (by kernel_rfl) (by kernel_rfl) (by kernel_rfl) (fun _ _ _ h => h) ⟨Or.inl ⟨by rfl, by (intro w; go_simp; exact Go.IntWalk.i64_in _ (by omega))⟩, fun _ => rfl⟩ ?_
          refine wpAnyIn_take (i := 7) (v := .pointer (some ⟨g, k, none⟩)) rfl rfl (by kernel_rfl) (by kernel_rfl) (by kernel_rfl) (fun _ _ _ h => h) ⟨Or.inl ⟨by rfl, by (intro w; go_simp)⟩, fun _ => rfl⟩ ?_
          refine wpAnyIn_ready (rs := [8]) (by kernel_rfl) (by simp) ?_
          refine AllReadyIn.cons rfl (fun K hK => ?_) AllReadyIn.nil
          go_simp
          refine hK _ _ ?_
          clear hK K
          refine wpAnyIn_done (by kernel_rfl) ?_ _
          gi_wp2
          exact Hgood.out 1 _
        refine AllReadyIn.cons rfl (fun K hK => ?_) AllReadyIn.nil
        go_simp
        refine hK _ _ ?_
        clear hK K
        refine wpAnyIn_take (i := 4) (v := .pointer (some ⟨g, k, none⟩)) rfl rfl (by kernel_rfl) (by kernel_rfl) (by kernel_rfl) (fun _ _ _ h => h) ⟨Or.inl ⟨by rfl, by (intro w; go_simp)⟩, fun _ => rfl⟩ ?_
        refine wpAnyIn_ready (rs := [0, 5]) (by kernel_rfl) (by simp) ?_
        refine AllReadyIn.cons rfl (fun K hK => ?_) ?_
        · go_simp
          refine hK _ _ ?_
          clear hK K
          refine wpAnyIn_ready (rs := [5]) (by kernel_rfl) (by simp) ?_
          refine AllReadyIn.cons rfl (fun K hK => ?_) AllReadyIn.nil
          go_simp
          refine hK _ _ ?_
          clear hK K
          refine wpAnyIn_take (i := 6) (v := vI (ct + 1)) rfl rfl (by kernel_rfl) (by kernel_rfl) (by kernel_rfl) (fun _ _ _ h => h) ⟨Or.inl ⟨by rfl, by (intro w; go_simp; exact Go.IntWalk.i64_in _ (by omega))⟩, fun _ => rfl⟩ ?_
          refine wpAnyIn_take (i := 7) (v := .pointer (some ⟨g, k, none⟩)) rfl rfl (by kernel_rfl) (by kernel_rfl) (by kernel_rfl) (fun _ _ _ h => h) ⟨Or.inl ⟨by rfl, by (intro w; go_simp)⟩, fun _ => rfl⟩ ?_
          refine wpAnyIn_ready (rs := [8]) (by kernel_rfl) (by simp) ?_
          refine AllReadyIn.cons rfl (fun K hK => ?_) AllReadyIn.nil
          go_simp
          refine hK _ _ ?_
          clear hK K
          refine wpAnyIn_done (by kernel_rfl) ?_ _
          gi_wp2
          exact Hgood.out 1 _
        refine AllReadyIn.cons rfl (fun K hK => ?_) AllReadyIn.nil
        go_simp
        refine hK _ _ ?_
        clear hK K
        refine wpAnyIn_take (i := 6) (v := vI (ct + 1)) rfl rfl (by kernel_rfl) (by kernel_rfl) (by kernel_rfl) (fun _ _ _ h => h) ⟨Or.inl ⟨by rfl, by (intro w; go_simp; exact Go.IntWalk.i64_in _ (by omega))⟩, fun _ => rfl⟩ ?_
        refine wpAnyIn_ready (rs := [0]) (by kernel_rfl) (by simp) ?_
        refine AllReadyIn.cons rfl (fun K hK => ?_) AllReadyIn.nil
        go_simp
        refine hK _ _ ?_
        clear hK K
        refine wpAnyIn_take (i := 7) (v := .pointer (some ⟨g, k, none⟩)) rfl rfl (by kernel_rfl) (by kernel_rfl) (by kernel_rfl) (fun _ _ _ h => h) ⟨Or.inl ⟨by rfl, by (intro w; go_simp)⟩, fun _ => rfl⟩ ?_
        refine wpAnyIn_ready (rs := [8]) (by kernel_rfl) (by simp) ?_
        refine AllReadyIn.cons rfl (fun K hK => ?_) AllReadyIn.nil
        go_simp
        refine hK _ _ ?_
        clear hK K
        refine wpAnyIn_done (by kernel_rfl) ?_ _
        gi_wp2
        exact Hgood.out 1 _
  case stop =>
    rintro Y D c' pre V hD hD0 hXY hpre ⟨rfl, hbad⟩ hK
    exact absurd hbad (not_bad n frm hn2 hn1 pre hpre)
  case done =>
    rintro Y D ys V hD hD0 hXY hS ⟨⟨hA, hYl⟩, hin, hBV, hsV⟩ hK
    have hys : ys.length = n := by rw [hS, ofL_len]; omega
    have hcnt : ∀ j : Nat, j < n → V.cell? ⟨g, j, none⟩ = some (vI 1) := fun j hj => by
      have h1 := hA.ha.cell j hj
      rw [hS, count_ofL n frm j hn2 (by omega) (by omega)] at h1
      exact h1
    have cN := hA.hn.cell
    have cR := hA.hr.cell
    have fR := hA.hr.frozen
    have cS := hA.hs.cell
    have cC := hA.hc.cell
    rw [hys] at cC
    have hDR : D ≠ Br := fun e => by have := hYl D hD; omega
    have lR := hA.hr
    have Hcnt := Lib.hid hcnt
    clear hcnt hys hS hA hA0 hIt eg hE2 hsix hB hin Hn
    gi_wp2
    gi_loopw [12] (fun i wr => ∃ k : Nat, k ≤ n ∧ i = .int .i64 k ∧ wr = V) (fun i _ => n - (intOf i).toNat)
    case atStart => exact ⟨0, Nat.zero_le _, rfl, rfl⟩
    case round =>
      obtain ⟨k, hk, rfl, rfl⟩ := hrel
      by_cases hlt : k < n
      · have hk1 : (k : Int) < (n : Int) := by omega
        have cA := Hcnt.out k hlt
        gi_wp2
        go_roundw
        case rel => exact ⟨k + 1, by omega, by go_num, trivial⟩
        case measure => simp [intOf]; omega
      · obtain rfl : k = n := by omega
        gi_wp2
        have hK' : (wr.setCell ⟨Br, 0, none⟩ (.bool true)).heap[D]? = some (.deferred (some [])) := (other_set _ _ _ _ hDR).trans hK
        refine ⟨by simp, .inl ⟨_, _, rfl, run_takeDeferred hK', ?_⟩⟩
        have hc5 : ((wr.setCell ⟨Br, 0, none⟩ (.bool true)).putObj D (.deferred none)).cell? ⟨Br, 0, none⟩ = some (.bool true) :=
          (World.cell?_of_block (w := wr.setCell ⟨Br, 0, none⟩ (.bool true)) (a := ⟨Br, 0, none⟩) (World.putObj_heap_other (fun e => hDR e.symm))).trans (lR.set (.bool true)).cell
        refine ⟨.bool true, by simp [results, Try.f4, go_sem, hc5], rfl, ?_⟩
        exact ⟨hBV.os, hBV.tape, hBV.output, by simpa [World.setCell] using hBV.size, fun i hi => (World.putObj_heap_other (fun e => by have := hYl D hD; omega)).trans ((other_set _ _ _ _ (by omega)).trans (hBV.block i hi))⟩
theorem once_any (m frm : Int) (w : World) (h0 : 0 ≤ m ∧ m ≤ 255) :
    Calls Try.prog 4 #[.int .u8 m, vI frm] w (fun e w' => e = .returned (.bool true) ∧ Below w.heap.size w w') := by
  obtain ⟨m, rfl⟩ := Int.eq_ofNat_of_zero_le h0.1
  exact once_go m frm w (by omega)
end Go.Proofs.Ytpgidjebihgdaaa
