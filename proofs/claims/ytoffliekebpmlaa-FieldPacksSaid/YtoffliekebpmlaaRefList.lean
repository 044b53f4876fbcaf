/- What the document's own 'Apart', 'Pack' and 'Parts' answer, for any fields and numbers (at most 20); nothing that was there changes. -/
import Derived.Test.YtoffliekebpmlaaSum
import Derived.Test.YtoffliekebpmlaaRef
namespace Go.Proofs.Ytoffliekebpmlaa
open Go.RowKit
attribute [local go_sem ↓] Go.wp_at_zero Go.wp_at_succ

/-- has one of the fields the bit j -/
def cov (fs : List (Int × Int)) (j : Nat) : Bool := fs.any fun f => decide (f.1.toNat ≤ j) && decide (j < f.1.toNat + f.2.toNat)
theorem cov_iff {fs : List (Int × Int)} {j : Nat} : cov fs j = true ↔ ∃ f ∈ fs, f.1.toNat ≤ j ∧ j < f.1.toNat + f.2.toNat := by
  simp [cov]
theorem take_snoc {fs : List (Int × Int)} {i : Nat} {x y : Int} (h : fs[i]? = some (x, y)) : fs.take (i + 1) = fs.take i ++ [(x, y)] := by
  rw [List.take_add_one, h]; rfl
theorem cov_step {fs : List (Int × Int)} {i : Nat} {x y : Int} (h : fs[i]? = some (x, y)) (j : Nat) : cov (fs.take (i + 1)) j = (cov (fs.take i) j || (decide (x.toNat ≤ j) && decide (j < x.toNat + y.toNat))) := by
  rw [take_snoc h]; simp [cov]
theorem apart_step {fs : List (Int × Int)} {i : Nat} {x y : Int} (h : fs[i]? = some (x, y)) (ha : apartB (fs.take i) = true) (hr : rightB x y = true) (hc : ∀ j : Nat, x.toNat ≤ j → j < x.toNat + y.toNat → cov (fs.take i) j = false) : apartB (fs.take (i + 1)) = true := by
  rw [apartB_iff] at ha ⊢
  rw [take_snoc h]
  refine ⟨fun f hf => ?_, ?_⟩
  · rcases List.mem_append.1 hf with hf | hf
    · exact ha.1 f hf
    · obtain rfl : f = (x, y) := by simpa using hf
      exact hr
  · rw [List.pairwise_append]
    refine ⟨ha.2, List.pairwise_singleton _ _, fun f hf g hg => ?_⟩
    obtain rfl : g = (x, y) := by simpa using hg
    rintro ⟨j, h1, h2, h3, h4⟩
    have := hc j h3 h4
    rw [cov_iff.2 ⟨f, hf, h1, h2⟩] at this
    cases this
theorem apart_hit {fs : List (Int × Int)} {i j : Nat} {x y : Int} (h : fs[i]? = some (x, y)) (h1 : x.toNat ≤ j) (h2 : j < x.toNat + y.toNat) (hc : cov (fs.take i) j = true) : apartB fs = false := by
  cases hq : apartB fs with
  | false => rfl
  | true =>
    obtain ⟨f, hf, h3, h4⟩ := cov_iff.1 hc
    obtain ⟨m, hm, rfl⟩ := List.mem_iff_getElem.1 hf
    simp at hm
    obtain ⟨hi, hxy⟩ := List.getElem?_eq_some_iff.1 h
    have := List.pairwise_iff_getElem.1 (apartB_iff.1 hq).2 m i (by omega) hi (by omega)
    rw [hxy] at this
    rw [List.getElem_take] at h3 h4
    exact absurd ⟨j, h3, h4, h1, h2⟩ this
theorem apart_wrong {fs : List (Int × Int)} {i : Nat} {x y : Int} (h : fs[i]? = some (x, y)) (hr : rightB x y = false) : apartB fs = false := by
  rw [apartB, rightsB_not h hr]; rfl

/-- block g holds sixty-two bools -/
structure Seen (w : World) (g : Nat) (S : Nat → Bool) : Prop where
  lt : g < w.heap.size
  cell : ∀ j, j < 62 → w.cell? ⟨g, j, none⟩ = some (.bool (S j))
  free : ∀ j, w.frozen? ⟨g, j, none⟩ = false
theorem Seen.below {w w1 : World} {g : Nat} {S : Nat → Bool} (h : Seen w g S) (hb : Below w.heap.size w w1) : Seen w1 g S :=
  ⟨Nat.lt_of_lt_of_le h.lt hb.size, fun j hj => (hb.cell (p := ⟨g, j, none⟩) h.lt).trans (h.cell j hj), fun j => (hb.frozen (p := ⟨g, j, none⟩) h.lt).trans (h.free j)⟩
theorem Seen.set {w : World} {g k : Nat} {S T : Nat → Bool} (h : Seen w g S) (hk : k < 62) (hT : ∀ j, j < 62 → T j = (S j || decide (j = k))) : Seen (w.setCell ⟨g, k, none⟩ (.bool true)) g T := by
  refine ⟨by simpa [World.setCell] using h.lt, fun j hj => ?_, fun j => by rw [World.frozen?_setCell]; exact h.free j⟩
  rw [hT j hj]
  by_cases e : j = k
  · subst e
    rw [World.cell?_setCell_same' _ _ _ (by rw [h.cell j hj]; rfl)]
    simp
  · rw [World.cell?_setCell_other _ _ _ _ (by intro h'; injection h' with _ h'; exact e h'.symm), h.cell j hj]
    simp [e]
theorem Seen.congr {w : World} {g : Nat} {S T : Nat → Bool} (h : Seen w g S) (hT : ∀ j, j < 62 → T j = S j) : Seen w g T := ⟨h.lt, fun j hj => by rw [hT j hj]; exact h.cell j hj, h.free⟩
theorem info4 : (Try.prog.info? 4).map (fun i => (i.zero, i.size, i.bytes)) = some (some (.bool false), 1, 1) := by kernel_rfl
theorem seen_new (w : World) : Seen (w.alloc (.cells (madeCells #[.bool false] 62) 4)) w.heap.size (cov []) := by
  have hb : (w.alloc (.cells (madeCells #[.bool false] 62) 4)).heap[w.heap.size]? = some (.cells (madeCells #[.bool false] 62) 4 (0, 0)) := World.alloc_heap_new w _
  refine ⟨(Array.getElem?_eq_some_iff.1 hb).1, fun j hj => ?_, fun j => ?_⟩
  · have e : (madeCells #[Value.bool false] 62)[j]? = some (.bool false) := by
      simp [madeCells, hj, Nat.mod_one]
    unfold World.cell?
    rw [show (w.alloc (.cells (madeCells #[.bool false] 62) 4)).heap[(⟨w.heap.size, j, none⟩ : Addr).block]? = _ from hb]
    exact e
  · unfold World.frozen?
    rw [show (w.alloc (.cells (madeCells #[.bool false] 62) 4)).heap[(⟨w.heap.size, j, none⟩ : Addr).block]? = _ from hb]
    simp

set_option maxRecDepth 100000 in
set_option maxHeartbeats 2000000 in
theorem refApart_go (b off c : Nat) (fs : List (Int × Int)) (w : World) (hl : fs.length ≤ 1000) (hb : b < w.heap.size) (hc : FC w b off fs) :
    Calls Try.prog 23 #[.slice (some ⟨b, off, none⟩) fs.length c] w fun e w' => e = .returned (.bool (apartB fs)) ∧ Below w.heap.size w w' := by
  obtain ⟨i0, hi, hz0, hz1, hz2⟩ := info_parts info4
  have hmk : ∀ W : World, (Instr.makeSlice 47 (.int .i64 62) (.int .i64 62)).run Try.prog W = .ok (.slice (some ⟨W.heap.size, 0, none⟩) 62 62) (W.alloc (.cells (madeCells #[.bool false] 62) 4)) := fun W => by
    have h := run_make (P := Try.prog) W 47 4 i0 (.bool false) Try.underlying47 hi hz0 .i64 .i64 62 62 (by omega) (by omega) (by rw [hz2]; omega) (by omega)
    rw [hz1] at h
    exact h
  have hs0 := seen_new w
  have hB0 : Below w.heap.size w (w.alloc (.cells (madeCells #[.bool false] 62) 4)) := (Below.refl _ _).alloc (Nat.le_refl _) _
  go_enter Try.func23, Try.ntmps23
  go_wp2
  obtain ⟨g, hg⟩ : ∃ g, g = w.heap.size := ⟨_, rfl⟩
  obtain ⟨W0, hW0⟩ : ∃ W0, W0 = w.alloc (.cells (madeCells #[.bool false] 62) 4) := ⟨_, rfl⟩
  rw [← hg, ← hW0] at hs0 ⊢
  rw [← hW0] at hB0
  have hgb : w.heap.size ≤ g := by omega
  clear hg hW0 hmk
  go_loopw [4] (fun i wr => ∃ k : Nat, k ≤ fs.length ∧ i = .int .i64 k ∧ apartB (fs.take k) = true ∧ Seen wr g (cov (fs.take k)) ∧ Below w.heap.size w wr) (fun i _ => fs.length - (intOf i).toNat)
  case atStart => exact ⟨0, Nat.zero_le _, rfl, rfl, hs0, hB0⟩
  case round =>
    obtain ⟨k, hk, rfl, ha, hs, hB⟩ := hrel
    have Ha := Lib.hid ha
    clear ha
    by_cases hlt : k < fs.length
    · obtain ⟨x, y, hxy⟩ := at_some hlt
      obtain ⟨hd1, hd2⟩ := hc.below hb hB k x y hxy
      have Hxy := Lib.hid hxy
      clear hxy
      have hi1 : (k : Int) < (fs.length : Int) := by omega
      go_wp2_with fail
      refine (refRight_any x y _).mono ?_
      rintro e w2 ⟨rfl, hb2⟩
      have hB2 := hB.trans (hb2.mono hB.size)
      have hs2 := hs.below hb2
      clear hs hB hb2
      cases hr : rightB x y with
      | false =>
        have Hf := Lib.hid (apart_wrong Hxy.out hr)
        clear hr
        go_wp2
        go_ret
        exact ⟨ret_bool Hf.out.symm, hB2⟩
      | true =>
        have hR := rightB_true.1 hr
        have Hr := Lib.hid hr
        clear hr
        obtain ⟨X, rfl⟩ := Int.eq_ofNat_of_zero_le hR.1
        obtain ⟨Y, rfl⟩ := Int.eq_ofNat_of_zero_le (show 0 ≤ y by omega)
        have hXY : X + Y ≤ 62 := by omega
        obtain ⟨hd3, hd4⟩ := hc.below hb hB2 k X Y Hxy.out
        clear hd1 hd2 hR
        go_wp2
        go_loopw [6] (fun i wr => ∃ j : Nat, X ≤ j ∧ j ≤ X + Y ∧ i = .int .i64 j ∧ Seen wr g (fun m => cov (fs.take k) m || (decide (X ≤ m) && decide (m < j))) ∧ (∀ m : Nat, X ≤ m → m < j → cov (fs.take k) m = false) ∧ Below w.heap.size w wr) (fun i _ => X + Y - (intOf i).toNat)
        case atStart => exact ⟨X, Nat.le_refl _, by omega, rfl, hs2.congr (fun m _ => by cases cov (fs.take k) m <;> simp), fun m h1 h2 => by omega, hB2⟩
        case round =>
          obtain ⟨j, hj1, hj2, rfl, hs3, hno, hB3⟩ := hrel
          obtain ⟨hd5, hd6⟩ := hc.below hb hB3 k X Y Hxy.out
          have Hno := Lib.hid hno
          clear hno
          by_cases hjl : j < X + Y
          · have hj0 : (0 : Int) ≤ (j : Int) := Int.natCast_nonneg _
            have hj3 : (j : Int) < 62 := by omega
            have hj4 : (j : Int) < (X : Int) + (Y : Int) := by omega
            have hdj : decide ((j : Int) < (X : Int) + (Y : Int)) = true := by simpa using hj4
            have hcell := hs3.cell j (by omega)
            have hfree := hs3.free j
            have e1 : (decide (X ≤ j) && decide (j < j)) = false := by simp
            cases hq : cov (fs.take k) j with
            | true =>
              simp only [hq, Bool.true_or] at hcell
              have Hf := Lib.hid (apart_hit (j := j) Hxy.out (by simp; omega) (by simp; omega) hq)
              clear hq e1
              go_wp2
              go_quiet (fail)
              go_wp2
              go_ret
              exact ⟨ret_bool Hf.out.symm, bdrew hB3 _⟩
            | false =>
              simp only [hq, e1, Bool.or_false] at hcell
              have Hq := Lib.hid hq
              clear hq e1
              go_wp2
              go_quiet (fail)
              go_wp2
              go_roundw
              case rel =>
                refine ⟨j + 1, by omega, by omega, by go_num, (hs3.below (bdrew (Below.refl _ _) _)).set (by omega) (fun m _ => ?_), fun m h1 h2 => ?_, (bdrew hB3 _).setCell (p := ⟨g, j, none⟩) hgb _⟩
                · rw [Bool.eq_iff_iff]
                  cases cov (fs.take k) m <;> simp <;> omega
                · by_cases e : m = j
                  · rw [e]; exact Hq.out
                  · exact Hno.out m h1 (by omega)
              case measure => simp [intOf]; omega
          · obtain rfl : j = X + Y := by omega
            have hdj : decide (((X + Y : Nat) : Int) < (X : Int) + (Y : Int)) = false := by rw [decide_eq_false_iff_not]; omega
            go_wp2
            go_quiet (fail)
            go_wp2
            go_roundw
            case rel =>
              refine ⟨k + 1, by omega, by go_num, apart_step Hxy.out Ha.out Hr.out (fun m h1 h2 => Hno.out m (by simpa using h1) (by simpa using h2)), (hs3.below (bdrew (Below.refl _ _) _)).congr (fun m _ => ?_), bdrew hB3 _⟩
              rw [cov_step Hxy.out]
              rfl
            case measure => simp [intOf]; omega
    · obtain rfl : k = fs.length := by omega
      go_wp2
      go_ret
      exact ⟨ret_bool (by rw [← Ha.out, List.take_length]), hB⟩
set_option maxHeartbeats 400000 in
theorem refApart_nil (A : Option Addr) (c : Nat) (w : World) :
    Calls Try.prog 23 #[.slice A 0 c] w fun e w' => e = .returned (.bool (apartB [])) ∧ Below w.heap.size w w' := by
  obtain ⟨i0, hi, hz0, hz1, hz2⟩ := info_parts info4
  have hmk : ∀ W : World, (Instr.makeSlice 47 (.int .i64 62) (.int .i64 62)).run Try.prog W = .ok (.slice (some ⟨W.heap.size, 0, none⟩) 62 62) (W.alloc (.cells (madeCells #[.bool false] 62) 4)) := fun W => by
    have h := run_make (P := Try.prog) W 47 4 i0 (.bool false) Try.underlying47 hi hz0 .i64 .i64 62 62 (by omega) (by omega) (by rw [hz2]; omega) (by omega)
    rw [hz1] at h
    exact h
  have hB0 : Below w.heap.size w (w.alloc (.cells (madeCells #[.bool false] 62) 4)) := (Below.refl _ _).alloc (Nat.le_refl _) _
  go_enter Try.func23, Try.ntmps23
  go_wp2
  go_loopw [4] (fun i wr => i = .int .i64 0 ∧ Below w.heap.size w wr) (fun _ _ => 0)
  case atStart => exact ⟨rfl, hB0⟩
  case round =>
    obtain ⟨rfl, hB⟩ := hrel
    clear hmk
    go_wp2
    go_ret
    exact ⟨rfl, hB⟩
theorem refApart_any (A : Option Addr) (n c : Nat) (fs : List (Int × Int)) (w : World) (hn : fs.length = n) (hl : n ≤ 1000) (hS : Fds w w.heap.size A fs) :
    Calls Try.prog 23 #[.slice A n c] w fun e w' => e = .returned (.bool (apartB fs)) ∧ Below w.heap.size w w' := by
  subst hn
  rcases hS with rfl | ⟨b, off, rfl, h2, h3⟩
  · exact refApart_nil A c w
  · exact refApart_go b off c fs w hl h2 h3

set_option maxRecDepth 100000 in
set_option maxHeartbeats 1000000 in
theorem refPack_go (b off c b2 off2 c2 : Nat) (fs : List (Int × Int)) (vs : List Int) (w : World) (hl : fs.length ≤ 1000) (hb : b < w.heap.size) (hc : FC w b off fs) (hb2 : b2 < w.heap.size) (hc2 : IC w b2 off2 vs) (he : vs.length = fs.length) (ha : apartB fs = true) :
    Calls Try.prog 21 #[.slice (some ⟨b, off, none⟩) fs.length c, .slice (some ⟨b2, off2, none⟩) fs.length c2] w fun e w' => e = .returned (.tuple #[.int .i64 (packI fs vs), .bool (packOk fs vs)]) ∧ Below w.heap.size w w' := by
  have Ha := Lib.hid ha
  have He := Lib.hid he
  clear ha he
  go_enter Try.func21, Try.ntmps21
  go_wp2_with fail
  refine (refApart_any _ _ c fs _ rfl hl (.inr ⟨b, off, rfl, hb, hc⟩)).mono ?_
  rw [Ha.out]
  rintro e w1 ⟨rfl, hb1⟩
  go_wp2
  go_loopw [7, 8] (fun acc i wr => ∃ k : Nat, k ≤ fs.length ∧ i = .int .i64 k ∧ acc = .int .i64 (foldP ((fs.zip vs).take k)) ∧ ((fs.zip vs).take k).all okP = true ∧ Below w.heap.size w wr)
    (fun _ i _ => fs.length - (intOf i).toNat)
  case atStart => exact ⟨0, Nat.zero_le _, rfl, rfl, rfl, hb1⟩
  case round =>
    obtain ⟨k, hk, rfl, rfl, hr, hB⟩ := hrel
    have Hr := Lib.hid hr
    clear hr
    by_cases hlt : k < fs.length
    · obtain ⟨x, y, hxy⟩ := at_some hlt
      obtain ⟨v, hv⟩ : ∃ v, vs[k]? = some v := ⟨vs[k]'(by rw [He.out]; exact hlt), by simp⟩
      obtain ⟨hd1, hd2⟩ := hc.below hb hB k x y hxy
      have hd3 := hc2.below hb2 hB k v hv
      have hR : rightB x y = true := by
        have := Ha.out
        rw [apartB, Bool.and_eq_true, rightsB, List.all_eq_true] at this
        exact this.1 _ (List.mem_of_getElem? hxy)
      rw [rightB_true] at hR
      have Hxy := Lib.hid hxy
      have Hv := Lib.hid hv
      clear hxy hv
      have hlb : b2 < wr.heap.size := Nat.lt_of_lt_of_le hb2 hB.size
      have hlb0 : b < wr.heap.size := Nat.lt_of_lt_of_le hb hB.size
      have hi0 : (0 : Int) ≤ (k : Int) := Int.natCast_nonneg _
      have hi1 : (k : Int) < (fs.length : Int) := by omega
      have hf1 := (foldP_bd ((fs.zip vs).take k)).1
      have hf2 := (foldP_bd ((fs.zip vs).take k)).2
      by_cases hn : v < 0
      · have hdn : decide (v < 0) = true := by simpa using hn
        go_wp2
        go_quiet (fail)
        go_wp2
        go_ret2
        have ho := zip_not Hxy.out Hv.out (by simp [okP]; omega)
        exact ⟨ret_pack (by rw [packI, ho]; rfl) ho.symm, bdrew hB _⟩
      · have hdn : decide (v < 0) = false := by simpa using hn
        by_cases hm : maxI y < v
        · have hdm : decide (maxI y < v) = true := by simpa using hm
          go_wp2
          go_region_held3 (fun w' => w'.cell? ⟨b, off + k * 2, none⟩ = some (.int .i64 x) ∧ w'.cell? ⟨b, off + k * 2 + 1, none⟩ = some (.int .i64 y) ∧ w'.cell? ⟨b2, off2 + k, none⟩ = some (.int .i64 v)) (go_keep)
            (first | (go_at_call 15; refine (refMax_any x y _ (by omega) (by omega) (by omega)).mono ?_; rintro e w2 ⟨rfl, hb3⟩; obtain ⟨hbc, hbf⟩ := reads_on hb3; (try simp at hbc); (try simp at hbf)))
          go_wp2
          go_ret2
          have ho := zip_not Hxy.out Hv.out (by simp [okP]; omega)
          exact ⟨ret_pack (by rw [packI, ho]; rfl) ho.symm, hB.drew.trans (hb3.mono (by have := hB.size; simp; omega))⟩
        · have hdm : decide (maxI y < v) = false := by simpa using hm
          go_wp2
          go_region_held3 (fun w' => w'.cell? ⟨b, off + k * 2, none⟩ = some (.int .i64 x) ∧ w'.cell? ⟨b, off + k * 2 + 1, none⟩ = some (.int .i64 y) ∧ w'.cell? ⟨b2, off2 + k, none⟩ = some (.int .i64 v)) (go_keep)
            (first | (go_at_call 15; refine (refMax_any x y _ (by omega) (by omega) (by omega)).mono ?_; rintro e w2 ⟨rfl, hb3⟩; obtain ⟨hbc, hbf⟩ := reads_on hb3; (try simp at hbc); (try simp at hbf)))
          have hB2 : Below w.heap.size w w2 := hB.drew.trans (hb3.mono (by have := hB.size; simp; omega))
          have hz3 := hb3.size
          simp at hz3
          go_wp2
          go_region_held3 (fun w' => w'.cell? ⟨b, off + k * 2, none⟩ = some (.int .i64 x) ∧ w'.cell? ⟨b, off + k * 2 + 1, none⟩ = some (.int .i64 y) ∧ w'.cell? ⟨b2, off2 + k, none⟩ = some (.int .i64 v)) (go_keep)
            (first | (go_at_call 19; refine (refPut_any (foldP ((fs.zip vs).take k)) x y v _ (by omega) (by omega) (by omega) hf1 hf2).mono ?_; rintro e w3 ⟨rfl, hb4⟩; obtain ⟨hbc4, hbf4⟩ := reads_on hb4; (try simp at hbc4); (try simp at hbf4); have hy1 : b < w2.heap.size := (by omega); have hy2 : b2 < w2.heap.size := (by omega)))
          go_wp2
          have hB3 : Below w.heap.size w w3 := hB2.drew.trans (hb4.mono (by have := hB2.size; simp; omega))
          go_roundw
          case rel => exact ⟨k + 1, by omega, by go_num, by rw [zip_take Hxy.out Hv.out, foldP_snoc], by rw [zip_take Hxy.out Hv.out, List.all_append, Hr.out]; simp [okP]; omega, hB3⟩
          case measure => simp [intOf]; omega
    · obtain rfl : k = fs.length := by omega
      go_wp2
      go_ret2
      have ht : (fs.zip vs).take fs.length = fs.zip vs := List.take_of_length_le (by simp; omega)
      have ho : packOk fs vs = true := by
        have h1 := Hr.out
        rw [ht] at h1
        simp [packOk, Ha.out, He.out, h1]
      exact ⟨ret_pack (by rw [packI, ho, ht]; rfl) ho.symm, hB⟩
theorem packOk_no {fs : List (Int × Int)} {vs : List Int} (h : fs.length ≠ vs.length ∨ apartB fs = false) : packOk fs vs = false := by
  cases hq : packOk fs vs with
  | false => rfl
  | true =>
    obtain ⟨h1, h2, _⟩ := packOk_iff.1 hq
    rcases h with h | h
    · exact absurd h1 h
    · rw [h] at h2; cases h2
set_option maxHeartbeats 400000 in
theorem refPack_no (A A2 : Option Addr) (n c n2 c2 : Nat) (fs : List (Int × Int)) (vs : List Int) (w : World) (hn : fs.length = n) (hn2 : vs.length = n2) (hl : n ≤ 1000) (hS : Fds w w.heap.size A fs) (h : n ≠ n2 ∨ apartB fs = false) :
    Calls Try.prog 21 #[.slice A n c, .slice A2 n2 c2] w fun e w' => e = .returned (.tuple #[.int .i64 (packI fs vs), .bool (packOk fs vs)]) ∧ Below w.heap.size w w' := by
  have Ho := Lib.hid (packOk_no (fs := fs) (vs := vs) (h.imp (fun e => by omega) id))
  have Hn := Lib.hid hn
  clear hn hn2
  cases ha : apartB fs with
  | false =>
    have Ha := Lib.hid ha
    clear ha h
    go_enter Try.func21, Try.ntmps21
    go_wp2_with fail
    refine (refApart_any A n c fs _ Hn.out hl hS).mono ?_
    rw [Ha.out]
    rintro e w1 ⟨rfl, hb1⟩
    go_wp2
    go_ret2
    exact ⟨ret_pack (by rw [packI, Ho.out]; rfl) Ho.out.symm, hb1⟩
  | true =>
    have hne : n ≠ n2 := by
      rcases h with h | h
      · exact h
      · rw [ha] at h; cases h
    have Ha := Lib.hid ha
    have h2 : ((n : Int) != (n2 : Int)) = true := by rw [bne_iff_ne]; omega
    have h3 : (n != n2) = true := by rw [bne_iff_ne]; omega
    clear ha h hne
    go_enter Try.func21, Try.ntmps21
    go_wp2_with fail
    refine (refApart_any A n c fs _ Hn.out hl hS).mono ?_
    rw [Ha.out]
    rintro e w1 ⟨rfl, hb1⟩
    go_wp2
    go_ret2
    exact ⟨ret_pack (by rw [packI, Ho.out]; rfl) Ho.out.symm, hb1⟩
set_option maxHeartbeats 400000 in
theorem refPack_nil (A A2 : Option Addr) (c c2 : Nat) (w : World) :
    Calls Try.prog 21 #[.slice A 0 c, .slice A2 0 c2] w fun e w' => e = .returned (.tuple #[.int .i64 (packI [] []), .bool (packOk [] [])]) ∧ Below w.heap.size w w' := by
  go_enter Try.func21, Try.ntmps21
  go_wp2_with fail
  refine (refApart_nil A c _).mono ?_
  rw [show apartB [] = true from by decide]
  rintro e w1 ⟨rfl, hb1⟩
  go_wp2
  go_loopw [7, 8] (fun acc i wr => i = .int .i64 0 ∧ acc = .int .i64 0 ∧ Below w.heap.size w wr) (fun _ _ _ => 0)
  case atStart => exact ⟨rfl, rfl, hb1⟩
  case round =>
    obtain ⟨rfl, rfl, hB⟩ := hrel
    go_wp2
    go_ret2
    exact ⟨ret_pack (by decide) (by decide), hB⟩
theorem refPack_any (A A2 : Option Addr) (n c n2 c2 : Nat) (fs : List (Int × Int)) (vs : List Int) (w : World) (hn : fs.length = n) (hn2 : vs.length = n2) (hl : n ≤ 1000) (hS : Fds w w.heap.size A fs) (hI : IS w w.heap.size A2 vs) :
    Calls Try.prog 21 #[.slice A n c, .slice A2 n2 c2] w fun e w' => e = .returned (.tuple #[.int .i64 (packI fs vs), .bool (packOk fs vs)]) ∧ Below w.heap.size w w' := by
  by_cases h : n ≠ n2 ∨ apartB fs = false
  · exact refPack_no A A2 n c n2 c2 fs vs w hn hn2 hl hS h
  · simp only [not_or, Decidable.not_not, Bool.not_eq_false] at h
    obtain ⟨rfl, ha⟩ := h
    subst hn
    rcases hS with rfl | ⟨b, off, rfl, h2, h3⟩
    · obtain rfl : vs = [] := List.eq_nil_of_length_eq_zero (by simpa using hn2)
      exact refPack_nil A A2 c c2 w
    · rcases hI with rfl | ⟨b2, off2, rfl, h4, h5⟩
      · obtain rfl : fs = [] := List.eq_nil_of_length_eq_zero (by simpa using hn2.symm)
        exact refPack_nil _ A2 c c2 w
      · exact refPack_go b off c b2 off2 c2 fs vs w hl h2 h3 h4 h5 hn2 ha

set_option maxRecDepth 100000 in
set_option maxHeartbeats 1000000 in
theorem refParts_go (x : Int) (b off c : Nat) (fs : List (Int × Int)) (w : World) (hl : fs.length ≤ 1000) (hb : b < w.heap.size) (hc : FC w b off fs) :
    Calls Try.prog 26 #[.int .i64 x, .slice (some ⟨b, off, none⟩) fs.length c] w (RetInts w (partsI x fs)) := by
  obtain ⟨i0, hi, hz0, hz1, hz2⟩ := info_parts info3
  go_enter Try.func26, Try.ntmps26
  go_wp2
  go_loopw [5, 6] (fun out i wr => ∃ k : Nat, k ≤ fs.length ∧ i = .int .i64 k ∧ rightsB (fs.take k) = true ∧ wr.ownsRow w.heap.size 3 1 out k ((fs.take k).map (fun f => Value.int .i64 (getI x f.1 f.2))) ∧ Below w.heap.size w wr)
    (fun _ i _ => fs.length - (intOf i).toNat)
  case atStart => exact ⟨0, Nat.zero_le _, rfl, rfl, World.ownsRow_nil _ _ _ _, Below.refl _ _⟩
  case round =>
    obtain ⟨k, hk, rfl, hr, hown, hB⟩ := hrel
    have Hr := Lib.hid hr
    clear hr
    by_cases hlt : k < fs.length
    · obtain ⟨p, q, hpq⟩ := at_some hlt
      obtain ⟨hc1, hc2⟩ := hc.below hb hB k p q hpq
      have Hpq := Lib.hid hpq
      clear hpq
      have hi1 : (k : Int) < (fs.length : Int) := by omega
      go_wp2_with fail
      refine (refRight_any p q _).mono ?_
      rintro e w2 ⟨rfl, hb2⟩
      have hB2 := hB.trans (hb2.mono hB.size)
      have hown2 := own_below hown hb2
      obtain ⟨hd1, hd2⟩ := hc.below hb hB2 k p q Hpq.out
      clear hb2 hown hc1 hc2 hB
      cases hr : rightB p q with
      | false =>
        have Hf := Lib.hid (rightsB_not Hpq.out hr)
        clear hr
        go_wp2
        go_ret
        exact ⟨none, 0, 0, rfl, by rw [partsI, Hf.out]; rfl, Nat.le_refl _, by rw [partsI, Hf.out]; exact .inl rfl, hB2⟩
      | true =>
        have hR := rightB_true.1 hr
        have Hr1 := Lib.hid hr
        clear hr
        have hsz := hB2.size
        go_wp2_with (first
          | (go_at_call 17; refine (refGet_any x p q _ (by omega) (by omega) (by omega)).mono ?_; rintro e w3 ⟨rfl, hb3⟩; have hown3 := own_below hown2 hb3; have hz3 := hb3.size)
          | (at_builtin; refine wpList_append_own _ rfl _ _ 31 rfl w.heap.size 3 i0 (.int .i64 0) 1 8 Try.underlying31 hi hz0 hz1 hz2 rfl (by decide) _ _ _ rfl (hown3.alloc _) ⟨w3.heap.size, 0, none⟩ 1 1 [.int .i64 (getI x p q)] rfl rfl ?c1 ?c2 ?c3 ?c4 ?c5 ?_))
        case c1 => exact cell_one_new _ _ _
        case c2 => simp [Value.oneCell']
        case c3 => unfold maxLen; omega
        case c4 => omega
        case c5 => simp; omega
        intro v' w4 hown4 hgrow4 _
        have hB3 : Below w.heap.size w (w3.alloc (.cells #[.int .i64 (getI x p q)] 3)) := (hB2.trans (hb3.mono hsz)).alloc (by omega) _
        have hB4 : Below w.heap.size w w4 := hB3.grown hgrow4 (by simp; omega) (fun j e => (hown2.lt j e).1)
        go_wp2
        go_roundw
        case rel => exact ⟨k + 1, by omega, by go_num, by rw [rightsB_take Hpq.out, Hr.out, Hr1.out]; rfl, by rw [parts_take Hpq.out, List.map_take]; exact hown4, hB4⟩
        case measure => simp [intOf]; omega
    · obtain rfl : k = fs.length := by omega
      obtain ⟨A2, c2, rfl⟩ := own_form hown
      go_wp2
      go_ret
      have hrr := Hr.out
      rw [List.take_length] at hown hrr
      have h := own_is (xs := fs.map fun f => getI x f.1 f.2) (by rw [List.map_map]; exact hown)
      exact ⟨A2, _, c2, rfl, by rw [partsI, hrr]; exact h.2.1, h.2.2, by rw [partsI, hrr]; exact h.1, hB⟩
theorem refParts_nil (x : Int) (A : Option Addr) (c : Nat) (w : World) :
    Calls Try.prog 26 #[.int .i64 x, .slice A 0 c] w (RetInts w (partsI x [])) := by
  go_enter Try.func26, Try.ntmps26
  go_wp2
  go_loopw [5, 6] (fun out i wr => out = .slice none 0 0 ∧ i = .int .i64 0 ∧ Below w.heap.size w wr) (fun _ _ _ => 0)
  case atStart => exact ⟨rfl, rfl, Below.refl _ _⟩
  case round =>
    obtain ⟨rfl, rfl, hB⟩ := hrel
    go_wp2
    go_ret
    exact ⟨_, _, _, rfl, rfl, Nat.le_refl _, .inl rfl, hB⟩
theorem refParts_any (x : Int) (A : Option Addr) (n c : Nat) (fs : List (Int × Int)) (w : World) (hn : fs.length = n) (hl : n ≤ 1000) (hS : Fds w w.heap.size A fs) :
    Calls Try.prog 26 #[.int .i64 x, .slice A n c] w (RetInts w (partsI x fs)) := by
  subst hn
  rcases hS with rfl | ⟨b, off, rfl, h2, h3⟩
  · exact refParts_nil x A c w
  · exact refParts_go x b off c fs w hl h2 h3
end Go.Proofs.Ytoffliekebpmlaa
