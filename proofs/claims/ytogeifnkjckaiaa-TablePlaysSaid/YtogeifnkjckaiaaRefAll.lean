/- The document's own All: again and again the least one that is left. -/
import Derived.Test.YtogeifnkjckaiaaRef
import Derived.Test.YtogeifnkjckaiaaLaw
import Derived.IntWalk
namespace Go.Proofs.Ytogeifnkjckaiaa
open Go.RowKit
attribute [local go_sem ↓] Go.wp_at_zero Go.wp_at_succ

theorem take_next {l : IP} {k : Nat} {p : Int × Int} (h : l[k]? = some p) : l.take (k + 1) = l.take k ++ [p] := by rw [List.take_add_one, h]; rfl
def lenV : Value → Nat
  | .slice _ n _ => n
  | _ => 0
/-- behind the last one that was told -/
def cand : Option Int → Int → Prop
  | none, _ => True
  | some y, q => y < q
/-- the least one of the first j that are behind it -/
def BestIs (o : Option Int) (ps : IP) (j : Nat) (z : Int) : Prop :=
  (z = -1 ∧ ∀ (i : Nat) q, i < j → ps[i]? = some q → ¬ cand o q.1) ∨ (∃ (b : Nat) (p : Int × Int), z = b ∧ b < j ∧ ps[b]? = some p ∧ cand o p.1 ∧ ∀ (i : Nat) q, i < j → ps[i]? = some q → cand o q.1 → p.1 ≤ q.1)
theorem best_zero (o : Option Int) (ps : IP) : BestIs o ps 0 (-1) := .inl ⟨rfl, fun _ _ h => absurd h (Nat.not_lt_zero _)⟩
theorem lt_succ' {P : Nat → Prop} {j : Nat} (h : ∀ i, i < j → P i) (hj : P j) : ∀ i, i < j + 1 → P i := fun i hi => by
  rcases Nat.lt_or_ge i j with h1 | h1
  · exact h i h1
  · obtain rfl : i = j := by omega
    exact hj
theorem best_skip {o : Option Int} {ps : IP} {j : Nat} {z : Int} {q : Int × Int} (h : BestIs o ps j z) (hq : ps[j]? = some q) (hc : ¬ cand o q.1) : BestIs o ps (j + 1) z := by
  have key : ∀ q', ps[j]? = some q' → ¬ cand o q'.1 := fun q' h' => by rw [hq] at h'; injection h' with h'; rw [← h']; exact hc
  rcases h with ⟨h1, h2⟩ | ⟨b, p, h1, h2, h3, h4, h5⟩
  · exact .inl ⟨h1, fun i q hi => lt_succ' (P := fun i => ∀ q, ps[i]? = some q → ¬ cand o q.1) (fun i hi q => h2 i q hi) key i hi q⟩
  · exact .inr ⟨b, p, h1, by omega, h3, h4, fun i q hi => lt_succ' (P := fun i => ∀ q, ps[i]? = some q → cand o q.1 → p.1 ≤ q.1) (fun i hi q => h5 i q hi) (fun q' h' hc' => absurd hc' (key q' h')) i hi q⟩
theorem best_take {o : Option Int} {ps : IP} {j : Nat} {z : Int} {q : Int × Int} (h : BestIs o ps j z) (hq : ps[j]? = some q) (hc : cand o q.1) (hl : z = -1 ∨ ∃ (b : Nat) (p : Int × Int), z = b ∧ ps[b]? = some p ∧ q.1 < p.1) : BestIs o ps (j + 1) j := by
  refine .inr ⟨j, q, rfl, by omega, hq, hc, fun i q' hi => lt_succ' (P := fun i => ∀ q', ps[i]? = some q' → cand o q'.1 → q.1 ≤ q'.1) (fun i hi q' hq' hc' => ?_) (fun q' h' _ => by rw [hq] at h'; injection h' with h'; rw [← h']; exact Int.le_refl _) i hi q'⟩
  rcases h with ⟨h1, h2⟩ | ⟨b, p, h1, h2, h3, h4, h5⟩
  · exact absurd hc' (h2 i q' hi hq')
  · rcases hl with h6 | ⟨b', p', h6, h7, h8⟩
    · omega
    · obtain rfl : b = b' := by omega
      rw [h3] at h7
      injection h7 with h7
      subst h7
      have := h5 i q' hi hq' hc'
      omega
theorem best_keep {o : Option Int} {ps : IP} {j b : Nat} {p q : Int × Int} (h : BestIs o ps j b) (hp : ps[b]? = some p) (hq : ps[j]? = some q) (hle : ¬ q.1 < p.1) : BestIs o ps (j + 1) b := by
  rcases h with ⟨h1, h2⟩ | ⟨b', p', h1, h2, h3, h4, h5⟩
  · omega
  · obtain rfl : b = b' := by omega
    rw [hp] at h3
    injection h3 with h3
    subst h3
    exact .inr ⟨b, p, rfl, by omega, hp, h4, fun i q' hi => lt_succ' (P := fun i => ∀ q', ps[i]? = some q' → cand o q'.1 → p.1 ≤ q'.1) (fun i hi q' => h5 i q' hi) (fun q' h' _ => by rw [hq] at h'; injection h' with h'; rw [← h']; omega) i hi q'⟩
theorem mem_fill {ps : IP} (hu : Unlike ps) (q : Int × Int) : q ∈ fillG ps ↔ q ∈ ps := by
  constructor
  · intro h
    have := (got_mem (fill_rises ps) (k := q.1) (v := q.2)).2 h
    rw [got_fill] at this
    exact last_mem this
  · intro h
    have := last_unlike hu h
    rw [← got_fill] at this
    exact (got_mem (fill_rises ps)).1 this
theorem at_lt {xs : IP} (h : Rises xs) {i j : Nat} {p q : Int × Int} (h1 : xs[i]? = some p) (h2 : xs[j]? = some q) (hij : i < j) : p.1 < q.1 := by
  obtain ⟨l1, rfl⟩ := List.getElem?_eq_some_iff.1 h1
  obtain ⟨l2, rfl⟩ := List.getElem?_eq_some_iff.1 h2
  have := List.pairwise_iff_getElem.1 h i j l1 l2 hij
  simpa [Key.lt] using this
/-- what is behind the first m of a table -/
def behind (xs : IP) : Nat → Option Int
  | 0 => none
  | m + 1 => xs[m]?.map Prod.fst
theorem best_end {ps : IP} (hu : Unlike ps) {m : Nat} {z : Int} (hm : m < ps.length) (h : BestIs (behind (fillG ps) m) ps ps.length z) : ∃ (b : Nat) (p : Int × Int), z = b ∧ b < ps.length ∧ ps[b]? = some p ∧ (fillG ps)[m]? = some p := by
  have hr := fill_rises ps
  have hml : m < (fillG ps).length := by rw [fill_len hu]; exact hm
  obtain ⟨x, hx⟩ := pair_some' hml
  have hxp : x ∈ ps := (mem_fill hu x).1 (List.mem_of_getElem? hx)
  obtain ⟨i, hi⟩ := List.mem_iff_getElem?.1 hxp
  have hil := (List.getElem?_eq_some_iff.1 hi).1
  have hcx : cand (behind (fillG ps) m) x.1 := by
    cases m with
    | zero => trivial
    | succ m =>
      obtain ⟨y, hy⟩ := pair_some' (l := fillG ps) (k := m) (by omega)
      simp only [behind, hy, Option.map_some, cand]
      exact at_lt hr hy hx (by omega)
  rcases h with ⟨h1, h2⟩ | ⟨b, p, h1, h2, h3, h4, h5⟩
  · exact absurd hcx (h2 i x hil hi)
  · refine ⟨b, p, h1, h2, h3, ?_⟩
    have hle := h5 i x hil hi hcx
    obtain ⟨j, hj⟩ := List.mem_iff_getElem?.1 ((mem_fill hu p).2 (List.mem_of_getElem? h3))
    have hjm : m ≤ j := by
      rcases Nat.lt_or_ge j m with hlt | hge
      · exfalso
        cases m with
        | zero => omega
        | succ m =>
          obtain ⟨y, hy⟩ := pair_some' (l := fillG ps) (k := m) (by omega)
          simp only [behind, hy, Option.map_some, cand] at h4
          rcases Nat.lt_or_ge j m with h6 | h6
          · have := at_lt hr hj hy h6; omega
          · obtain rfl : j = m := by omega
            rw [hy] at hj
            injection hj with hj
            rw [hj] at h4
            omega
      · exact hge
    rcases Nat.lt_or_ge m j with h6 | h6
    · have := at_lt hr hx hj h6; omega
    · obtain rfl : j = m := by omega
      exact hj

section
variable {R : Set'} {w : World} {gr : Nat} {ps : IP}
set_option maxRecDepth 100000 in
set_option maxHeartbeats 4000000 in
theorem rall_any (h : RefT R w gr ps) (hu : Unlike ps) (hl : ps.length ≤ 1000) : Calls Try.prog 20 #[.pointer (some ⟨gr, 0, none⟩)] w (RetPairs w (fillG ps)) := by
  obtain ⟨v0, h⟩ := h
  obtain ⟨A, c, rfl, hP, hc⟩ := h.form
  have c0 := h.box.cell
  have hbx := h.box.lt
  obtain ⟨xs, ex⟩ : ∃ xs, xs = fillG ps := ⟨_, rfl⟩
  have hxl : xs.length = ps.length := by rw [ex]; exact fill_len hu
  rw [← ex]
  have Ex := Lib.hid ex
  have Hxl := Lib.hid hxl
  have Hu := Lib.hid hu
  clear ex hxl hu h
  go_enter Try.func20, Try.ntmps20
  go_wp2 
  go_loopw [3] (fun lv wr => ∃ (m : Nat) (A1 : Option Addr) (c1 : Nat), lv = .slice A1 m c1 ∧ m ≤ ps.length ∧ MineP w wr (.slice A1 m c1) (xs.take m)) (fun lv _ => ps.length - (lenV lv))
  case atStart => exact ⟨0, none, 0, rfl, Nat.zero_le _, MineP.nil (Below.refl _ w)⟩
  case round =>
    obtain ⟨m, A1, c1, rfl, hm, hM⟩ := hrel
    have hB := hM.below
    have c0' := (hB.cell (p := ⟨gr, 0, none⟩) hbx).trans c0
    by_cases hlt : m < ps.length
    · have hm1 : (m : Int) < (ps.length : Int) := by omega
      have hm0 : (0 : Int) ≤ (m : Int) := Int.natCast_nonneg _
      obtain ⟨ms, ems⟩ : ∃ ms, ms = xs.take m := ⟨_, rfl⟩
      rw [← ems] at hM
      have Hms := Lib.hid ems
      clear ems
      rcases Nat.eq_zero_or_pos m with rfl | hpos
      · have Ho : RowKit.Hid (behind xs 0 = none) := Lib.hid rfl
        go_wp2_with fail
        go_loopw [4, 5] (fun bs x wr2 => ∃ (j : Nat) (z : Int), bs = .int .i64 z ∧ x = .int .i64 j ∧ j ≤ ps.length ∧ RowKit.Hid (BestIs none ps j z) ∧ MineP w wr2 (.slice A1 0 c1) ms) (fun _ x _ => ps.length - (intOf x).toNat)
        case atStart => exact ⟨0, -1, rfl, rfl, Nat.zero_le _, Lib.hid (best_zero _ _), hM⟩
        case round =>
          obtain ⟨j, z, rfl, rfl, hj, hbest, hM2⟩ := hrel
          have hB := hM2.below
          have c0' := (hB.cell (p := ⟨gr, 0, none⟩) hbx).trans c0
          by_cases hlj : j < ps.length
          · obtain ⟨q, hq⟩ := pair_some' hlj
            obtain ⟨b, off, rfl, hb, d1, d2⟩ := hP j q hq
            have k1 := (hB.cell (p := ⟨b, off + j * 2, none⟩) hb).trans d1
            have k2 := (hB.cell (p := ⟨b, off + j * 2 + 1, none⟩) hb).trans d2
            have hj1 : (j : Int) < (ps.length : Int) := by omega
            have hj0 : (0 : Int) ≤ (j : Int) := Int.natCast_nonneg _
            have Hq := Lib.hid hq
            clear hq d1 d2
            rcases hbest.out with ⟨rfl, hnone⟩ | ⟨b2, p, rfl, hb2, hp, hcp, _⟩
            · go_wp2_with fail
              go_quiet (fail)
              go_wp2_with fail
              go_quiet (fail)
              go_wp2_with fail
              go_roundw
              case rel => exact ⟨j + 1, j, rfl, by go_num, by omega, Lib.hid (best_take hbest.out Hq.out trivial (.inl rfl)), hM2.same (bself _ _)⟩
              case measure => simp [intOf]; omega
            · obtain ⟨b', off', e', _, d4, _⟩ := hP b2 p hp
              simp only [Option.some.injEq, Addr.mk.injEq, and_true] at e'
              obtain ⟨rfl, rfl⟩ := e'
              have k4 := (hB.cell (p := ⟨b, off + b2 * 2, none⟩) hb).trans d4
              have hb0 : (0 : Int) ≤ (b2 : Int) := Int.natCast_nonneg _
              have hb1 : (b2 : Int) < (ps.length : Int) := by omega
              have Hp := Lib.hid hp
              clear hp d4
              by_cases hqp : q.1 < p.1
              · have hd8 : decide (q.1 < p.1) = true := decide_eq_true hqp
                go_wp2_with fail
                go_quiet (fail)
                go_wp2_with fail
                go_quiet (fail)
                go_wp2_with fail
                go_roundw
                case rel => exact ⟨j + 1, j, rfl, by go_num, by omega, Lib.hid (best_take hbest.out Hq.out trivial (.inr ⟨b2, p, rfl, Hp.out, hqp⟩)), hM2.same (bself _ _)⟩
                case measure => simp [intOf]; omega
              · have hd8 : decide (q.1 < p.1) = false := decide_eq_false hqp
                go_wp2_with fail
                go_quiet (fail)
                go_wp2_with fail
                go_quiet (fail)
                go_wp2_with fail
                go_roundw
                case rel => exact ⟨j + 1, b2, rfl, by go_num, by omega, Lib.hid (best_keep hbest.out Hp.out Hq.out (by omega)), hM2.same (bself _ _)⟩
                case measure => simp [intOf]; omega
          · obtain rfl : j = ps.length := by omega
            have hbe := hbest.out
            rw [← Ho.out, Ex.out] at hbe
            obtain ⟨b2, p, rfl, hb2, hp, hxm⟩ := best_end Hu.out hlt hbe
            rw [← Ex.out] at hxm
            obtain ⟨b, off, rfl, hb, d1, d2⟩ := hP b2 p hp
            have k1 := (hB.cell (p := ⟨b, off + b2 * 2, none⟩) hb).trans d1
            have k2 := (hB.cell (p := ⟨b, off + b2 * 2 + 1, none⟩) hb).trans d2
            have hj1 : (b2 : Int) < (ps.length : Int) := by omega
            have hj0 : (0 : Int) ≤ (b2 : Int) := Int.natCast_nonneg _
            have Hxm := Lib.hid hxm
            have hmlen := hM2.inv.2.1
            have Hml := Lib.hid hmlen
            clear hbest hbe hp d1 d2 hxm hmlen
            go_wp2_with (at_builtin; refine hM2.app Hml.out (by omega) rfl _ _ rfl rfl p 1 rfl ?_)
            intro A2 c2 w2 hM3
            go_wp2
            go_roundw
            case rel => exact ⟨0 + 1, A2, c2, rfl, by omega, by have e := take_next Hxm.out; rw [e, ← Hms.out]; exact hM3⟩
            case measure => simp [lenV]; omega
      · obtain ⟨m', hm'⟩ : ∃ m', m' + 1 = m := ⟨m - 1, by omega⟩
        obtain ⟨y, hy⟩ := pair_some' (l := xs) (k := m') (by rw [Hxl.out]; omega)
        have Ho : RowKit.Hid (behind xs m = some y.1) := Lib.hid (by rw [← hm']; simp [behind, hy])
        have Hy : RowKit.Hid (ms[m']? = some y) := Lib.hid (by rw [Hms.out, List.getElem?_take, if_pos (by omega)]; exact hy)
        have hm4 : (m : Int) - 1 = (m' : Int) := by omega
        have hw : IntKind.i64.wrap ((m : Int) - 1) = (m' : Int) := by rw [IntWalk.i64_in _ (by omega)]; exact hm4
        have hm5 : (0 : Int) ≤ (m' : Int) := Int.natCast_nonneg _
        have hm6 : (m' : Int) < (m : Int) := by omega
        have hm7 : ((m : Int) == 0) = false := by simp; omega
        have hm8 : ¬ (m : Int) = 0 := by omega
        have Hm' := Lib.hid hm'
        clear hy hm'
        go_wp2_with fail
        go_loopw [4, 5] (fun bs x wr2 => ∃ (j : Nat) (z : Int), bs = .int .i64 z ∧ x = .int .i64 j ∧ j ≤ ps.length ∧ RowKit.Hid (BestIs (some y.1) ps j z) ∧ MineP w wr2 (.slice A1 m c1) ms) (fun _ x _ => ps.length - (intOf x).toNat)
        case atStart => exact ⟨0, -1, rfl, rfl, Nat.zero_le _, Lib.hid (best_zero _ _), hM⟩
        case round =>
          obtain ⟨j, z, rfl, rfl, hj, hbest, hM2⟩ := hrel
          have hB := hM2.below
          have c0' := (hB.cell (p := ⟨gr, 0, none⟩) hbx).trans c0
          by_cases hlj : j < ps.length
          · obtain ⟨q, hq⟩ := pair_some' hlj
            obtain ⟨b, off, rfl, hb, d1, d2⟩ := hP j q hq
            have k1 := (hB.cell (p := ⟨b, off + j * 2, none⟩) hb).trans d1
            have k2 := (hB.cell (p := ⟨b, off + j * 2 + 1, none⟩) hb).trans d2
            have hj1 : (j : Int) < (ps.length : Int) := by omega
            have hj0 : (0 : Int) ≤ (j : Int) := Int.natCast_nonneg _
            have Hq := Lib.hid hq
            clear hq d1 d2
            obtain ⟨b3, off3, rfl, hb3, d3, _⟩ := hM2.inv.1 m' y Hy.out
            by_cases hqy : y.1 < q.1
            · have hd7 : decide (y.1 < q.1) = true := decide_eq_true hqy
              rcases hbest.out with ⟨rfl, hnone⟩ | ⟨b2, p, rfl, hb2, hp, hcp, _⟩
              · go_wp2_with fail
                go_quiet (fail)
                go_wp2_with fail
                go_quiet (fail)
                go_wp2_with fail
                go_roundw
                case rel => exact ⟨j + 1, j, rfl, by go_num, by omega, Lib.hid (best_take hbest.out Hq.out hqy (.inl rfl)), hM2.same (bself _ _)⟩
                case measure => simp [intOf]; omega
              · obtain ⟨b', off', e', _, d4, _⟩ := hP b2 p hp
                simp only [Option.some.injEq, Addr.mk.injEq, and_true] at e'
                obtain ⟨rfl, rfl⟩ := e'
                have k4 := (hB.cell (p := ⟨b, off + b2 * 2, none⟩) hb).trans d4
                have hb0 : (0 : Int) ≤ (b2 : Int) := Int.natCast_nonneg _
                have hb1 : (b2 : Int) < (ps.length : Int) := by omega
                have Hp := Lib.hid hp
                clear hp d4
                by_cases hqp : q.1 < p.1
                · have hd8 : decide (q.1 < p.1) = true := decide_eq_true hqp
                  go_wp2_with fail
                  go_quiet (fail)
                  go_wp2_with fail
                  go_quiet (fail)
                  go_wp2_with fail
                  go_roundw
                  case rel => exact ⟨j + 1, j, rfl, by go_num, by omega, Lib.hid (best_take hbest.out Hq.out hqy (.inr ⟨b2, p, rfl, Hp.out, hqp⟩)), hM2.same (bself _ _)⟩
                  case measure => simp [intOf]; omega
                · have hd8 : decide (q.1 < p.1) = false := decide_eq_false hqp
                  go_wp2_with fail
                  go_quiet (fail)
                  go_wp2_with fail
                  go_quiet (fail)
                  go_wp2_with fail
                  go_roundw
                  case rel => exact ⟨j + 1, b2, rfl, by go_num, by omega, Lib.hid (best_keep hbest.out Hp.out Hq.out (by omega)), hM2.same (bself _ _)⟩
                  case measure => simp [intOf]; omega
            · have hd7 : decide (y.1 < q.1) = false := decide_eq_false hqy
              go_wp2_with fail
              go_quiet (fail)
              go_wp2_with fail
              go_quiet (fail)
              go_wp2_with fail
              go_roundw
              case rel => exact ⟨j + 1, z, rfl, by go_num, by omega, Lib.hid (best_skip hbest.out Hq.out (by simp only [cand]; omega)), hM2.same (bself _ _)⟩
              case measure => simp [intOf]; omega
          · obtain rfl : j = ps.length := by omega
            have hbe := hbest.out
            rw [← Ho.out, Ex.out] at hbe
            obtain ⟨b2, p, rfl, hb2, hp, hxm⟩ := best_end Hu.out hlt hbe
            rw [← Ex.out] at hxm
            obtain ⟨b, off, rfl, hb, d1, d2⟩ := hP b2 p hp
            have k1 := (hB.cell (p := ⟨b, off + b2 * 2, none⟩) hb).trans d1
            have k2 := (hB.cell (p := ⟨b, off + b2 * 2 + 1, none⟩) hb).trans d2
            have hj1 : (b2 : Int) < (ps.length : Int) := by omega
            have hj0 : (0 : Int) ≤ (b2 : Int) := Int.natCast_nonneg _
            have Hxm := Lib.hid hxm
            have hmlen := hM2.inv.2.1
            have Hml := Lib.hid hmlen
            clear hbest hbe hp d1 d2 hxm hmlen
            go_wp2_with (at_builtin; refine hM2.app Hml.out (by omega) rfl _ _ rfl rfl p 1 rfl ?_)
            intro A2 c2 w2 hM3
            go_wp2
            go_roundw
            case rel => exact ⟨m + 1, A2, c2, rfl, by omega, by have e := take_next Hxm.out; rw [e, ← Hms.out]; exact hM3⟩
            case measure => simp [lenV]; omega
    · obtain rfl : m = ps.length := by omega
      have hle : (ps.length : Int) ≤ (ps.length : Int) := Int.le_refl _
      go_wp2
      go_ret
      rw [List.take_of_length_le (by rw [Hxl.out]; exact Nat.le_refl _)] at hM
      obtain ⟨h1, h2, h3⟩ := hM.inv
      exact ⟨A1, c1, by rw [h2]; rfl, by rw [h2]; exact h3, h1, fun a ha => (own_lt hM.own (b := a.block) (by rw [ha]; rfl)).1, hM.below⟩
end
end Go.Proofs.Ytogeifnkjckaiaa
