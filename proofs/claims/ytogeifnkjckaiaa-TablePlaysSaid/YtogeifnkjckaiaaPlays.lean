/- TablePlays's walk. -/
import Derived.Test.YtogeifnkjckaiaaPlaysMath
import Derived.Test.YtogeifnkjckaiaaRefAll
import Derived.Test.YtogeifnkjckaiaaSmall
import Derived.Test.YtogeifnkjckaiaaOpen
import Derived.Test.YtogeifnkjckaiaaLeast1
namespace Go.Proofs.Ytogeifnkjckaiaa
open Go.RowKit
attribute [local go_sem ↓] Go.wp_at_zero Go.wp_at_succ

theorem op_some {l : List OpT} {k : Nat} (h : k < l.length) : ∃ x, l[k]? = some x := ⟨l[k], by simp⟩
theorem same_true (A A2 : Option Addr) (c c2 : Nat) (xs : IP) (w : World) (h : PS w w.heap.size A xs) (h2 : PS w w.heap.size A2 xs) (hl : xs.length ≤ 1000000) :
    Calls Try.prog 18 #[.slice A xs.length c, .slice A2 xs.length c2] w (fun e w' => e = .returned (.bool true) ∧ Below w.heap.size w w') := by
  have := same_any A A2 c c2 xs xs w h h2 hl
  rwa [decide_eq_true (show xs = xs from rfl)] at this
theorem del_none' {l : IP} {k : Int} (h : got l k = none) : del l k = l := by
  have := del_len (l := l) k
  rw [h] at this
  exact (del_sub l k).eq_of_length (by simpa using this)
theorem TabE.drew {K V : Type} [Key K] {eK : K → Value} {eV : V → Value} {E : Set'} {w : World} {g : Nat} {xs : List (K × V)} (h : TabE eK eV E w g xs) : TabE eK eV E w.drew g xs :=
  h.kept (Nat.le_refl _) rfl (fun _ hk _ => ⟨rfl, hk⟩) h.ge h.new
theorem grow_below {n0 : Nat} {R R' : Set'} {w A B : World} (h : Below n0 w A) (hg : Grow R A R' B) (hR : ∀ j, R j → n0 ≤ j) (hn : n0 ≤ A.heap.size) : Below n0 w B :=
  h.trans ⟨hg.os, hg.tape, hg.output, hg.size, fun k hk => hg.block k (by omega) (fun e => by have := hR k e; omega)⟩

set_option maxRecDepth 100000 in
set_option maxHeartbeats 8000000 in
theorem plays_any (A : Option Addr) (n c : Nat) (l : List OpT) (w : World) (hl : l.length = n) (hc : n ≤ c) (hs : OS w w.heap.size A l) :
    Calls Try.prog 3 #[.slice A n c] w (fun e w' => e = .returned (.bool true) ∧ Below w.heap.size w w') := by
  by_cases hn : n ≤ 60
  · subst hl
    obtain ⟨n0, hn0⟩ : ∃ n0, n0 = w.heap.size := ⟨_, rfl⟩
    rw [← hn0] at hs ⊢
    have Hn0 := Lib.hid hn0
    clear hn0
    go_enter Try.func3, Try.ntmps3
    go_wp2_with fail
    refine (awake_any w).mono ?_
    rintro e w1 ⟨rfl, hB1⟩
    rw [← Hn0.out] at hB1
    have hz1 : n0 ≤ w1.heap.size := by have := hB1.size; have := Hn0.out; omega
    go_wp2_with fail
    refine (new1_any w1).mono ?_
    rintro e w2 ⟨rfl, hT2, hB2, hs2⟩
    obtain ⟨g, hg⟩ : ∃ g, g = w1.heap.size := ⟨_, rfl⟩
    rw [← hg] at hT2 ⊢
    obtain ⟨gr, hgr⟩ : ∃ gr, gr = w2.heap.size := ⟨_, rfl⟩
    have hg2 : g < w2.heap.size := by omega
    have hBo : Both n0 (fun k => k = w2.heap.size) (w2.alloc (.cells #[.slice none 0 0] 29)) g w2.heap.size [] :=
      ⟨ref_new w2, (TabE.of hT2).kept (bnew w2 _).size ((bnew w2 _).block g hg2) (fun j hj hlj => ⟨(bnew w2 _).block j hlj, by simpa using hj, by omega⟩) (fun e => e.1 rfl) (fun j hj => by simp at hj; exact ⟨by omega, by omega⟩), List.Pairwise.nil, fun j hj => ⟨by omega, by omega⟩⟩
    have hB3 : Below n0 w (w2.alloc (.cells #[.slice none 0 0] 29)) := (hB1.trans (hB2.mono hz1)).trans ((bnew w2 _).mono (by have := hB2.size; omega))
    have hgn : n0 ≤ g := by omega
    have Hgr := Lib.hid hgr
    clear hs2 hg hgr
    go_wp2_with fail
    rw [← Hgr.out] at hBo ⊢
    have hz3 : n0 ≤ (w2.alloc (.cells #[.slice none 0 0] 29)).heap.size := by have := (bnew w2 (.cells #[.slice none 0 0] 29)).size; have := hB2.size; omega
    obtain ⟨W0, hW0⟩ : ∃ W0, W0 = w2.alloc (.cells #[.slice none 0 0] 29) := ⟨_, rfl⟩
    rw [← hW0] at hBo hB3 hz3 ⊢
    clear hW0 hg2 hT2 hB2 hB1 hz1
    go_loopw [6] (fun x wr => ∃ (k : Nat) (ps : IP) (R : Set'), x = .int .i64 k ∧ k ≤ l.length ∧ ps.length ≤ k ∧ Both n0 R wr g gr ps ∧ Below n0 w wr) (fun x _ => l.length - (intOf x).toNat)
    case atStart => exact ⟨0, [], _, rfl, Nat.zero_le _, Nat.le_refl _, hBo, hB3⟩
    case round =>
      obtain ⟨k, ps, R, rfl, hk, hpl, hBo, hB⟩ := hrel
      have hnz : n0 ≤ wr.heap.size := by have := hB.size; have := Hn0.out; omega
      by_cases hlt : k < l.length
      · obtain ⟨⟨ok, oa, ob⟩, ho⟩ := op_some hlt
        obtain ⟨b, off, rfl, hb, d1, d2, d3⟩ := hs k _ ho
        have k1 := (hB.cell (p := ⟨b, off + k * 3, none⟩) hb).trans d1
        have k2 := (hB.cell (p := ⟨b, off + k * 3 + 1, none⟩) hb).trans d2
        have k3 := (hB.cell (p := ⟨b, off + k * 3 + 2, none⟩) hb).trans d3
        have hbw : b < wr.heap.size := Nat.lt_of_lt_of_le hb hnz
        have hk1 : (k : Int) < (l.length : Int) := by omega
        have hk0 : (0 : Int) ≤ (k : Int) := Int.natCast_nonneg _
        dsimp only at k1 k2 k3
        have hkey := key_or (ps := ps) oa
        clear ho d1 d2 d3
        by_cases o0 : ok = 0
        · subst o0
          rcases hkey with hkey | hkey
          · skip
            have hg1 : got (fillG ps) oa = none := (got_fill ps oa).trans (last_none.2 hkey)
            have hput := tpute1_any hBo.tab.drew oa ob (by rw [fill_len hBo.un]; omega)
            rw [hg1] at hput
            have hql0 : (ps ++ [(oa, ob)]).length ≤ 60 ∧ (ps ++ [(oa, ob)]).length ≤ k + 1 := ⟨by simp; omega, by simp; omega⟩
            obtain ⟨qs, eqs⟩ : ∃ qs, qs = (ps ++ [(oa, ob)]) := ⟨_, rfl⟩
            have hkq : Unlike qs := by rw [eqs]; exact unlike_snoc' hBo.un hkey
            have hfx : ins (fillG ps) oa ob = fillG qs := by rw [eqs]; exact (fill_snoc ps (oa, ob)).symm
            have hql : qs.length ≤ 60 ∧ qs.length ≤ k + 1 := by rw [eqs]; exact hql0
            have hrp : ∀ w5, Sp g wr.drew w5 → Calls Try.prog 12 #[.pointer (some ⟨gr, 0, none⟩), vI oa, vI ob] w5.drew (RTurned R w5.drew gr (.bool false) qs) := fun w5 hs5 => by
              have hRd : RefT R w5.drew gr ps := hBo.ref_sp (Sp.drew (show Sp g wr w5 from ⟨hs5.os, hs5.tape, hs5.output, hs5.size, hs5.block⟩))
              rw [eqs]
              exact rput_new hRd oa ob (by omega) hkey
            have Hq := Lib.hid (And.intro hkq (And.intro hfx hql))
            have Hq60 := hql.1
            clear hg1 hkq hfx hql hql0 eqs hkey
            go_wp2_with fail
            go_region_held3 (fun w' => w'.cell? ⟨b, off + k * 3 + 1, none⟩ = some (vI oa) ∧ w'.cell? ⟨b, off + k * 3 + 2, none⟩ = some (vI ob)) (first | exact ⟨k2, k3⟩ | go_keep)
              (first
              | (go_at_call 11; refine hput.mono ?_; rintro e w5 ⟨rfl, hT5, hS5⟩; have x2 := (Sp.cell hS5 (k := b) (off + k * 3 + 1) hbw (by omega)).trans k2; have x3 := (Sp.cell hS5 (k := b) (off + k * 3 + 2) hbw (by omega)).trans k3))
            go_wp2_with fail
            go_region_held3 (fun w' => w'.cell? ⟨b, off + k * 3 + 1, none⟩ = some (vI oa) ∧ w'.cell? ⟨b, off + k * 3 + 2, none⟩ = some (vI ob)) (first | exact ⟨x2, x3⟩ | go_keep)
              (first
              | (go_at_call 12; refine (hrp w5 hS5).mono ?_; rintro e w6 ⟨rfl, R', hR6, hG6⟩; have y2 := (hG6.cell (p := ⟨b, off + k * 3 + 1, none⟩) x2 (fun e => by have := (hBo.rn b e).1; omega)); have y3 := (hG6.cell (p := ⟨b, off + k * 3 + 2, none⟩) x3 (fun e => by have := (hBo.rn b e).1; omega))))
            have hS5w : Sp g wr w5 := ⟨hS5.os, hS5.tape, hS5.output, hS5.size, hS5.block⟩
            have hB6 : Both n0 R' w6 g gr qs := Both.next hBo hS5w.drew hT5.drew hR6 hG6 hnz Hq.out.1 Hq.out.2.1
            have hBl6 : Below n0 w w6 := grow_below (bdrew1 (Sp.below hB hS5w hnz hgn)) hG6 (fun j hj => (hBo.rn j hj).1) (Nat.le_trans hnz hS5w.size)
            clear hput hrp hT5 hS5 hR6 hG6 x2 x3 y2 y3
            go_wp2_with fail
            obtain ⟨xs, exs⟩ : ∃ xs, xs = fillG qs := ⟨_, rfl⟩
            have hxl : xs.length = qs.length := by rw [exs]; exact fill_len hB6.un
            have hq60 : qs.length ≤ 60 := Hq60
            have hBd := hB6.below (bdrew1 (Below.refl _ _))
            have e17 := lene1_any hBd.tab
            rw [← exs, hxl] at e17
            have ht19 := hBd.tab1
            rw [← exs] at ht19
            have e19 := all_any ht19 (by omega)
            obtain ⟨v6, hv6⟩ := hB6.ref
            obtain ⟨A6, c6, rfl, hP6, hc6⟩ := hv6.form
            have c06 := hv6.box.cell
            have lgr := hv6.box.lt
            have Exs := Lib.hid exs
            have Hxl := Lib.hid hxl
            have hn6 := Nat.le_trans (Nat.le_of_eq Hn0.out) hBl6.size
            clear exs hxl hv6 ht19 hP6 hc6
            go_region_held3 (fun w' => w'.cell? ⟨gr, 0, none⟩ = some (.slice A6 qs.length c6)) (first | exact c06 | go_keep)
              (first
              | (go_at_call 17; refine e17.mono ?_; rintro e w7 ⟨rfl, rfl⟩)
              | (go_at_call 19; refine e19.mono ?_; rintro e w8 ⟨A8, c8, rfl, hc8, hP8, _, hB8⟩; have hB8' := hBd.below hB8; have c08 := (hB8.cell (p := ⟨gr, 0, none⟩) lgr).trans c06)
              | (go_at_call 20; refine (rall_any hB8'.ref hB8'.un (by omega)).mono ?_; rw [← Exs.out]; rintro e w9 ⟨A9, c9, rfl, hc9, hP9, _, hB9⟩; have hB9' := hB8'.below hB9; have c09 := (hB9.cell (p := ⟨gr, 0, none⟩) (Nat.lt_of_lt_of_le lgr hB8.size)).trans c08; have hxs9 : xs.length ≤ 1000000 := (by have := Hxl.out; omega))
              | (go_at_call 18; refine (same_true A8 A9 c8 c9 xs w9 (hP8.on hB9) hP9 hxs9).mono ?_; rintro e w10 ⟨rfl, hB10⟩; have hB10' := hB9'.below hB10; have c010 := (hB10.cell (p := ⟨gr, 0, none⟩) (Nat.lt_of_lt_of_le (Nat.lt_of_lt_of_le lgr hB8.size) hB9.size)).trans c09))
            go_wp2_with fail
            go_roundw
            case rel => exact ⟨k + 1, qs, R', by go_num, by omega, by have := Hq.out.2.2.2; omega, hB10', bthen (bthen (bthen (bdrew1 hBl6) hB8 hn6) hB9 (Nat.le_trans hn6 hB8.size)) hB10 (Nat.le_trans (Nat.le_trans hn6 hB8.size) hB9.size)⟩
            case measure => simp [intOf]; omega
          · skip
            obtain ⟨i, p, hi, rfl⟩ := hkey
            have hg1 : got (fillG ps) p.1 = some p.2 := (got_fill ps p.1).trans (last_unlike hBo.un (List.mem_of_getElem? hi))
            have hput := tpute1_any hBo.tab.drew p.1 ob (by rw [fill_len hBo.un]; omega)
            rw [hg1] at hput
            have hql0 : (ps.set i (p.1, ob)).length ≤ 60 ∧ (ps.set i (p.1, ob)).length ≤ k + 1 := ⟨by rw [List.length_set]; omega, by rw [List.length_set]; omega⟩
            obtain ⟨qs, eqs⟩ : ∃ qs, qs = (ps.set i (p.1, ob)) := ⟨_, rfl⟩
            have hkq : Unlike qs := by rw [eqs]; exact unlike_set hBo.un hi ob
            have hfx : ins (fillG ps) p.1 ob = fillG qs := by rw [eqs]; exact (fill_set hBo.un hi ob).symm
            have hql : qs.length ≤ 60 ∧ qs.length ≤ k + 1 := by rw [eqs]; exact hql0
            have hrp : ∀ w5, Sp g wr.drew w5 → Calls Try.prog 12 #[.pointer (some ⟨gr, 0, none⟩), vI p.1, vI ob] w5.drew (RTurned R w5.drew gr (.bool true) qs) := fun w5 hs5 => by
              have hRd : RefT R w5.drew gr ps := hBo.ref_sp (Sp.drew (show Sp g wr w5 from ⟨hs5.os, hs5.tape, hs5.output, hs5.size, hs5.block⟩))
              rw [eqs]
              exact rput_had hRd p.1 ob (by omega) hi rfl hBo.un
            have Hq := Lib.hid (And.intro hkq (And.intro hfx hql))
            have Hq60 := hql.1
            clear hg1 hkq hfx hql hql0 eqs hi
            go_wp2_with fail
            go_region_held3 (fun w' => w'.cell? ⟨b, off + k * 3 + 1, none⟩ = some (vI p.1) ∧ w'.cell? ⟨b, off + k * 3 + 2, none⟩ = some (vI ob)) (first | exact ⟨k2, k3⟩ | go_keep)
              (first
              | (go_at_call 11; refine hput.mono ?_; rintro e w5 ⟨rfl, hT5, hS5⟩; have x2 := (Sp.cell hS5 (k := b) (off + k * 3 + 1) hbw (by omega)).trans k2; have x3 := (Sp.cell hS5 (k := b) (off + k * 3 + 2) hbw (by omega)).trans k3))
            go_wp2_with fail
            go_region_held3 (fun w' => w'.cell? ⟨b, off + k * 3 + 1, none⟩ = some (vI p.1) ∧ w'.cell? ⟨b, off + k * 3 + 2, none⟩ = some (vI ob)) (first | exact ⟨x2, x3⟩ | go_keep)
              (first
              | (go_at_call 12; refine (hrp w5 hS5).mono ?_; rintro e w6 ⟨rfl, R', hR6, hG6⟩; have y2 := (hG6.cell (p := ⟨b, off + k * 3 + 1, none⟩) x2 (fun e => by have := (hBo.rn b e).1; omega)); have y3 := (hG6.cell (p := ⟨b, off + k * 3 + 2, none⟩) x3 (fun e => by have := (hBo.rn b e).1; omega))))
            have hS5w : Sp g wr w5 := ⟨hS5.os, hS5.tape, hS5.output, hS5.size, hS5.block⟩
            have hB6 : Both n0 R' w6 g gr qs := Both.next hBo hS5w.drew hT5.drew hR6 hG6 hnz Hq.out.1 Hq.out.2.1
            have hBl6 : Below n0 w w6 := grow_below (bdrew1 (Sp.below hB hS5w hnz hgn)) hG6 (fun j hj => (hBo.rn j hj).1) (Nat.le_trans hnz hS5w.size)
            clear hput hrp hT5 hS5 hR6 hG6 x2 x3 y2 y3
            go_wp2_with fail
            obtain ⟨xs, exs⟩ : ∃ xs, xs = fillG qs := ⟨_, rfl⟩
            have hxl : xs.length = qs.length := by rw [exs]; exact fill_len hB6.un
            have hq60 : qs.length ≤ 60 := Hq60
            have hBd := hB6.below (bdrew1 (Below.refl _ _))
            have e17 := lene1_any hBd.tab
            rw [← exs, hxl] at e17
            have ht19 := hBd.tab1
            rw [← exs] at ht19
            have e19 := all_any ht19 (by omega)
            obtain ⟨v6, hv6⟩ := hB6.ref
            obtain ⟨A6, c6, rfl, hP6, hc6⟩ := hv6.form
            have c06 := hv6.box.cell
            have lgr := hv6.box.lt
            have Exs := Lib.hid exs
            have Hxl := Lib.hid hxl
            have hn6 := Nat.le_trans (Nat.le_of_eq Hn0.out) hBl6.size
            clear exs hxl hv6 ht19 hP6 hc6
            go_region_held3 (fun w' => w'.cell? ⟨gr, 0, none⟩ = some (.slice A6 qs.length c6)) (first | exact c06 | go_keep)
              (first
              | (go_at_call 17; refine e17.mono ?_; rintro e w7 ⟨rfl, rfl⟩)
              | (go_at_call 19; refine e19.mono ?_; rintro e w8 ⟨A8, c8, rfl, hc8, hP8, _, hB8⟩; have hB8' := hBd.below hB8; have c08 := (hB8.cell (p := ⟨gr, 0, none⟩) lgr).trans c06)
              | (go_at_call 20; refine (rall_any hB8'.ref hB8'.un (by omega)).mono ?_; rw [← Exs.out]; rintro e w9 ⟨A9, c9, rfl, hc9, hP9, _, hB9⟩; have hB9' := hB8'.below hB9; have c09 := (hB9.cell (p := ⟨gr, 0, none⟩) (Nat.lt_of_lt_of_le lgr hB8.size)).trans c08; have hxs9 : xs.length ≤ 1000000 := (by have := Hxl.out; omega))
              | (go_at_call 18; refine (same_true A8 A9 c8 c9 xs w9 (hP8.on hB9) hP9 hxs9).mono ?_; rintro e w10 ⟨rfl, hB10⟩; have hB10' := hB9'.below hB10; have c010 := (hB10.cell (p := ⟨gr, 0, none⟩) (Nat.lt_of_lt_of_le (Nat.lt_of_lt_of_le lgr hB8.size) hB9.size)).trans c09))
            go_wp2_with fail
            go_roundw
            case rel => exact ⟨k + 1, qs, R', by go_num, by omega, by have := Hq.out.2.2.2; omega, hB10', bthen (bthen (bthen (bdrew1 hBl6) hB8 hn6) hB9 (Nat.le_trans hn6 hB8.size)) hB10 (Nat.le_trans (Nat.le_trans hn6 hB8.size) hB9.size)⟩
            case measure => simp [intOf]; omega
        · have p0 : (ok == 0) = false := by simpa using o0
          by_cases o1 : ok = 1
          · subst o1
            rcases hkey with hkey | hkey
            · skip
              have hg1 : got (fillG ps) oa = none := (got_fill ps oa).trans (last_none.2 hkey)
              have e13 := get1_any hBo.tab1 oa
              rw [hg1] at e13
              have e14 := rget_none hBo.ref oa (by omega) hkey
              clear hg1 hkey
              go_wp2_with (first
                | (go_at_call 13; refine e13.mono ?_; rintro e w5 ⟨rfl, rfl⟩)
                | (go_at_call 14; refine e14.mono ?_; rintro e w6 ⟨rfl, rfl⟩))
              obtain ⟨xs, exs⟩ : ∃ xs, xs = fillG ps := ⟨_, rfl⟩
              have hxl : xs.length = ps.length := by rw [exs]; exact fill_len hBo.un
              have hq60 : ps.length ≤ 60 := by omega
              have hBd := hBo.below (bdrew1 (Below.refl _ _))
              have e17 := lene1_any hBd.tab
              rw [← exs, hxl] at e17
              have ht19 := hBd.tab1
              rw [← exs] at ht19
              have e19 := all_any ht19 (by omega)
              obtain ⟨v6, hv6⟩ := hBo.ref
              obtain ⟨A6, c6, rfl, hP6, hc6⟩ := hv6.form
              have c06 := hv6.box.cell
              have lgr := hv6.box.lt
              have Exs := Lib.hid exs
              have Hxl := Lib.hid hxl
              have hn6 := Nat.le_trans (Nat.le_of_eq Hn0.out) hB.size
              clear exs hxl hv6 ht19 hP6 hc6
              go_region_held3 (fun w' => w'.cell? ⟨gr, 0, none⟩ = some (.slice A6 ps.length c6)) (first | exact c06 | go_keep)
                (first
                | (go_at_call 17; refine e17.mono ?_; rintro e w7 ⟨rfl, rfl⟩)
                | (go_at_call 19; refine e19.mono ?_; rintro e w8 ⟨A8, c8, rfl, hc8, hP8, _, hB8⟩; have hB8' := hBd.below hB8; have c08 := (hB8.cell (p := ⟨gr, 0, none⟩) lgr).trans c06)
                | (go_at_call 20; refine (rall_any hB8'.ref hB8'.un (by omega)).mono ?_; rw [← Exs.out]; rintro e w9 ⟨A9, c9, rfl, hc9, hP9, _, hB9⟩; have hB9' := hB8'.below hB9; have c09 := (hB9.cell (p := ⟨gr, 0, none⟩) (Nat.lt_of_lt_of_le lgr hB8.size)).trans c08; have hxs9 : xs.length ≤ 1000000 := (by have := Hxl.out; omega))
                | (go_at_call 18; refine (same_true A8 A9 c8 c9 xs w9 (hP8.on hB9) hP9 hxs9).mono ?_; rintro e w10 ⟨rfl, hB10⟩; have hB10' := hB9'.below hB10; have c010 := (hB10.cell (p := ⟨gr, 0, none⟩) (Nat.lt_of_lt_of_le (Nat.lt_of_lt_of_le lgr hB8.size) hB9.size)).trans c09))
              go_wp2_with fail
              go_roundw
              case rel => exact ⟨k + 1, ps, R, by go_num, by omega, by omega, hB10', bthen (bthen (bthen (bdrew1 hB) hB8 hn6) hB9 (Nat.le_trans hn6 hB8.size)) hB10 (Nat.le_trans (Nat.le_trans hn6 hB8.size) hB9.size)⟩
              case measure => simp [intOf]; omega
            · skip
              obtain ⟨i, p, hi, rfl⟩ := hkey
              have hg1 : got (fillG ps) p.1 = some p.2 := (got_fill ps p.1).trans (last_unlike hBo.un (List.mem_of_getElem? hi))
              have e13 := get1_any hBo.tab1 p.1
              rw [hg1] at e13
              have e14 := rget_some hBo.ref p.1 (by omega) hi rfl hBo.un
              clear hg1 hi
              go_wp2_with (first
                | (go_at_call 13; refine e13.mono ?_; rintro e w5 ⟨rfl, rfl⟩)
                | (go_at_call 14; refine e14.mono ?_; rintro e w6 ⟨rfl, rfl⟩))
              obtain ⟨xs, exs⟩ : ∃ xs, xs = fillG ps := ⟨_, rfl⟩
              have hxl : xs.length = ps.length := by rw [exs]; exact fill_len hBo.un
              have hq60 : ps.length ≤ 60 := by omega
              have hBd := hBo.below (bdrew1 (Below.refl _ _))
              have e17 := lene1_any hBd.tab
              rw [← exs, hxl] at e17
              have ht19 := hBd.tab1
              rw [← exs] at ht19
              have e19 := all_any ht19 (by omega)
              obtain ⟨v6, hv6⟩ := hBo.ref
              obtain ⟨A6, c6, rfl, hP6, hc6⟩ := hv6.form
              have c06 := hv6.box.cell
              have lgr := hv6.box.lt
              have Exs := Lib.hid exs
              have Hxl := Lib.hid hxl
              have hn6 := Nat.le_trans (Nat.le_of_eq Hn0.out) hB.size
              clear exs hxl hv6 ht19 hP6 hc6
              go_region_held3 (fun w' => w'.cell? ⟨gr, 0, none⟩ = some (.slice A6 ps.length c6)) (first | exact c06 | go_keep)
                (first
                | (go_at_call 17; refine e17.mono ?_; rintro e w7 ⟨rfl, rfl⟩)
                | (go_at_call 19; refine e19.mono ?_; rintro e w8 ⟨A8, c8, rfl, hc8, hP8, _, hB8⟩; have hB8' := hBd.below hB8; have c08 := (hB8.cell (p := ⟨gr, 0, none⟩) lgr).trans c06)
                | (go_at_call 20; refine (rall_any hB8'.ref hB8'.un (by omega)).mono ?_; rw [← Exs.out]; rintro e w9 ⟨A9, c9, rfl, hc9, hP9, _, hB9⟩; have hB9' := hB8'.below hB9; have c09 := (hB9.cell (p := ⟨gr, 0, none⟩) (Nat.lt_of_lt_of_le lgr hB8.size)).trans c08; have hxs9 : xs.length ≤ 1000000 := (by have := Hxl.out; omega))
                | (go_at_call 18; refine (same_true A8 A9 c8 c9 xs w9 (hP8.on hB9) hP9 hxs9).mono ?_; rintro e w10 ⟨rfl, hB10⟩; have hB10' := hB9'.below hB10; have c010 := (hB10.cell (p := ⟨gr, 0, none⟩) (Nat.lt_of_lt_of_le (Nat.lt_of_lt_of_le lgr hB8.size) hB9.size)).trans c09))
              go_wp2_with fail
              go_roundw
              case rel => exact ⟨k + 1, ps, R, by go_num, by omega, by omega, hB10', bthen (bthen (bthen (bdrew1 hB) hB8 hn6) hB9 (Nat.le_trans hn6 hB8.size)) hB10 (Nat.le_trans (Nat.le_trans hn6 hB8.size) hB9.size)⟩
              case measure => simp [intOf]; omega
          · have p1 : (ok == 1) = false := by simpa using o1
            by_cases o2 : ok = 2
            · subst o2
              rcases hkey with hkey | hkey
              · skip
                have hg1 : got (fillG ps) oa = none := (got_fill ps oa).trans (last_none.2 hkey)
                have hdr := tdrope1_any hBo.tab oa (by rw [fill_len hBo.un]; omega)
                rw [hg1] at hdr
                have hql0 : ps.length ≤ 60 ∧ ps.length ≤ k + 1 := ⟨by omega, by omega⟩
                obtain ⟨qs, eqs⟩ : ∃ qs, qs = ps := ⟨_, rfl⟩
                have hkq : Unlike qs := by rw [eqs]; exact hBo.un
                have hfx : del (fillG ps) oa = fillG qs := by rw [eqs]; exact del_none' hg1
                have hql : qs.length ≤ 60 ∧ qs.length ≤ k + 1 := by rw [eqs]; exact hql0
                have hrp : ∀ w5, Sp g wr w5 → Calls Try.prog 16 #[.pointer (some ⟨gr, 0, none⟩), vI oa] w5 (RTurned R w5 gr (.bool false) qs) := fun w5 hs5 => by
                  have hRd : RefT R w5 gr ps := hBo.ref_sp hs5
                  rw [eqs]
                  exact rdrop_none hRd oa (by omega) hkey
                have Hq := Lib.hid (And.intro hkq (And.intro hfx hql))
                have Hq60 := hql.1
                clear hg1 hkq hfx hql hql0 eqs hkey
                go_wp2_with (first
                  | (go_at_call 15; refine hdr.mono ?_; rintro e w5 ⟨rfl, hT5, hS5⟩; have x2 := (Sp.cell hS5 (k := b) (off + k * 3 + 1) hbw (by omega)).trans k2)
                  | (go_at_call 16; refine (hrp w5 hS5).mono ?_; rintro e w6 ⟨rfl, R', hR6, hG6⟩; have hB6 : Both n0 R' w6 g gr qs := Both.next hBo hS5 hT5 hR6 hG6 hnz Hq.out.1 Hq.out.2.1; have hBl6 : Below n0 w w6 := grow_below (Sp.below hB hS5 hnz hgn) hG6 (fun j hj => (hBo.rn j hj).1) (Nat.le_trans hnz hS5.size)))
                obtain ⟨xs, exs⟩ : ∃ xs, xs = fillG qs := ⟨_, rfl⟩
                have hxl : xs.length = qs.length := by rw [exs]; exact fill_len hB6.un
                have hq60 : qs.length ≤ 60 := Hq60
                have hBd := hB6.below (bdrew1 (Below.refl _ _))
                have e17 := lene1_any hBd.tab
                rw [← exs, hxl] at e17
                have ht19 := hBd.tab1
                rw [← exs] at ht19
                have e19 := all_any ht19 (by omega)
                obtain ⟨v6, hv6⟩ := hB6.ref
                obtain ⟨A6, c6, rfl, hP6, hc6⟩ := hv6.form
                have c06 := hv6.box.cell
                have lgr := hv6.box.lt
                have Exs := Lib.hid exs
                have Hxl := Lib.hid hxl
                have hn6 := Nat.le_trans (Nat.le_of_eq Hn0.out) hBl6.size
                clear exs hxl hv6 ht19 hP6 hc6
                go_region_held3 (fun w' => w'.cell? ⟨gr, 0, none⟩ = some (.slice A6 qs.length c6)) (first | exact c06 | go_keep)
                  (first
                  | (go_at_call 17; refine e17.mono ?_; rintro e w7 ⟨rfl, rfl⟩)
                  | (go_at_call 19; refine e19.mono ?_; rintro e w8 ⟨A8, c8, rfl, hc8, hP8, _, hB8⟩; have hB8' := hBd.below hB8; have c08 := (hB8.cell (p := ⟨gr, 0, none⟩) lgr).trans c06)
                  | (go_at_call 20; refine (rall_any hB8'.ref hB8'.un (by omega)).mono ?_; rw [← Exs.out]; rintro e w9 ⟨A9, c9, rfl, hc9, hP9, _, hB9⟩; have hB9' := hB8'.below hB9; have c09 := (hB9.cell (p := ⟨gr, 0, none⟩) (Nat.lt_of_lt_of_le lgr hB8.size)).trans c08; have hxs9 : xs.length ≤ 1000000 := (by have := Hxl.out; omega))
                  | (go_at_call 18; refine (same_true A8 A9 c8 c9 xs w9 (hP8.on hB9) hP9 hxs9).mono ?_; rintro e w10 ⟨rfl, hB10⟩; have hB10' := hB9'.below hB10; have c010 := (hB10.cell (p := ⟨gr, 0, none⟩) (Nat.lt_of_lt_of_le (Nat.lt_of_lt_of_le lgr hB8.size) hB9.size)).trans c09))
                go_wp2_with fail
                go_roundw
                case rel => exact ⟨k + 1, qs, R', by go_num, by omega, by have := Hq.out.2.2.2; omega, hB10', bthen (bthen (bthen (bdrew1 hBl6) hB8 hn6) hB9 (Nat.le_trans hn6 hB8.size)) hB10 (Nat.le_trans (Nat.le_trans hn6 hB8.size) hB9.size)⟩
                case measure => simp [intOf]; omega
              · skip
                obtain ⟨i, p, hi, rfl⟩ := hkey
                have hg1 : got (fillG ps) p.1 = some p.2 := (got_fill ps p.1).trans (last_unlike hBo.un (List.mem_of_getElem? hi))
                have hdr := tdrope1_any hBo.tab p.1 (by rw [fill_len hBo.un]; omega)
                rw [hg1] at hdr
                have hql0 : (ps.eraseIdx i).length ≤ 60 ∧ (ps.eraseIdx i).length ≤ k + 1 := ⟨by have := List.length_eraseIdx_le ps i; omega, by have := List.length_eraseIdx_le ps i; omega⟩
                obtain ⟨qs, eqs⟩ : ∃ qs, qs = (ps.eraseIdx i) := ⟨_, rfl⟩
                have hkq : Unlike qs := by rw [eqs]; exact hBo.un.sublist (List.eraseIdx_sublist _ _)
                have hfx : del (fillG ps) p.1 = fillG qs := by rw [eqs]; exact (fill_erase hBo.un hi).symm
                have hql : qs.length ≤ 60 ∧ qs.length ≤ k + 1 := by rw [eqs]; exact hql0
                have hrp : ∀ w5, Sp g wr w5 → Calls Try.prog 16 #[.pointer (some ⟨gr, 0, none⟩), vI p.1] w5 (RTurned R w5 gr (.bool true) qs) := fun w5 hs5 => by
                  have hRd : RefT R w5 gr ps := hBo.ref_sp hs5
                  rw [eqs]
                  exact rdrop_had hRd p.1 (by omega) hi rfl hBo.un
                have Hq := Lib.hid (And.intro hkq (And.intro hfx hql))
                have Hq60 := hql.1
                clear hg1 hkq hfx hql hql0 eqs hi
                go_wp2_with (first
                  | (go_at_call 15; refine hdr.mono ?_; rintro e w5 ⟨rfl, hT5, hS5⟩; have x2 := (Sp.cell hS5 (k := b) (off + k * 3 + 1) hbw (by omega)).trans k2)
                  | (go_at_call 16; refine (hrp w5 hS5).mono ?_; rintro e w6 ⟨rfl, R', hR6, hG6⟩; have hB6 : Both n0 R' w6 g gr qs := Both.next hBo hS5 hT5 hR6 hG6 hnz Hq.out.1 Hq.out.2.1; have hBl6 : Below n0 w w6 := grow_below (Sp.below hB hS5 hnz hgn) hG6 (fun j hj => (hBo.rn j hj).1) (Nat.le_trans hnz hS5.size)))
                obtain ⟨xs, exs⟩ : ∃ xs, xs = fillG qs := ⟨_, rfl⟩
                have hxl : xs.length = qs.length := by rw [exs]; exact fill_len hB6.un
                have hq60 : qs.length ≤ 60 := Hq60
                have hBd := hB6.below (bdrew1 (Below.refl _ _))
                have e17 := lene1_any hBd.tab
                rw [← exs, hxl] at e17
                have ht19 := hBd.tab1
                rw [← exs] at ht19
                have e19 := all_any ht19 (by omega)
                obtain ⟨v6, hv6⟩ := hB6.ref
                obtain ⟨A6, c6, rfl, hP6, hc6⟩ := hv6.form
                have c06 := hv6.box.cell
                have lgr := hv6.box.lt
                have Exs := Lib.hid exs
                have Hxl := Lib.hid hxl
                have hn6 := Nat.le_trans (Nat.le_of_eq Hn0.out) hBl6.size
                clear exs hxl hv6 ht19 hP6 hc6
                go_region_held3 (fun w' => w'.cell? ⟨gr, 0, none⟩ = some (.slice A6 qs.length c6)) (first | exact c06 | go_keep)
                  (first
                  | (go_at_call 17; refine e17.mono ?_; rintro e w7 ⟨rfl, rfl⟩)
                  | (go_at_call 19; refine e19.mono ?_; rintro e w8 ⟨A8, c8, rfl, hc8, hP8, _, hB8⟩; have hB8' := hBd.below hB8; have c08 := (hB8.cell (p := ⟨gr, 0, none⟩) lgr).trans c06)
                  | (go_at_call 20; refine (rall_any hB8'.ref hB8'.un (by omega)).mono ?_; rw [← Exs.out]; rintro e w9 ⟨A9, c9, rfl, hc9, hP9, _, hB9⟩; have hB9' := hB8'.below hB9; have c09 := (hB9.cell (p := ⟨gr, 0, none⟩) (Nat.lt_of_lt_of_le lgr hB8.size)).trans c08; have hxs9 : xs.length ≤ 1000000 := (by have := Hxl.out; omega))
                  | (go_at_call 18; refine (same_true A8 A9 c8 c9 xs w9 (hP8.on hB9) hP9 hxs9).mono ?_; rintro e w10 ⟨rfl, hB10⟩; have hB10' := hB9'.below hB10; have c010 := (hB10.cell (p := ⟨gr, 0, none⟩) (Nat.lt_of_lt_of_le (Nat.lt_of_lt_of_le lgr hB8.size) hB9.size)).trans c09))
                go_wp2_with fail
                go_roundw
                case rel => exact ⟨k + 1, qs, R', by go_num, by omega, by have := Hq.out.2.2.2; omega, hB10', bthen (bthen (bthen (bdrew1 hBl6) hB8 hn6) hB9 (Nat.le_trans hn6 hB8.size)) hB10 (Nat.le_trans (Nat.le_trans hn6 hB8.size) hB9.size)⟩
                case measure => simp [intOf]; omega
            · have p2 : (ok == 2) = false := by simpa using o2
              go_wp2_with fail
              obtain ⟨xs, exs⟩ : ∃ xs, xs = fillG ps := ⟨_, rfl⟩
              have hxl : xs.length = ps.length := by rw [exs]; exact fill_len hBo.un
              have hq60 : ps.length ≤ 60 := by omega
              have hBd := hBo.below (bdrew1 (Below.refl _ _))
              have e17 := lene1_any hBd.tab
              rw [← exs, hxl] at e17
              have ht19 := hBd.tab1
              rw [← exs] at ht19
              have e19 := all_any ht19 (by omega)
              obtain ⟨v6, hv6⟩ := hBo.ref
              obtain ⟨A6, c6, rfl, hP6, hc6⟩ := hv6.form
              have c06 := hv6.box.cell
              have lgr := hv6.box.lt
              have Exs := Lib.hid exs
              have Hxl := Lib.hid hxl
              have hn6 := Nat.le_trans (Nat.le_of_eq Hn0.out) hB.size
              clear exs hxl hv6 ht19 hP6 hc6
              go_region_held3 (fun w' => w'.cell? ⟨gr, 0, none⟩ = some (.slice A6 ps.length c6)) (first | exact c06 | go_keep)
                (first
                | (go_at_call 17; refine e17.mono ?_; rintro e w7 ⟨rfl, rfl⟩)
                | (go_at_call 19; refine e19.mono ?_; rintro e w8 ⟨A8, c8, rfl, hc8, hP8, _, hB8⟩; have hB8' := hBd.below hB8; have c08 := (hB8.cell (p := ⟨gr, 0, none⟩) lgr).trans c06)
                | (go_at_call 20; refine (rall_any hB8'.ref hB8'.un (by omega)).mono ?_; rw [← Exs.out]; rintro e w9 ⟨A9, c9, rfl, hc9, hP9, _, hB9⟩; have hB9' := hB8'.below hB9; have c09 := (hB9.cell (p := ⟨gr, 0, none⟩) (Nat.lt_of_lt_of_le lgr hB8.size)).trans c08; have hxs9 : xs.length ≤ 1000000 := (by have := Hxl.out; omega))
                | (go_at_call 18; refine (same_true A8 A9 c8 c9 xs w9 (hP8.on hB9) hP9 hxs9).mono ?_; rintro e w10 ⟨rfl, hB10⟩; have hB10' := hB9'.below hB10; have c010 := (hB10.cell (p := ⟨gr, 0, none⟩) (Nat.lt_of_lt_of_le (Nat.lt_of_lt_of_le lgr hB8.size) hB9.size)).trans c09))
              go_wp2_with fail
              go_roundw
              case rel => exact ⟨k + 1, ps, R, by go_num, by omega, by omega, hB10', bthen (bthen (bthen (bdrew1 hB) hB8 hn6) hB9 (Nat.le_trans hn6 hB8.size)) hB10 (Nat.le_trans (Nat.le_trans hn6 hB8.size) hB9.size)⟩
              case measure => simp [intOf]; omega
      · obtain rfl : k = l.length := by omega
        obtain ⟨xs, exs⟩ : ∃ xs, xs = fillG ps := ⟨_, rfl⟩
        have hxl : xs.length = ps.length := by rw [exs]; exact fill_len hBo.un
        have ht1 := hBo.tab1
        rw [← exs] at ht1
        have e21 := least1_any ht1
        have Exs := Lib.hid exs
        clear exs ht1
        cases xs with
        | nil =>
          have hp0 : ps = [] := List.eq_nil_of_length_eq_zero hxl.symm
          subst hp0
          have e21' : Calls Try.prog 21 #[.pointer (some ⟨g, 0, none⟩)] wr (fun e w' => e = .returned (.tuple #[vI 0, vI 0, .bool false]) ∧ Below wr.heap.size wr w') := e21
          obtain ⟨v6, hv6⟩ := hBo.ref
          obtain ⟨A6, c6, rfl, hP6, hc6⟩ := hv6.form
          have c06 := hv6.box.cell
          have c06' : wr.cell? ⟨gr, 0, none⟩ = some (.slice A6 0 c6) := c06
          have lgr := hv6.box.lt
          clear e21 hxl hv6 c06
          go_wp2_with (first
            | (go_at_call 21; refine e21'.mono ?_; rintro e w5 ⟨rfl, hB5⟩; have c05 := (hB5.cell (p := ⟨gr, 0, none⟩) lgr).trans c06'))
          go_ret
          exact ⟨ret_bool (by simp), bthen hB hB5 hnz⟩
        | cons x rest =>
          have e21' : Calls Try.prog 21 #[.pointer (some ⟨g, 0, none⟩)] wr (fun e w' => e = .returned (.tuple #[vI x.1, vI x.2, .bool true]) ∧ Below wr.heap.size wr w') := e21
          obtain ⟨v6, hv6⟩ := hBo.ref
          obtain ⟨A6, c6, rfl, hP6, hc6⟩ := hv6.form
          have c06 := hv6.box.cell
          have lgr := hv6.box.lt
          have hpos : 1 ≤ ps.length := by rw [← hxl]; simp
          have hpe : ((ps.length : Int) == 0) = false := by rw [beq_eq_false_iff_ne]; omega
          have hpe2 : ¬ (ps.length : Int) = 0 := by omega
          have hxr : (x :: rest).length = rest.length + 1 := rfl
          obtain ⟨N, hN⟩ : ∃ N, N = (x :: rest).length := ⟨_, rfl⟩
          have hN1 : (0 : Int) < (N : Int) := by rw [hN]; simp
          have HN := Lib.hid hN
          clear e21 hxl hv6 hxr hN
          go_wp2_with (first
            | (go_at_call 21; refine e21'.mono ?_; rintro e w5 ⟨rfl, hB5⟩; have c05 := (hB5.cell (p := ⟨gr, 0, none⟩) lgr).trans c06; have hB5' := hBo.below hB5)
            | (go_at_call 20; refine (rall_any hB5'.ref hB5'.un (by omega)).mono ?_; rw [← Exs.out]; rintro e w6 ⟨A9, c9, rfl, hc9, hP9, _, hB9⟩; rw [← HN.out]; obtain ⟨b9, off9, rfl, hb9, z1, z2⟩ := hP9 0 x rfl; rw [Nat.zero_mul, Nat.add_zero] at z1 z2))
          go_ret
          exact ⟨ret_bool (by simp), bthen (bthen (bthen hB hB5 hnz) hB9 (Nat.le_trans hnz hB5.size)) (bnew _ _) (Nat.le_trans (Nat.le_trans hnz hB5.size) hB9.size)⟩
  · have hn2 : (60 : Int) < (n : Int) := by omega
    go_enter Try.func3, Try.ntmps3
    go_wp2_with fail
    refine (awake_any w).mono ?_
    rintro e w1 ⟨rfl, hB1⟩
    go_wp2_with fail
    go_ret
    exact ⟨rfl, hB1⟩
end Go.Proofs.Ytogeifnkjckaiaa
