/- The law FieldTurns, walked: for any fields, numbers and turn it answers true, and nothing that was there changes. -/
import Derived.Test.YtoffliekebpmlaaSum
namespace Go.Proofs.Ytoffliekebpmlaa
open Go.RowKit
attribute [local go_sem ↓] Go.wp_at_zero Go.wp_at_succ

theorem over_sym {f g : Int × Int} (h : NotOver f g) : NotOver g f := fun h2 => h (over_symm h2)
/-- turned round by j -/
def rot {α : Type} (j : Nat) (l : List α) : List α := l.drop j ++ l.take j
theorem rot_perm {α : Type} (j : Nat) (l : List α) : (rot j l).Perm l := by
  have h : (rot j l).Perm (l.take j ++ l.drop j) := List.perm_append_comm
  rwa [List.take_append_drop] at h
theorem rot_length {α : Type} (j : Nat) (l : List α) : (rot j l).length = l.length := (rot_perm j l).length_eq
theorem rot_at {α : Type} {l : List α} {i y : Nat} (h : i < l.length) : (rot (y % l.length) l)[i]? = l[(i + y) % l.length]? := by
  have hj : y % l.length < l.length := Nat.mod_lt _ (by omega)
  have e : (i + y) % l.length = (i + y % l.length) % l.length := by rw [Nat.add_mod, Nat.mod_eq_of_lt h]
  generalize y % l.length = j at hj e ⊢
  rw [e, rot]
  by_cases h2 : i < l.length - j
  · rw [List.getElem?_append_left (by simp; omega), List.getElem?_drop, Nat.mod_eq_of_lt (by omega), Nat.add_comm]
  · rw [List.getElem?_append_right (by simp; omega), List.length_drop, List.getElem?_take_of_lt (by omega), Nat.mod_eq_sub_mod (by omega), Nat.mod_eq_of_lt (by omega)]
    congr 1
    omega
theorem rot_zip {α β : Type} (j : Nat) (l : List α) (m : List β) (h : l.length = m.length) : (rot j l).zip (rot j m) = rot j (l.zip m) := by
  unfold rot
  rw [List.zip_append (by simp [h])]
  simp [List.zip_eq_zipWith, List.drop_zipWith, List.take_zipWith]
theorem apart_rot (j : Nat) (fs : List (Int × Int)) : apartB (rot j fs) = apartB fs := by
  rw [Bool.eq_iff_iff, apartB_iff, apartB_iff]
  have hp := rot_perm j fs
  exact and_congr ⟨fun h f hf => h f (hp.mem_iff.2 hf), fun h f hf => h f (hp.mem_iff.1 hf)⟩ (hp.pairwise_iff over_sym)
theorem packOk_rot (j : Nat) {fs : List (Int × Int)} {vs : List Int} (h : fs.length = vs.length) : packOk (rot j fs) (rot j vs) = packOk fs vs := by
  rw [Bool.eq_iff_iff, packOk_iff, packOk_iff, apart_rot, rot_length, rot_length, rot_zip j fs vs h]
  have hp := rot_perm j (fs.zip vs)
  refine and_congr_right fun _ => and_congr_right fun _ => ?_
  rw [List.all_eq_true, List.all_eq_true]
  exact ⟨fun h f hf => h f (hp.mem_iff.2 hf), fun h f hf => h f (hp.mem_iff.1 hf)⟩
theorem packI_rot (j : Nat) {fs : List (Int × Int)} {vs : List Int} (h : fs.length = vs.length) : packI (rot j fs) (rot j vs) = packI fs vs := by
  unfold packI
  rw [packOk_rot j h]
  split
  · next ho =>
    have ha := (packOk_iff.1 ho).2.1
    exact (good_zip (rot j vs) (by rw [apart_rot]; exact ha)).same (good_zip vs ha) fun p => by rw [rot_zip j fs vs h]; exact (rot_perm j _).mem_iff
  · rfl

/-- the cells of a list of fields, one behind the other -/
def flat (fs : List (Int × Int)) : List Value := fs.flatMap fun f => [.int .i64 f.1, .int .i64 f.2]
theorem flat_snoc (fs : List (Int × Int)) (p q : Int) : flat (fs ++ [(p, q)]) = flat fs ++ [.int .i64 p, .int .i64 q] := by simp [flat]
theorem flat_length (fs : List (Int × Int)) : (flat fs).length = fs.length * 2 := by
  induction fs with
  | nil => rfl
  | cons f fs ih => simp only [flat, List.flatMap_cons, List.length_append, List.length_cons, List.length_nil] at *; omega
theorem flat_at : ∀ (fs : List (Int × Int)) (k : Nat) (p q : Int), fs[k]? = some (p, q) → (flat fs)[k * 2]? = some (.int .i64 p) ∧ (flat fs)[k * 2 + 1]? = some (.int .i64 q)
  | [], k, p, q, h => by simp at h
  | f :: fs, 0, p, q, h => by simp at h; subst h; exact ⟨rfl, rfl⟩
  | f :: fs, k + 1, p, q, h => by
    have ih := flat_at fs k p q (by simpa using h)
    have e : (k + 1) * 2 = k * 2 + 1 + 1 := by omega
    rw [e]
    exact ih
theorem own_fs {w : World} {base n c : Nat} {A : Option Addr} {fs : List (Int × Int)} (h : w.ownsRow base 23 2 (.slice A n c) n (flat fs)) : Fds w w.heap.size A fs ∧ fs.length = n ∧ n ≤ c := by
  have hlen : fs.length = n := by have := h.1; rw [flat_length] at this; omega
  rcases h.2 with ⟨h1, h2⟩ | ⟨g, cap, cur, h1, _, hg, h2, _⟩
  · cases h1
    exact ⟨.inl (List.eq_nil_of_length_eq_zero (by omega)), hlen, by omega⟩
  · cases h1
    refine ⟨.inr ⟨g, 0, rfl, (Array.getElem?_eq_some_iff.1 hg).1, fun k p q hk => ?_⟩, hlen, h2⟩
    obtain ⟨f1, f2⟩ := flat_at fs k p q hk
    have c1 := h.cells (g := g) rfl _ _ f1
    have c2 := h.cells (g := g) rfl _ _ f2
    have ha : ∀ j, (⟨g, 0, none⟩ : Addr).add j = ⟨g, 0 + j, none⟩ := fun j => by unfold Addr.add; split <;> simp_all
    rw [ha] at c1 c2
    exact ⟨c1, by rw [Nat.add_assoc]; exact c2⟩
theorem own_apart {w : World} {b1 b2 e1 e2 s1 s2 n1 n2 : Nat} {v1 v2 : Value} {xs ys : List Value} (h1 : w.ownsRow b1 e1 s1 v1 n1 xs) (h2 : w.ownsRow b2 e2 s2 v2 n2 ys) (hne : e1 ≠ e2) : v1.ownBlock = none ∨ v1.ownBlock ≠ v2.ownBlock := by
  rcases h1.2 with ⟨rfl, _⟩ | ⟨g, cap, cur, rfl, _, hg, _⟩
  · exact .inl rfl
  · right
    rcases h2.2 with ⟨rfl, _⟩ | ⟨g2, cap2, cur2, rfl, _, hg2, _⟩
    · simp [Value.ownBlock]
    · intro e
      have : g = g2 := by simpa [Value.ownBlock] using e
      subst this
      rw [hg] at hg2
      injection hg2 with hg2
      injection hg2 with _ ht
      exact hne ht
theorem info23 : (Try.prog.info? 23).map (fun i => (i.zero, i.size, i.bytes)) = some (some (.agg #[.int .i64 0, .int .i64 0]), 2, 16) := by kernel_rfl
theorem two_new (W : World) (p q : Int) : ∀ (j : Nat) (u : Value), [Value.int .i64 p, Value.int .i64 q][j]? = some u → (W.alloc (.cells #[.int .i64 p, .int .i64 q] 23)).cell? ((⟨W.heap.size, 0, none⟩ : Addr).add j) = some u := by
  intro j u h
  have hf := FBox.new W p q
  match j, h with
  | 0, h => simp at h; subst h; exact hf.cell0
  | 1, h => simp at h; subst h; exact hf.cell1

set_option maxHeartbeats 400000 in
theorem turns_not (A A2 : Option Addr) (n c n2 c2 : Nat) (y : Int) (w : World) (h : 20 < n ∨ n2 ≠ n) :
    Calls Try.prog 8 #[.slice A n c, .slice A2 n2 c2, .int .u8 y] w fun e w' => e = .returned (.bool true) ∧ Below w.heap.size w w' := by
  by_cases h1 : 20 < n
  · clear h
    go_enter Try.func8, Try.ntmps8
    go_wp2_with fail
    refine (awake_any _).mono ?_
    rintro e w1 ⟨rfl, hb⟩
    go_wp2_with fail
    go_ret
    exact ⟨rfl, hb⟩
  · have h0 : n2 ≠ n := by omega
    have h2 : ((n2 : Int) != (n : Int)) = true := by rw [bne_iff_ne]; omega
    have h3 : (n2 != n) = true := by rw [bne_iff_ne]; omega
    clear h h0
    go_enter Try.func8, Try.ntmps8
    go_wp2_with fail
    refine (awake_any _).mono ?_
    rintro e w1 ⟨rfl, hb⟩
    go_wp2_with fail
    go_ret
    exact ⟨rfl, hb⟩

set_option maxRecDepth 100000 in
set_option maxHeartbeats 2000000 in
theorem turns_go (b off c b2 off2 c2 : Nat) (fs : List (Int × Int)) (vs : List Int) (y : Nat) (w : World) (hy : y ≤ 255) (hcap : fs.length ≤ c) (hl : fs.length ≤ 20) (hb : b < w.heap.size) (hc : FC w b off fs) (hb2 : b2 < w.heap.size) (hc2 : IC w b2 off2 vs) (he : vs.length = fs.length) :
    Calls Try.prog 8 #[.slice (some ⟨b, off, none⟩) fs.length c, .slice (some ⟨b2, off2, none⟩) fs.length c2, .int .u8 y] w fun e w' => e = .returned (.bool true) ∧ Below w.heap.size w w' := by
  obtain ⟨i0, hi, hz0, hz1, hz2⟩ := info_parts info3
  obtain ⟨i1, gi, gz0, gz1, gz2⟩ := info_parts info23
  have He := Lib.hid he
  clear he
  go_enter Try.func8, Try.ntmps8
  go_wp2_with fail
  refine (awake_any _).mono ?_
  rintro e w1 ⟨rfl, hw1⟩
  go_wp2
  go_loopw [8, 9, 10] (fun m u i wr => ∃ k : Nat, k ≤ fs.length ∧ i = .int .i64 k ∧ wr.ownsRow w.heap.size 23 2 m k (flat ((rot (y % fs.length) fs).take k)) ∧
      wr.ownsRow w.heap.size 3 1 u k (((rot (y % fs.length) vs).take k).map (Value.int .i64)) ∧ Below w.heap.size w wr) (fun _ _ i _ => fs.length - (intOf i).toNat)
  case atStart => exact ⟨0, Nat.zero_le _, rfl, World.ownsRow_nil _ _ _ _, World.ownsRow_nil _ _ _ _, hw1⟩
  case round =>
    obtain ⟨k, hk, rfl, hm, hu, hB⟩ := hrel
    by_cases hlt : k < fs.length
    · obtain ⟨r, hr⟩ : ∃ r, r = (k + y) % fs.length := ⟨_, rfl⟩
      have hrl : r < fs.length := by rw [hr]; exact Nat.mod_lt _ (by omega)
      obtain ⟨p, q, hpq⟩ := at_some hrl
      obtain ⟨v, hv⟩ : ∃ v, vs[r]? = some v := ⟨vs[r]'(by rw [He.out]; exact hrl), by simp⟩
      obtain ⟨hd1, hd2⟩ := hc.below hb hB r p q hpq
      have hd3 := hc2.below hb2 hB r v hv
      have Hf := Lib.hid (show (rot (y % fs.length) fs)[k]? = some (p, q) by rw [rot_at hlt, ← hr, hpq])
      have Hv := Lib.hid (show (rot (y % fs.length) vs)[k]? = some v by rw [← He.out, rot_at (by rw [He.out]; exact hlt), He.out, ← hr, hv])
      have er : ((k : Int) + (y : Int)) % (fs.length : Int) = (r : Int) := by rw [hr, Int.natCast_emod, Int.natCast_add]
      clear hpq hv hr
      have hsz := hB.size
      go_wp2_with (at_builtin; refine wpList_append_own _ rfl _ _ 30 rfl w.heap.size 23 i1 (.agg #[.int .i64 0, .int .i64 0]) 2 16 Try.underlying30 gi gz0 gz1 gz2 rfl (by decide) _ _ _ rfl (hm.alloc _) ⟨wr.heap.size, 0, none⟩ 1 1 [.int .i64 p, .int .i64 q] rfl rfl ?c1 ?c2 ?c3 ?c4 ?c5 ?_)
      case c1 => exact two_new wr p q
      case c2 => simp [Value.oneCell']
      case c3 => unfold maxLen; omega
      case c4 => omega
      case c5 => simp; omega
      intro m' w3 hm3 hg3 _
      have hB3 : Below w.heap.size w w3 := (hB.alloc hsz _).grown hg3 (by simp; omega) (fun j e => (hm.lt j e).1)
      have hu3 := (hu.alloc (.cells #[.int .i64 p, .int .i64 q] 23)).kept hg3 (own_apart hu hm (by decide))
      have hd4 := (hB3.cell (p := ⟨b2, off2 + r, none⟩) hb2).trans ((hB.cell (p := ⟨b2, off2 + r, none⟩) hb2).symm.trans hd3)
      have hsz3 := hB3.size
      go_wp2_with (at_builtin; refine wpList_append_own _ rfl _ _ 31 rfl w.heap.size 3 i0 (.int .i64 0) 1 8 Try.underlying31 hi hz0 hz1 hz2 rfl (by decide) _ _ _ rfl (hu3.alloc _) ⟨w3.heap.size, 0, none⟩ 1 1 [.int .i64 v] rfl rfl ?d1 ?d2 ?d3 ?d4 ?d5 ?_)
      case d1 => exact cell_one_new _ _ _
      case d2 => simp [Value.oneCell']
      case d3 => unfold maxLen; omega
      case d4 => omega
      case d5 => simp; omega
      intro u' w4 hu4 hg4 _
      have hB4 : Below w.heap.size w w4 := (hB3.alloc hsz3 _).grown hg4 (by simp; omega) (fun j e => (hu3.lt j e).1)
      have hm4 := (hm3.alloc (.cells #[.int .i64 v] 3)).kept hg4 (own_apart hm3 hu3 (by decide))
      go_wp2
      go_roundw
      case rel => exact ⟨k + 1, by omega, by go_num, by rw [List.take_add_one, Hf.out]; show w4.ownsRow _ _ _ _ _ (flat (_ ++ [(p, q)])); rw [flat_snoc]; exact hm4, by rw [List.take_add_one, Hv.out, List.map_append, List.map_take]; exact hu4, hB4⟩
      case measure => simp [intOf]; omega
    · obtain rfl : k = fs.length := by omega
      have Hl := Lib.hid (rot_length (y % fs.length) fs)
      have Hl2 := Lib.hid ((rot_length (y % fs.length) vs).trans He.out)
      have Hok := Lib.hid (packOk_rot (y % fs.length) He.out.symm)
      have Hpi := Lib.hid (packI_rot (y % fs.length) He.out.symm)
      have Hap := Lib.hid (apart_rot (y % fs.length) fs)
      generalize rot (y % fs.length) fs = fs2 at *
      generalize rot (y % fs.length) vs = vs2 at *
      rw [List.take_of_length_le (by rw [Hl.out]; omega)] at hm
      rw [List.take_of_length_le (by rw [Hl2.out]; omega)] at hu
      obtain ⟨A3, c3, rfl⟩ := own_form hm
      obtain ⟨A4, c4, rfl⟩ := own_form hu
      obtain ⟨hS3, hn3, hc3⟩ := own_fs hm
      obtain ⟨hI4, hn4, hc4⟩ := own_is hu
      clear hm hu
      go_wp2_with fail
      refine (pack_any _ _ _ c _ c2 fs vs _ rfl He.out (by omega) (by omega) hcap (.inr ⟨b, off, rfl, Nat.lt_of_lt_of_le hb hB.size, hc.below hb hB⟩) (.inr ⟨b2, off2, rfl, Nat.lt_of_lt_of_le hb2 hB.size, hc2.below hb2 hB⟩)).mono ?_
      rintro e w5 ⟨rfl, hb5⟩
      replace hB := hB.trans (hb5.mono hB.size)
      replace hS3 := (hS3.below hb5).more hb5.size
      replace hI4 := (hI4.below hb5).more hb5.size
      clear hb5
      have Hn3 := Lib.hid hn3
      have Hn4 := Lib.hid hn4
      clear hn3 hn4
      go_wp2_with fail
      refine (pack_any A3 A4 _ c3 _ c4 fs2 vs2 _ Hn3.out Hn4.out (by omega) (by omega) hc3 hS3 hI4).mono ?_
      rw [Hok.out, Hpi.out]
      rintro e w6 ⟨rfl, hb6⟩
      replace hB := hB.trans (hb6.mono hB.size)
      replace hS3 := (hS3.below hb6).more hb6.size
      clear hb6
      go_wp2_with fail
      refine (apart_any _ _ c fs _ rfl (by omega) hcap (.inr ⟨b, off, rfl, Nat.lt_of_lt_of_le hb hB.size, hc.below hb hB⟩)).mono ?_
      rintro e w7 ⟨rfl, hb7⟩
      replace hB := hB.trans (hb7.mono hB.size)
      replace hS3 := (hS3.below hb7).more hb7.size
      clear hb7
      go_wp2_with fail
      refine (apart_any A3 _ c3 fs2 _ Hn3.out (by omega) hc3 hS3).mono ?_
      rw [Hap.out]
      rintro e w8 ⟨rfl, hb8⟩
      replace hB := hB.trans (hb8.mono hB.size)
      go_wp2_with fail
      go_ret
      exact ⟨rfl, hB⟩
set_option maxHeartbeats 1000000 in
theorem turns_nil (A A2 : Option Addr) (c c2 : Nat) (y : Int) (w : World) :
    Calls Try.prog 8 #[.slice A 0 c, .slice A2 0 c2, .int .u8 y] w fun e w' => e = .returned (.bool true) ∧ Below w.heap.size w w' := by
  go_enter Try.func8, Try.ntmps8
  go_wp2_with fail
  refine (awake_any _).mono ?_
  rintro e w1 ⟨rfl, hw1⟩
  go_wp2
  go_loopw [8, 9, 10] (fun m u i wr => m = .slice none 0 0 ∧ u = .slice none 0 0 ∧ i = .int .i64 0 ∧ Below w.heap.size w wr) (fun _ _ _ _ => 0)
  case atStart => exact ⟨rfl, rfl, rfl, hw1⟩
  case round =>
    obtain ⟨rfl, rfl, rfl, hB⟩ := hrel
    have h1 : packOk [] [] = true := by decide
    have h2 : packI [] [] = 0 := by decide
    go_wp2_with fail
    refine (pack_nil A A2 c c2 _).mono ?_
    rw [h1, h2]
    rintro e w2 ⟨rfl, hb⟩
    replace hB := hB.trans (hb.mono hB.size)
    clear hb
    go_wp2_with fail
    refine (pack_nil none none 0 0 _).mono ?_
    rw [h1, h2]
    rintro e w3 ⟨rfl, hb⟩
    replace hB := hB.trans (hb.mono hB.size)
    clear hb
    go_wp2_with fail
    refine (apart_nil A c _).mono ?_
    rintro e w4 ⟨rfl, hb⟩
    replace hB := hB.trans (hb.mono hB.size)
    clear hb
    go_wp2_with fail
    refine (apart_nil none 0 _).mono ?_
    rintro e w5 ⟨rfl, hb⟩
    replace hB := hB.trans (hb.mono hB.size)
    go_wp2_with fail
    go_ret
    exact ⟨rfl, hB⟩
theorem turns_any (A : Option Addr) (n c : Nat) (fs : List (Int × Int)) (A2 : Option Addr) (n2 c2 : Nat) (vs : List Int) (y : Int) (w : World) (hn : fs.length = n) (hcap : n ≤ c) (hS : Fds w w.heap.size A fs) (hn2 : vs.length = n2) (hI : IS w w.heap.size A2 vs) (h0 : 0 ≤ y) (h255 : y ≤ 255) :
    Calls Try.prog 8 #[.slice A n c, .slice A2 n2 c2, .int .u8 y] w fun e w' => e = .returned (.bool true) ∧ Below w.heap.size w w' := by
  by_cases h : 20 < n ∨ n2 ≠ n
  · exact turns_not A A2 n c n2 c2 y w h
  · obtain ⟨z, rfl⟩ := Int.eq_ofNat_of_zero_le h0
    obtain rfl : n2 = n := by omega
    subst hn
    rcases hS with rfl | ⟨b, off, rfl, g2, g3⟩
    · exact turns_nil A A2 c c2 z w
    · rcases hI with rfl | ⟨b2, off2, rfl, g4, g5⟩
      · obtain rfl : fs = [] := List.eq_nil_of_length_eq_zero (by simpa using hn2.symm)
        exact turns_nil _ A2 c c2 z w
      · exact turns_go b off c b2 off2 c2 fs vs z w (by omega) hcap (by omega) g2 g3 g4 g5 hn2
end Go.Proofs.Ytoffliekebpmlaa
