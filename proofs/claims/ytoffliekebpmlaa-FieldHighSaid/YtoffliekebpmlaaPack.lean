/- What the program's 'Pack' and 'Parts' answer, and the law's own 'awake': for any fields and numbers (at most 1000); nothing that was there changes. -/
import Derived.Test.YtoffliekebpmlaaApart
import Derived.Deep.QuietTactic
import Derived.BigQuiet
namespace Go.Proofs.Ytoffliekebpmlaa
open Go.RowKit
attribute [local go_sem ↓] Go.wp_at_zero Go.wp_at_succ

/-- the slice value '.slice A n c' holds the numbers xs, in blocks below n0 -/
def IC (W : World) (b off : Nat) (xs : List Int) : Prop := ∀ (k : Nat) x, xs[k]? = some x → W.cell? ⟨b, off + k, none⟩ = some (.int .i64 x)
def IS (W : World) (n0 : Nat) (A : Option Addr) (xs : List Int) : Prop :=
  xs = [] ∨ ∃ b off, A = some ⟨b, off, none⟩ ∧ b < n0 ∧ IC W b off xs
theorem IC.below {W W1 : World} {n0 b off : Nat} {xs : List Int} (h : IC W b off xs) (h2 : b < n0) (hb : Below n0 W W1) : IC W1 b off xs :=
  fun k x hk => (hb.cell (p := ⟨b, _, none⟩) h2).trans (h k x hk)
theorem IS.below {W W1 : World} {n0 : Nat} {A : Option Addr} {xs : List Int} (h : IS W n0 A xs) (hb : Below n0 W W1) : IS W1 n0 A xs := by
  rcases h with h | ⟨b, off, h1, h2, h3⟩
  · exact .inl h
  · exact .inr ⟨b, off, h1, h2, h3.below h2 hb⟩
theorem IS.more {W : World} {n0 n1 : Nat} {A : Option Addr} {xs : List Int} (h : IS W n0 A xs) (hb : n0 ≤ n1) : IS W n1 A xs := by
  rcases h with h | ⟨b, off, h1, h2, h3⟩
  · exact .inl h
  · exact .inr ⟨b, off, h1, by omega, h3⟩

theorem bdrew {N : Nat} {a w : World} (h : Below N a w) (n : Nat) : Below N a (w.drewN n) := ⟨h.os, h.tape, h.output, h.size, h.block⟩

abbrev Pt := (Int × Int) × Int
def okP (p : Pt) : Bool := decide (0 ≤ p.2) && decide (p.2 ≤ maxI p.1.2)
def foldP (ps : List Pt) : Int := ps.foldl (fun w p => putI w p.1.1 p.1.2 p.2) 0
theorem foldP_snoc (ps : List Pt) (p : Pt) : foldP (ps ++ [p]) = putI (foldP ps) p.1.1 p.1.2 p.2 := by simp [foldP]
def packOk (fs : List (Int × Int)) (vs : List Int) : Bool := decide (fs.length = vs.length) && apartB fs && (fs.zip vs).all okP
def packI (fs : List (Int × Int)) (vs : List Int) : Int := if packOk fs vs then foldP (fs.zip vs) else 0
theorem foldP_bd (ps : List Pt) : -9223372036854775808 ≤ foldP ps ∧ foldP ps ≤ 9223372036854775807 := by
  rcases List.eq_nil_or_concat ps with rfl | ⟨qs, p, rfl⟩
  · exact ⟨by simp [foldP], by simp [foldP]⟩
  · rw [List.concat_eq_append, foldP_snoc]; exact ⟨putI_lo _ _ _ _, putI_hi _ _ _ _⟩
theorem zip_take {fs : List (Int × Int)} {vs : List Int} {k : Nat} {x y v : Int} (h1 : fs[k]? = some (x, y)) (h2 : vs[k]? = some v) : (fs.zip vs).take (k + 1) = (fs.zip vs).take k ++ [((x, y), v)] := by
  have : (fs.zip vs)[k]? = some ((x, y), v) := by rw [List.getElem?_zip_eq_some]; exact ⟨h1, h2⟩
  rw [List.take_add_one, this]; rfl
theorem zip_not {fs : List (Int × Int)} {vs : List Int} {k : Nat} {x y v : Int} (h1 : fs[k]? = some (x, y)) (h2 : vs[k]? = some v) (h : okP ((x, y), v) = false) : packOk fs vs = false := by
  have : (fs.zip vs)[k]? = some ((x, y), v) := by rw [List.getElem?_zip_eq_some]; exact ⟨h1, h2⟩
  rw [packOk, Bool.and_eq_false_iff]
  right
  rw [List.all_eq_false]
  exact ⟨_, List.mem_of_getElem? this, by simp [h]⟩
theorem ret_pack {a b : Int} {p q : Bool} (h : a = b) (h2 : p = q) : Ending.returned (.tuple #[.int .i64 a, .bool p]) = .returned (.tuple #[.int .i64 b, .bool q]) := by rw [h, h2]

set_option maxHeartbeats 1000000 in
theorem pack_go (b off c b2 off2 c2 : Nat) (fs : List (Int × Int)) (vs : List Int) (w : World) (hl : fs.length ≤ 1000) (hcap : fs.length ≤ c) (hb : b < w.heap.size) (hc : FC w b off fs) (hb2 : b2 < w.heap.size) (hc2 : IC w b2 off2 vs) (he : vs.length = fs.length) (ha : apartB fs = true) :
    Calls Try.prog 20 #[.slice (some ⟨b, off, none⟩) fs.length c, .slice (some ⟨b2, off2, none⟩) fs.length c2] w fun e w' => e = .returned (.tuple #[.int .i64 (packI fs vs), .bool (packOk fs vs)]) ∧ Below w.heap.size w w' := by
  have Ha := Lib.hid ha
  have He := Lib.hid he
  clear ha he
  go_enter Try.func20, Try.ntmps20
  go_wp2_with (go_at_call 22; refine (apart_any _ _ c fs _ rfl hl hcap (.inr ⟨b, off, rfl, hb, hc⟩)).mono ?_; rintro e w1 ⟨rfl, hb1⟩; rw [Ha.out])
  go_loopw [6, 21] (fun acc i wr => ∃ k : Nat, k ≤ fs.length ∧ i = .int .i64 k ∧ acc = .int .i64 (foldP ((fs.zip vs).take k)) ∧ ((fs.zip vs).take k).all okP = true ∧ Below w.heap.size w wr)
    (fun _ i _ => fs.length - (intOf i).toNat)
  case atStart => exact ⟨0, Nat.zero_le _, rfl, rfl, rfl, hb1⟩
  case round =>
    obtain ⟨k, hk, rfl, rfl, hr, hB⟩ := hrel
    have Hr := Lib.hid hr
    clear hr
    by_cases hlt : k < fs.length
    · obtain ⟨x, y, hxy⟩ := at_some hlt
      obtain ⟨v, hv⟩ : ∃ v, vs[k]? = some v := ⟨vs[k]'(by rw [He.out]; exact hlt), by simp⟩
      obtain ⟨hd1, hd2⟩ := hc.below hb hB k x y hxy
      have hd3 := hc2.below hb2 hB k v hv
      have hR : rightB x y = true := by
        have := Ha.out
        rw [apartB, Bool.and_eq_true, rightsB, List.all_eq_true] at this
        exact this.1 _ (List.mem_of_getElem? hxy)
      rw [rightB_true] at hR
      have Hxy := Lib.hid hxy
      have Hv := Lib.hid hv
      clear hxy hv
      have hlb : b2 < wr.heap.size := Nat.lt_of_lt_of_le hb2 hB.size
      have hlb1 : b2 < wr.heap.size + 1 := by omega
      by_cases hn : v < 0
      · have hdn : decide (v < 0) = true := by simpa using hn
        have hdn0 : ¬ 0 ≤ v := by omega
        go_wp2
        go_quiet (fail)
        go_wp2
        go_ret2
        have ho := zip_not Hxy.out Hv.out (by simp [okP]; omega)
        exact ⟨ret_pack (by rw [packI, ho]; rfl) ho.symm, bdrew (hB.alloc hB.size _) _⟩
      · have hdn : decide (v < 0) = false := by simpa using hn
        by_cases hm : maxI y < v
        · have hdm : decide (maxI y < v) = true := by simpa using hm
          go_wp2
          go_region_held3 (fun w' => w'.cell? ⟨wr.heap.size, 0, none⟩ = some (.int .i64 x) ∧ w'.cell? ⟨wr.heap.size, 1, none⟩ = some (.int .i64 y) ∧ w'.cell? ⟨b2, off2 + k, none⟩ = some (.int .i64 v)) (go_keep)
            (first | (go_at_call 14; refine (max_any x y _ (by omega) (by omega)).mono ?_; rintro e w2 ⟨rfl, hb3⟩; obtain ⟨hbc, hbf⟩ := reads_on hb3; simp at hbc hbf))
          go_wp2
          go_ret2
          have ho := zip_not Hxy.out Hv.out (by simp [okP]; omega)
          exact ⟨ret_pack (by rw [packI, ho]; rfl) ho.symm, ((hB.alloc hB.size _).drew).trans (hb3.mono (by have := hB.size; simp; omega))⟩
        · have hdm : decide (maxI y < v) = false := by simpa using hm
          go_wp2
          go_region_held3 (fun w' => w'.cell? ⟨wr.heap.size, 0, none⟩ = some (.int .i64 x) ∧ w'.cell? ⟨wr.heap.size, 1, none⟩ = some (.int .i64 y) ∧ w'.cell? ⟨b2, off2 + k, none⟩ = some (.int .i64 v)) (go_keep)
            (first | (go_at_call 14; refine (max_any x y _ (by omega) (by omega)).mono ?_; rintro e w2 ⟨rfl, hb3⟩; obtain ⟨hbc, hbf⟩ := reads_on hb3; simp at hbc hbf))
          have hB2 : Below w.heap.size w w2 := ((hB.alloc hB.size _).drew).trans (hb3.mono (by have := hB.size; simp; omega))
          have hz3 := hb3.size
          simp at hz3
          go_wp2
          go_region_held3 (fun w' => w'.cell? ⟨wr.heap.size, 0, none⟩ = some (.int .i64 x) ∧ w'.cell? ⟨wr.heap.size, 1, none⟩ = some (.int .i64 y) ∧ w'.cell? ⟨b2, off2 + k, none⟩ = some (.int .i64 v)) (go_keep)
            (first | (go_at_call 18; refine (put_any (foldP ((fs.zip vs).take k)) x y v _ (by omega) (by omega) (by omega)).mono ?_; rintro e w3 ⟨rfl, hb4⟩; obtain ⟨hbc4, hbf4⟩ := reads_on hb4; (try simp at hbc4); (try simp at hbf4); have hy1 : wr.heap.size < w2.heap.size := (by omega); have hy2 : b2 < w2.heap.size := (by omega)))
          go_wp2
          have hB3 : Below w.heap.size w w3 := hB2.drew.trans (hb4.mono (by have := hB2.size; simp; omega))
          go_roundw
          case rel => exact ⟨k + 1, by omega, by go_num, by rw [zip_take Hxy.out Hv.out, foldP_snoc], by rw [zip_take Hxy.out Hv.out, List.all_append, Hr.out]; simp [okP]; omega, hB3⟩
          case measure => simp [intOf]; omega
    · obtain rfl : k = fs.length := by omega
      go_wp2
      go_ret2
      have ht : (fs.zip vs).take fs.length = fs.zip vs := List.take_of_length_le (by simp; omega)
      have ho : packOk fs vs = true := by
        have h1 := Hr.out
        rw [ht] at h1
        simp [packOk, Ha.out, He.out, h1]
      exact ⟨ret_pack (by rw [packI, ho, ht]; rfl) ho.symm, hB⟩

set_option maxHeartbeats 400000 in
theorem pack_no (A A2 : Option Addr) (n c n2 c2 : Nat) (fs : List (Int × Int)) (vs : List Int) (w : World) (hn : fs.length = n) (hn2 : vs.length = n2) (hl : n ≤ 1000) (hl2 : n2 ≤ 1000) (hcap : n ≤ c) (hS : Fds w w.heap.size A fs) (h : n ≠ n2 ∨ apartB fs = false) :
    Calls Try.prog 20 #[.slice A n c, .slice A2 n2 c2] w fun e w' => e = .returned (.tuple #[.int .i64 (packI fs vs), .bool (packOk fs vs)]) ∧ Below w.heap.size w w' := by
  have ho : packOk fs vs = false := by
    unfold packOk
    rcases h with h | h
    · rw [decide_eq_false (by omega)]; rfl
    · simp [h]
  have Ho := Lib.hid ho
  have Hn := Lib.hid hn
  have Hn2 := Lib.hid hn2
  clear ho hn hn2
  by_cases he : n = n2
  · have ha : apartB fs = false := by rcases h with h | h; · exact absurd he h
                                      · exact h
    clear h
    subst he
    have Ha := Lib.hid ha
    clear ha
    go_enter Try.func20, Try.ntmps20
    go_wp2_with (go_at_call 22; refine (apart_any _ _ c fs _ Hn.out hl hcap hS).mono ?_; rintro e w1 ⟨rfl, hb1⟩; rw [Ha.out])
    go_ret2
    exact ⟨ret_pack (by rw [packI, Ho.out]; rfl) Ho.out.symm, hb1⟩
  · clear h
    have h2 : ((n : Int) != (n2 : Int)) = true := by rw [bne_iff_ne]; omega
    have h3 : (n != n2) = true := by rw [bne_iff_ne]; omega
    clear he
    go_enter Try.func20, Try.ntmps20
    go_wp2
    go_ret2
    exact ⟨ret_pack (by rw [packI, Ho.out]; rfl) Ho.out.symm, Below.refl _ _⟩
theorem apart_nil (A : Option Addr) (c : Nat) (w : World) : Calls Try.prog 22 #[.slice A 0 c] w fun e w' => e = .returned (.bool true) ∧ Below w.heap.size w w' :=
  (apart_any A 0 c [] w rfl (by omega) (by omega) (.inl rfl)).mono fun e w' ⟨h1, h2⟩ => ⟨h1.trans (ret_bool (by decide)), h2⟩
set_option maxHeartbeats 400000 in
theorem pack_nil (A A2 : Option Addr) (c c2 : Nat) (w : World) :
    Calls Try.prog 20 #[.slice A 0 c, .slice A2 0 c2] w fun e w' => e = .returned (.tuple #[.int .i64 (packI [] []), .bool (packOk [] [])]) ∧ Below w.heap.size w w' := by
  go_enter Try.func20, Try.ntmps20
  go_wp2_with (go_at_call 22; refine (apart_nil _ c _).mono ?_; rintro e w1 ⟨rfl, hb1⟩)
  go_loopw [6, 21] (fun acc i wr => i = .int .i64 0 ∧ acc = .int .i64 0 ∧ Below w.heap.size w wr) (fun _ _ _ => 0)
  case atStart => exact ⟨rfl, rfl, hb1⟩
  case round =>
    obtain ⟨rfl, rfl, hB⟩ := hrel
    go_wp2
    go_ret2
    exact ⟨ret_pack (by decide) (by decide), hB⟩
theorem pack_any (A A2 : Option Addr) (n c n2 c2 : Nat) (fs : List (Int × Int)) (vs : List Int) (w : World) (hn : fs.length = n) (hn2 : vs.length = n2) (hl : n ≤ 1000) (hl2 : n2 ≤ 1000) (hcap : n ≤ c) (hS : Fds w w.heap.size A fs) (hI : IS w w.heap.size A2 vs) :
    Calls Try.prog 20 #[.slice A n c, .slice A2 n2 c2] w fun e w' => e = .returned (.tuple #[.int .i64 (packI fs vs), .bool (packOk fs vs)]) ∧ Below w.heap.size w w' := by
  by_cases h : n ≠ n2 ∨ apartB fs = false
  · exact pack_no A A2 n c n2 c2 fs vs w hn hn2 hl hl2 hcap hS h
  · simp only [not_or, Decidable.not_not, Bool.not_eq_false] at h
    obtain ⟨rfl, ha⟩ := h
    subst hn
    rcases hS with rfl | ⟨b, off, rfl, h2, h3⟩
    · obtain rfl : vs = [] := List.eq_nil_of_length_eq_zero (by simpa using hn2)
      exact pack_nil A A2 c c2 w
    · rcases hI with rfl | ⟨b2, off2, rfl, h4, h5⟩
      · obtain rfl : fs = [] := List.eq_nil_of_length_eq_zero (by simpa using hn2.symm)
        exact pack_nil _ A2 c c2 w
      · exact pack_go b off c b2 off2 c2 fs vs w hl hcap h2 h3 h4 h5 hn2 ha

/-- what comes back is a slice of its own that holds xs; nothing that was there has changed -/
def RetInts (w : World) (xs : List Int) (e : Ending) (w' : World) : Prop := ∃ A n c, e = .returned (.slice A n c) ∧ xs.length = n ∧ n ≤ c ∧ IS w' w'.heap.size A xs ∧ Below w.heap.size w w'
def partsI (x : Int) (fs : List (Int × Int)) : List Int := if rightsB fs then fs.map fun f => getI x f.1 f.2 else []
theorem info3 : (Try.prog.info? 3).map (fun i => (i.zero, i.size, i.bytes)) = some (some (.int .i64 0), 1, 8) := by kernel_rfl
theorem grown_of_below {a w : World} (h : Below a.heap.size a w) (row : Option Nat) : a.grownBy w row := ⟨h.os, h.tape, h.output, h.size, fun i hi _ => h.block i hi⟩
theorem own_below {a w : World} {base e size n : Nat} {v : Value} {xs : List Value} (ho : a.ownsRow base e size v n xs) (h : Below a.heap.size a w) : w.ownsRow base e size v n xs :=
  ho.kept (grown_of_below h none) (by cases v.ownBlock <;> simp)
theorem own_is {w : World} {base n c : Nat} {A : Option Addr} {xs : List Int} (h : w.ownsRow base 3 1 (.slice A n c) n (xs.map (Value.int .i64))) : IS w w.heap.size A xs ∧ xs.length = n ∧ n ≤ c := by
  have hlen : xs.length = n := by have := h.1; simpa using this
  rcases h.2 with ⟨h1, h2⟩ | ⟨g, cap, cur, h1, _, hg, h2, _⟩
  · cases h1
    exact ⟨.inl (List.eq_nil_of_length_eq_zero (by omega)), hlen, by omega⟩
  · cases h1
    refine ⟨.inr ⟨g, 0, rfl, (Array.getElem?_eq_some_iff.1 hg).1, fun k x hk => ?_⟩, hlen, h2⟩
    have := h.cells (g := g) rfl k (.int .i64 x) (by rw [List.getElem?_map, hk]; rfl)
    have ha : (⟨g, 0, none⟩ : Addr).add k = ⟨g, 0 + k, none⟩ := by unfold Addr.add; split <;> simp_all
    rw [ha] at this
    exact this
theorem own_form {w : World} {base e size n : Nat} {v : Value} {xs : List Value} (h : w.ownsRow base e size v n xs) : ∃ A c, v = .slice A n c := by
  rcases h.2 with ⟨h1, h2⟩ | ⟨g, cap, cur, h1, _⟩
  · exact ⟨none, 0, by rw [h1, h2]⟩
  · exact ⟨_, _, h1⟩
theorem parts_take {fs : List (Int × Int)} {k : Nat} {a b x : Int} (h : fs[k]? = some (a, b)) : (fs.take (k + 1)).map (fun f => Value.int .i64 (getI x f.1 f.2)) = (fs.take k).map (fun f => Value.int .i64 (getI x f.1 f.2)) ++ [.int .i64 (getI x a b)] := by
  rw [List.take_add_one, h]; simp

set_option maxRecDepth 100000 in
set_option maxHeartbeats 1000000 in
theorem parts_go (x : Int) (b off c : Nat) (fs : List (Int × Int)) (w : World) (hx1 : -9223372036854775808 ≤ x) (hx2 : x ≤ 9223372036854775807) (hl : fs.length ≤ 1000) (hb : b < w.heap.size) (hc : FC w b off fs) (hr : rightsB fs = true) :
    Calls Try.prog 25 #[.int .i64 x, .slice (some ⟨b, off, none⟩) fs.length c] w (RetInts w (partsI x fs)) := by
  obtain ⟨i0, hi, hz0, hz1, hz2⟩ := info_parts info3
  have Hr := Lib.hid hr
  clear hr
  go_enter Try.func25, Try.ntmps25
  go_wp2_with (first
    | (go_at_call 29; refine (allRight_any _ _ c fs _ rfl hl (.inr ⟨b, off, rfl, hb, hc⟩)).mono ?_; rintro e w1 ⟨rfl, hb1⟩; rw [Hr.out])
    | (at_make; refine wpList_make_own _ rfl _ _ 31 rfl w.heap.size 3 i0 (.int .i64 0) 1 Try.underlying31 hi hz0 hz1 _ _ _ fs.length rfl rfl (by omega) ?b2 ?b3 hb1.size ?_))
  case b2 => rw [hz2]; omega
  case b3 => unfold maxLen; omega
  intro w0 hown0 hgrow0
  have hB0 : Below w.heap.size w w0 := hb1.grown hgrow0 hb1.size (fun k h => by cases h)
  go_wp2
  go_loopw [5, 16] (fun out i wr => ∃ k : Nat, k ≤ fs.length ∧ i = .int .i64 k ∧ wr.ownsRow w.heap.size 3 1 out k ((fs.take k).map (fun f => Value.int .i64 (getI x f.1 f.2))) ∧ Below w.heap.size w wr)
    (fun _ i _ => fs.length - (intOf i).toNat)
  case atStart => exact ⟨0, Nat.zero_le _, rfl, hown0, hB0⟩
  case round =>
    obtain ⟨k, hk, rfl, hown, hB⟩ := hrel
    by_cases hlt : k < fs.length
    · obtain ⟨p, q, hpq⟩ := at_some hlt
      obtain ⟨hc1, hc2⟩ := hc.below hb hB k p q hpq
      have hR : rightB p q = true := by
        have := Hr.out
        rw [rightsB, List.all_eq_true] at this
        exact this _ (List.mem_of_getElem? hpq)
      rw [rightB_true] at hR
      have Hpq := Lib.hid hpq
      clear hpq
      have hsz := hB.size
      go_wp2_with (first
        | (go_at_call 16; refine (get_any x p q _ (by omega) (by omega) (by omega) hx1 hx2).mono ?_; rintro e w2 ⟨rfl, hb2⟩; have hown2 := own_below (hown.alloc _) hb2; have hz2' := hb2.size; simp at hz2')
        | (at_builtin; refine wpList_append_own _ rfl _ _ 31 rfl w.heap.size 3 i0 (.int .i64 0) 1 8 Try.underlying31 hi hz0 hz1 hz2 rfl (by decide) _ _ _ rfl (hown2.alloc _) ⟨w2.heap.size, 0, none⟩ 1 1 [.int .i64 (getI x p q)] rfl rfl ?c1 ?c2 ?c3 ?c4 ?c5 ?_))
      case c1 => exact cell_one_new _ _ _
      case c2 => simp [Value.oneCell']
      case c3 => unfold maxLen; omega
      case c4 => omega
      case c5 => simp; omega
      intro v' w3 hown3 hgrow3 _
      have hB2 : Below w.heap.size w (w2.alloc (.cells #[.int .i64 (getI x p q)] 3)) := ((hB.alloc hsz _).trans (hb2.mono (by simp; omega))).alloc (by omega) _
      have hB3 : Below w.heap.size w w3 := hB2.grown hgrow3 (by simp; omega) (fun j e => (hown.lt j e).1)
      go_wp2
      go_roundw
      case rel => exact ⟨k + 1, by omega, by go_num, by rw [parts_take Hpq.out, List.map_take]; exact hown3, hB3⟩
      case measure => simp [intOf]; omega
    · obtain rfl : k = fs.length := by omega
      obtain ⟨A2, c2, rfl⟩ := own_form hown
      go_wp2
      go_ret
      rw [List.take_length] at hown
      have h := own_is (xs := fs.map fun f => getI x f.1 f.2) (by rw [List.map_map]; exact hown)
      exact ⟨A2, _, c2, rfl, by rw [partsI, Hr.out]; exact h.2.1, h.2.2, by rw [partsI, Hr.out]; exact h.1, hB⟩
theorem parts_zero (x : Int) (A : Option Addr) (c : Nat) (w : World) :
    Calls Try.prog 25 #[.int .i64 x, .slice A 0 c] w (RetInts w (partsI x [])) := by
  obtain ⟨i0, hi, hz0, hz1, hz2⟩ := info_parts info3
  go_enter Try.func25, Try.ntmps25
  go_wp2_with (first
    | (go_at_call 29; refine (allRight_nil A c _).mono ?_; rintro e w1 ⟨rfl, hb1⟩; rw [show rightsB [] = true from rfl])
    | (at_make; refine wpList_make_own _ rfl _ _ 31 rfl w.heap.size 3 i0 (.int .i64 0) 1 Try.underlying31 hi hz0 hz1 _ _ _ 0 rfl rfl (by omega) ?b2 ?b3 hb1.size ?_))
  case b2 => omega
  case b3 => unfold maxLen; omega
  intro w0 hown0 hgrow0
  have hB0 : Below w.heap.size w w0 := hb1.grown hgrow0 hb1.size (fun k h => by cases h)
  obtain ⟨g, hg⟩ : ∃ g, g = w1.heap.size := ⟨_, rfl⟩
  rw [← hg] at hown0 ⊢
  have Hg := Lib.hid hg
  clear hg
  go_wp2
  go_loopw [5, 16] (fun out i wr => out = .slice (some ⟨g, 0, none⟩) 0 0 ∧ i = .int .i64 0 ∧ Below w.heap.size w wr)
    (fun _ _ _ => 0)
  case atStart => exact ⟨rfl, rfl, hB0⟩
  case round =>
    obtain ⟨rfl, rfl, hB⟩ := hrel
    go_wp2
    go_ret
    exact ⟨_, _, _, rfl, rfl, Nat.le_refl _, .inl rfl, hB⟩
theorem parts_no (x : Int) (A : Option Addr) (n c : Nat) (fs : List (Int × Int)) (w : World) (hn : fs.length = n) (hl : n ≤ 1000) (hS : Fds w w.heap.size A fs) (hr : rightsB fs = false) :
    Calls Try.prog 25 #[.int .i64 x, .slice A n c] w (RetInts w (partsI x fs)) := by
  have Hr := Lib.hid hr
  have Hn := Lib.hid hn
  clear hr hn
  go_enter Try.func25, Try.ntmps25
  go_wp2_with (go_at_call 29; refine (allRight_any A n c fs _ Hn.out hl hS).mono ?_; rintro e w1 ⟨rfl, hb1⟩; rw [Hr.out])
  go_ret
  refine ⟨none, 0, 0, rfl, ?_, Nat.le_refl _, ?_, hb1⟩
  · rw [partsI, Hr.out]; rfl
  · rw [partsI, Hr.out]; exact .inl rfl
theorem parts_any (x : Int) (A : Option Addr) (n c : Nat) (fs : List (Int × Int)) (w : World) (hx1 : -9223372036854775808 ≤ x) (hx2 : x ≤ 9223372036854775807) (hn : fs.length = n) (hl : n ≤ 1000) (hS : Fds w w.heap.size A fs) :
    Calls Try.prog 25 #[.int .i64 x, .slice A n c] w (RetInts w (partsI x fs)) := by
  cases hr : rightsB fs with
  | false => exact parts_no x A n c fs w hn hl hS hr
  | true =>
    subst hn
    rcases hS with rfl | ⟨b, off, rfl, h2, h3⟩
    · exact parts_zero x A c w
    · exact parts_go x b off c fs w hx1 hx2 hl h2 h3 hr

/-! ### are two lists of numbers one -/
def intsB (xs ys : List Int) : Bool := decide (xs = ys)
set_option maxHeartbeats 1000000 in
theorem ints_go (b off c b2 off2 c2 : Nat) (xs ys : List Int) (w : World) (hl : xs.length ≤ 1000) (he : ys.length = xs.length) (hb : b < w.heap.size) (hb2 : b2 < w.heap.size) (h1 : IC w b off xs) (h2 : IC w b2 off2 ys) :
    Calls Try.prog 24 #[.slice (some ⟨b, off, none⟩) xs.length c, .slice (some ⟨b2, off2, none⟩) xs.length c2] w fun e w' => e = .returned (.bool (intsB xs ys)) ∧ Below w.heap.size w w' := by
  have He := Lib.hid he
  clear he
  go_enter Try.func24, Try.ntmps24
  go_wp2
  go_loopw [5] (fun i wr => ∃ k : Nat, k ≤ xs.length ∧ i = .int .i64 k ∧ xs.take k = ys.take k ∧ Below w.heap.size w wr) (fun i _ => xs.length - (intOf i).toNat)
  case atStart => exact ⟨0, Nat.zero_le _, rfl, rfl, Below.refl _ _⟩
  case round =>
    obtain ⟨k, hk, rfl, hr, hB⟩ := hrel
    have Hr := Lib.hid hr
    clear hr
    by_cases hlt : k < xs.length
    · obtain ⟨u, hu⟩ : ∃ u, xs[k]? = some u := ⟨xs[k], by simp⟩
      obtain ⟨v, hv⟩ : ∃ v, ys[k]? = some v := ⟨ys[k]'(by rw [He.out]; exact hlt), by simp⟩
      have hd1 := h1.below hb hB k u hu
      have hd2 := h2.below hb2 hB k v hv
      have Hu := Lib.hid hu
      have Hv := Lib.hid hv
      clear hu hv
      by_cases huv : u = v
      · have hne : (u != v) = false := by simp [huv]
        have Huv := Lib.hid huv
        clear huv
        go_wp2
        go_quiet (fail)
        go_wp2
        go_roundw
        case rel => exact ⟨k + 1, by omega, by go_num, by rw [List.take_add_one, List.take_add_one, Hu.out, Hv.out, Hr.out, Huv.out], bdrew hB _⟩
        case measure => simp [intOf]; omega
      · have hne : (u != v) = true := by simp [huv]
        have ho : intsB xs ys = false := by
          rw [intsB, decide_eq_false_iff_not]
          intro e
          have := Hu.out
          rw [e, Hv.out] at this
          exact huv (by injection this with this; exact this.symm)
        have Ho := Lib.hid ho
        clear huv ho
        go_wp2
        go_quiet (fail)
        go_wp2
        go_ret
        exact ⟨ret_bool Ho.out.symm, bdrew hB _⟩
    · obtain rfl : k = xs.length := by omega
      go_wp2
      go_ret
      have h3 := Hr.out
      rw [List.take_length, ← He.out, List.take_length] at h3
      exact ⟨ret_bool (by simp [intsB, h3]), hB⟩
set_option maxHeartbeats 400000 in
theorem ints_nil (A A2 : Option Addr) (c c2 : Nat) (w : World) :
    Calls Try.prog 24 #[.slice A 0 c, .slice A2 0 c2] w fun e w' => e = .returned (.bool (intsB [] [])) ∧ Below w.heap.size w w' := by
  go_enter Try.func24, Try.ntmps24
  go_wp2
  go_loopw [5] (fun i wr => i = .int .i64 0 ∧ Below w.heap.size w wr) (fun _ _ => 0)
  case atStart => exact ⟨rfl, Below.refl _ _⟩
  case round =>
    obtain ⟨rfl, hB⟩ := hrel
    go_wp2
    go_ret
    exact ⟨rfl, hB⟩
set_option maxHeartbeats 400000 in
theorem ints_len (A A2 : Option Addr) (n c n2 c2 : Nat) (xs ys : List Int) (w : World) (h1 : xs.length = n) (h2 : ys.length = n2) (h : n ≠ n2) :
    Calls Try.prog 24 #[.slice A n c, .slice A2 n2 c2] w fun e w' => e = .returned (.bool (intsB xs ys)) ∧ Below w.heap.size w w' := by
  have ho : intsB xs ys = false := by
    rw [intsB, decide_eq_false_iff_not]
    intro e
    apply h
    rw [← h1, ← h2, e]
  have Ho := Lib.hid ho
  clear ho h1 h2
  have h2 : ((n : Int) != (n2 : Int)) = true := by rw [bne_iff_ne]; omega
  have h3 : (n != n2) = true := by rw [bne_iff_ne]; omega
  clear h
  go_enter Try.func24, Try.ntmps24
  go_wp2
  go_ret
  exact ⟨ret_bool Ho.out.symm, Below.refl _ _⟩
theorem ints_any (A A2 : Option Addr) (n c n2 c2 : Nat) (xs ys : List Int) (w : World) (h1 : xs.length = n) (h2 : ys.length = n2) (hl : n ≤ 1000) (hx : IS w w.heap.size A xs) (hy : IS w w.heap.size A2 ys) :
    Calls Try.prog 24 #[.slice A n c, .slice A2 n2 c2] w fun e w' => e = .returned (.bool (intsB xs ys)) ∧ Below w.heap.size w w' := by
  by_cases h : n = n2
  · subst h
    subst h1
    rcases hx with rfl | ⟨b, off, rfl, h3, h4⟩
    · obtain rfl : ys = [] := List.eq_nil_of_length_eq_zero h2
      exact ints_nil A A2 c c2 w
    · rcases hy with rfl | ⟨b2, off2, rfl, h5, h6⟩
      · obtain rfl : xs = [] := List.eq_nil_of_length_eq_zero h2.symm
        exact ints_nil _ A2 c c2 w
      · exact ints_go b off c b2 off2 c2 xs ys w hl h2 h3 h5 h4 h6
  · exact ints_len A A2 n c n2 c2 xs ys w h1 h2 h
end Go.Proofs.Ytoffliekebpmlaa
