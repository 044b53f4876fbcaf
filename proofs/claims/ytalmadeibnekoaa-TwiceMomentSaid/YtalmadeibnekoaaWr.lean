/- What others do ahead of a step; nothing else changes. -/
import Derived.Test.YtalmadeibnekoaaSmall
import Derived.Deep.RegionHeld3
import Derived.BigQuiet
import Derived.Deep.QuietTactic
namespace Go.Proofs.Ytalmadeibnekoaa
open Go.RowKit
attribute [local go_sem ↓] Go.wp_at_zero Go.wp_at_succ

theorem sp_set {W : World} {f j : Nat} {v : Value} : SpX [f] W (W.setCell ⟨f, j, none⟩ v) := (SpX.refl _ _).set (by simp) j v
/-- what another one does: ahead of which step, where, which word -/
structure Wr where
  wh : Int
  ad : Int
  v : Int
structure Wr.Ok (x : Wr) : Prop where
  wh : 0 ≤ x.wh ∧ x.wh ≤ 255
  ad : 0 ≤ x.ad ∧ x.ad ≤ 255
  v : -9223372036854775808 ≤ x.v ∧ x.v ≤ 9223372036854775807
def WS (w : World) (M : Nat) (A : Option Addr) (l : List Wr) : Prop := ∀ (k : Nat) x, l[k]? = some x → ∃ b off, A = some ⟨b, off, none⟩ ∧ b < M ∧ w.cell? ⟨b, off + k * 3, none⟩ = some (.int .u8 x.wh) ∧ w.cell? ⟨b, off + k * 3 + 1, none⟩ = some (.int .u8 x.ad) ∧ w.cell? ⟨b, off + k * 3 + 2, none⟩ = some (.int .i64 x.v)
theorem WS.spx {X : List Nat} {a b : World} {N : Nat} {A : Option Addr} {xs : List Wr} (h : WS a N A xs) (hN : N ≤ a.heap.size) (hs : SpX X a b) (hx : ∀ k, k ∈ X → N ≤ k) : WS b N A xs := by
  intro k x hk
  obtain ⟨g, off, e, hg, hc⟩ := h k x hk
  have hc' : ∀ j, b.cell? ⟨g, j, none⟩ = a.cell? ⟨g, j, none⟩ := fun j => hs.cell j (by omega) (fun hm => by have := hx g hm; omega)
  simp only [← hc'] at hc
  exact ⟨g, off, e, hg, hc⟩
/-- how many there are, and what is then, behind one -/
def wr1 (s : St) (x : Wr) (i : Int) : St := if x.wh = i then ⟨s.ws.set (x.ad % (s.ws.length : Int)).toNat x.v, s.t + 1⟩ else s
def wrS (s : St) (l : List Wr) (i : Int) : St := l.foldl (fun a x => wr1 a x i) s
theorem wr1_hit {s : St} {x : Wr} {i : Int} (h : x.wh = i) : wr1 s x i = ⟨s.ws.set (x.ad % (s.ws.length : Int)).toNat x.v, s.t + 1⟩ := if_pos h
theorem wr1_miss {s : St} {x : Wr} {i : Int} (h : ¬ x.wh = i) : wr1 s x i = s := if_neg h
theorem wr1_len (s : St) (x : Wr) (i : Int) : (wr1 s x i).ws.length = s.ws.length ∧ s.t ≤ (wr1 s x i).t ∧ (wr1 s x i).t ≤ s.t + 1 := by
  unfold wr1
  split
  · simp
  · omega
theorem wrS_take {s : St} {l : List Wr} {i : Int} {k : Nat} {x : Wr} (h : l[k]? = some x) : wrS s (l.take (k + 1)) i = wr1 (wrS s (l.take k) i) x i := by
  unfold wrS
  rw [List.take_add_one, h]
  simp
theorem wrS_len (s : St) (l : List Wr) (i : Int) : (wrS s l i).ws.length = s.ws.length ∧ s.t ≤ (wrS s l i).t ∧ (wrS s l i).t ≤ s.t + l.length := by
  unfold wrS
  induction l generalizing s with
  | nil => simp
  | cons x l ih =>
    obtain ⟨h1, h2, h3⟩ := ih (wr1 s x i)
    obtain ⟨k1, k2, k3⟩ := wr1_len s x i
    simp only [List.foldl_cons, List.length_cons]
    omega
def In64 (x : Int) : Prop := -9223372036854775808 ≤ x ∧ x ≤ 9223372036854775807
theorem wrS_in {s : St} {l : List Wr} {i : Int} (h : ∀ (k : Nat) x, s.ws[k]? = some x → In64 x) (hl : ∀ x ∈ l, Wr.Ok x) : ∀ (k : Nat) x, (wrS s l i).ws[k]? = some x → In64 x := by
  unfold wrS
  induction l generalizing s with
  | nil => exact h
  | cons x l ih =>
    simp only [List.foldl_cons]
    refine ih (fun k y hk => ?_) (fun z hz => hl z (List.mem_cons_of_mem _ hz))
    unfold wr1 at hk
    split at hk
    · rw [List.getElem?_set] at hk
      split at hk
      · split at hk
        · injection hk with hk
          subst hk
          exact (hl x (List.mem_cons_self)).v
        · simp at hk
      · exact h k y hk
    · exact h k y hk
theorem wr_some {l : List Wr} {k : Nat} (h : k < l.length) : ∃ x, l[k]? = some x := ⟨l[k], by simp⟩
set_option maxRecDepth 100000 in
set_option maxHeartbeats 2000000 in
theorem writes_any (g gw c : Nat) (A : Option Addr) (n c1 M : Nat) (l : List Wr) (i : Int) (s0 : St) (w : World) (hM : MemAt w g gw c s0) (hW : WS w M A l) (hn : l.length = n) (hO : ∀ x ∈ l, Wr.Ok x) (hMw : M ≤ w.heap.size) (hg : M ≤ g) (hgw : M ≤ gw) (hl : 0 < s0.ws.length) (hl2 : s0.ws.length ≤ 1000) (ht : s0.t + n < 1000000) (hi : 0 ≤ i ∧ i ≤ 1000) :
    Calls Try.prog 13 #[.pointer (some ⟨g, 0, none⟩), .slice A n c1, .int .i64 i] w fun e w' => e = .returned (.tuple #[]) ∧ MemAt w' g gw c (wrS s0 l i) ∧ SpX [g, gw] w w' := by
  have Hn := Lib.hid hn
  have HO := Lib.hid hO
  have HWS := Lib.hid hW
  have HM0 := Lib.hid hM
  obtain ⟨N, hN⟩ : ∃ N, N = s0.ws.length := ⟨_, rfl⟩
  have HN := Lib.hid hN
  rw [← hN] at hl hl2
  have hsx : ∀ {a b : World}, SpX [g, gw] a b → M ≤ a.heap.size → ∀ xs, WS a M A xs → WS b M A xs := fun hs hm xs h => h.spx hm hs (by simp <;> omega)
  clear hM hW hO hn hN
  go_enter Try.func13, Try.ntmps13
  go_wp2_with fail
  go_loopw [6] (fun j wr => ∃ (k : Nat), k ≤ n ∧ j = .int .i64 k ∧ MemAt wr g gw c (wrS s0 (l.take k) i) ∧ SpX [g, gw] w wr) (fun j _ => n - (intOf j).toNat)
  case atStart => exact ⟨0, Nat.zero_le _, rfl, HM0.out, SpX.refl _ _⟩
  case round =>
    obtain ⟨k, hk, rfl, hM2, hS⟩ := hrel
    by_cases hlt : k < n
    · obtain ⟨x, hx⟩ := wr_some (l := l) (k := k) (by rw [Hn.out]; exact hlt)
      have HT := Lib.hid (wrS_take (s := s0) (i := i) hx)
      obtain ⟨q1, q2, q3⟩ := wrS_len s0 (l.take k) i
      rw [← HN.out] at q1
      rw [List.length_take, Hn.out, Nat.min_eq_left hk] at q3
      obtain ⟨hw1, ha1, hv1⟩ := HO.out x (List.mem_of_getElem? hx)
      obtain ⟨b, off, eA, hb, d0, d1, d2⟩ := (hsx hS hMw l HWS.out) k x hx
      have hbl : b < wr.heap.size := by have := hS.size; omega
      subst eA
      clear hx
      obtain ⟨s, es⟩ : ∃ s, s = wrS s0 (l.take k) i := ⟨_, rfl⟩
      rw [← es] at hM2 HT q1 q2 q3
      clear es
      have Hlen := Lib.hid q1
      have HM3 := Lib.hid hM2
      clear hM2 q1
      by_cases hh : x.wh = i
      · have HH := Lib.hid (wr1_hit (s := s) hh)
        obtain ⟨N2, eN2⟩ : ∃ N2 : Nat, x.ad % (N : Int) = N2 := ⟨(x.ad % (N : Int)).toNat, by have := Int.emod_nonneg x.ad (b := (N : Int)) (by omega); omega⟩
        have hN2 : N2 < N := by have := Int.emod_lt_of_pos x.ad (b := (N : Int)) (by omega); omega
        have hN0 : ¬ N = 0 := by omega
        have hwr : IntKind.i64.wrap x.ad = x.ad := IntWalk.i64_in _ (by omega)
        have htm : x.ad.tmod (N : Int) = (N2 : Int) := by rw [Int.tmod_eq_emod_of_nonneg (by omega)]; exact eN2
        rw [Hlen.out, eN2, Int.toNat_natCast] at HH
        clear eN2
        subst hh
        go_wp2_with fail
        have HM0 := Lib.hid HM3.out.drew
        have hS0 := hS.drew
        have x0_0 : wr.drew.cell? ⟨b, off + k * 3 + 1, none⟩ = some (.int .u8 x.ad) := d1
        have x0_1 : wr.drew.cell? ⟨b, off + k * 3 + 2, none⟩ = some (.int .i64 x.v) := d2
        have hbl : b < wr.drew.heap.size := hbl
        clear d0 d1 d2
        refine wp_region_held_drew (S := (fun w' => w'.cell? ⟨b, off + k * 3 + 1, none⟩ = some (.int .u8 x.ad) ∧ w'.cell? ⟨b, off + k * 3 + 2, none⟩ = some (.int .i64 x.v))) (by kernel_rfl) ⟨x0_0, x0_1⟩ (fun hS => ?_)
        generalize wr.drew = u0 at *
        refine wpAnyH_take (i := 0) (oi := { dst := some 21, op := Op.move (Operand.tmp 0), type := 35, pos := "law.go:47", after := #[], guard := none }) (v := ?v0_1) rfl (by kernel_rfl) (by kernel_rfl) (by kernel_rfl) (fun _ _ _ h => h) (Or.inl ⟨by rfl, ?hy0_1⟩) hS ?rest0_1
        case hy0_1 =>
          intro w hSw
          (try dsimp only at hSw)
          go_simp
          try with_reducible rfl
        try simp only [Act.put, List.setIfInBounds_toArray, List.set_cons_zero, List.set_cons_succ]
        refine wpAnyH_take (i := 1) (oi := { dst := some 22, op := Op.move (Operand.tmp 1), type := 28, pos := "law.go:47", after := #[], guard := none }) (v := ?v1_2) rfl (by kernel_rfl) (by kernel_rfl) (by kernel_rfl) (fun _ _ _ h => h) (Or.inl ⟨by rfl, ?hy1_2⟩) hS ?rest1_2
        case hy1_2 =>
          intro w hSw
          (try dsimp only at hSw)
          go_simp
          try with_reducible rfl
        try simp only [Act.put, List.setIfInBounds_toArray, List.set_cons_zero, List.set_cons_succ]
        refine wpAnyH_take (i := 2) (oi := { dst := some 23, op := Op.move (Operand.tmp 6), type := 3, pos := "law.go:47", after := #[], guard := none }) (v := ?v2_3) rfl (by kernel_rfl) (by kernel_rfl) (by kernel_rfl) (fun _ _ _ h => h) (Or.inl ⟨by rfl, ?hy2_3⟩) hS ?rest2_3
        case hy2_3 =>
          intro w hSw
          (try dsimp only at hSw)
          go_simp
          try with_reducible rfl
        try simp only [Act.put, List.setIfInBounds_toArray, List.set_cons_zero, List.set_cons_succ]
        refine wpAnyH_take (i := 3) (oi := { dst := some 24, op := Op.indexAddr 28 (Operand.tmp 22) (Operand.tmp 23), type := 0, pos := "law.go:47", after := #[{ on := 1, ground := Ground.data }, { on := 2, ground := Ground.data }], guard := none }) (v := ?v3_4) rfl (by kernel_rfl) (by kernel_rfl) (by kernel_rfl) (fun _ _ _ h => h) (Or.inl ⟨by rfl, ?hy3_4⟩) hS ?rest3_4
        case hy3_4 =>
          intro w hSw
          (try dsimp only at hSw)
          go_simp
          try with_reducible rfl
        try simp only [Act.put, List.setIfInBounds_toArray, List.set_cons_zero, List.set_cons_succ]
        refine wpAnyH_take (i := 4) (oi := { dst := some 25, op := Op.fieldAddr 55 (Operand.tmp 24) 1, type := 0, pos := "law.go:47", after := #[{ on := 3, ground := Ground.data }], guard := none }) (v := ?v4_5) rfl (by kernel_rfl) (by kernel_rfl) (by kernel_rfl) (fun _ _ _ h => h) (Or.inl ⟨by rfl, ?hy4_5⟩) hS ?rest4_5
        case hy4_5 =>
          intro w hSw
          (try dsimp only at hSw)
          go_simp
          try with_reducible rfl
        try simp only [Act.put, List.setIfInBounds_toArray, List.set_cons_zero, List.set_cons_succ]
        refine wpAnyH_take (i := 5) (oi := { dst := some 26, op := Op.load 5 (Operand.tmp 25), type := 5, pos := "law.go:47", after := #[{ on := 4, ground := Ground.data }], guard := none }) (v := ?v5_6) rfl (by kernel_rfl) (by kernel_rfl) (by kernel_rfl) (fun _ _ _ h => h) (Or.inl ⟨by rfl, ?hy5_6⟩) hS ?rest5_6
        case hy5_6 =>
          intro w hSw
          (try dsimp only at hSw)
          go_simp
          try with_reducible rfl
        try simp only [Act.put, List.setIfInBounds_toArray, List.set_cons_zero, List.set_cons_succ]
        refine wpAnyH_take (i := 6) (oi := { dst := some 27, op := Op.convert 5 3 (Operand.tmp 26), type := 3, pos := "law.go:47", after := #[{ on := 5, ground := Ground.data }], guard := none }) (v := ?v6_7) rfl (by kernel_rfl) (by kernel_rfl) (by kernel_rfl) (fun _ _ _ h => h) (Or.inl ⟨by rfl, ?hy6_7⟩) hS ?rest6_7
        case hy6_7 =>
          intro w hSw
          (try dsimp only at hSw)
          go_simp
          try with_reducible rfl
        try simp only [Act.put, List.setIfInBounds_toArray, List.set_cons_zero, List.set_cons_succ]
        refine wpAnyH_take (i := 7) (oi := { dst := some 28, op := Op.move (Operand.tmp 0), type := 35, pos := "law.go:47", after := #[], guard := none }) (v := ?v7_8) rfl (by kernel_rfl) (by kernel_rfl) (by kernel_rfl) (fun _ _ _ h => h) (Or.inl ⟨by rfl, ?hy7_8⟩) hS ?rest7_8
        case hy7_8 =>
          intro w hSw
          (try dsimp only at hSw)
          go_simp
          try with_reducible rfl
        try simp only [Act.put, List.setIfInBounds_toArray, List.set_cons_zero, List.set_cons_succ]
        refine wpAnyH_take (i := 10) (oi := { dst := some 31, op := Op.move (Operand.tmp 1), type := 28, pos := "law.go:47", after := #[], guard := none }) (v := ?v10_9) rfl (by kernel_rfl) (by kernel_rfl) (by kernel_rfl) (fun _ _ _ h => h) (Or.inl ⟨by rfl, ?hy10_9⟩) hS ?rest10_9
        case hy10_9 =>
          intro w hSw
          (try dsimp only at hSw)
          go_simp
          try with_reducible rfl
        try simp only [Act.put, List.setIfInBounds_toArray, List.set_cons_zero, List.set_cons_succ]
        refine wpAnyH_take (i := 11) (oi := { dst := some 32, op := Op.move (Operand.tmp 6), type := 3, pos := "law.go:47", after := #[], guard := none }) (v := ?v11_10) rfl (by kernel_rfl) (by kernel_rfl) (by kernel_rfl) (fun _ _ _ h => h) (Or.inl ⟨by rfl, ?hy11_10⟩) hS ?rest11_10
        case hy11_10 =>
          intro w hSw
          (try dsimp only at hSw)
          go_simp
          try with_reducible rfl
        try simp only [Act.put, List.setIfInBounds_toArray, List.set_cons_zero, List.set_cons_succ]
        refine wpAnyH_take (i := 12) (oi := { dst := some 33, op := Op.indexAddr 28 (Operand.tmp 31) (Operand.tmp 32), type := 0, pos := "law.go:47", after := #[{ on := 10, ground := Ground.data }, { on := 11, ground := Ground.data }], guard := none }) (v := ?v12_11) rfl (by kernel_rfl) (by kernel_rfl) (by kernel_rfl) (fun _ _ _ h => h) (Or.inl ⟨by rfl, ?hy12_11⟩) hS ?rest12_11
        case hy12_11 =>
          intro w hSw
          (try dsimp only at hSw)
          go_simp
          try with_reducible rfl
        try simp only [Act.put, List.setIfInBounds_toArray, List.set_cons_zero, List.set_cons_succ]
        refine wpAnyH_take (i := 13) (oi := { dst := some 34, op := Op.fieldAddr 55 (Operand.tmp 33) 2, type := 0, pos := "law.go:47", after := #[{ on := 12, ground := Ground.data }], guard := none }) (v := ?v13_12) rfl (by kernel_rfl) (by kernel_rfl) (by kernel_rfl) (fun _ _ _ h => h) (Or.inl ⟨by rfl, ?hy13_12⟩) hS ?rest13_12
        case hy13_12 =>
          intro w hSw
          (try dsimp only at hSw)
          go_simp
          try with_reducible rfl
        try simp only [Act.put, List.setIfInBounds_toArray, List.set_cons_zero, List.set_cons_succ]
        refine wpAnyH_take (i := 14) (oi := { dst := some 35, op := Op.load 3 (Operand.tmp 34), type := 3, pos := "law.go:47", after := #[{ on := 13, ground := Ground.data }], guard := none }) (v := ?v14_13) rfl (by kernel_rfl) (by kernel_rfl) (by kernel_rfl) (fun _ _ _ h => h) (Or.inl ⟨by rfl, ?hy14_13⟩) hS ?rest14_13
        case hy14_13 =>
          intro w hSw
          (try dsimp only at hSw)
          go_simp
          try with_reducible rfl
        try simp only [Act.put, List.setIfInBounds_toArray, List.set_cons_zero, List.set_cons_succ]
        refine wpAnyH_ready (rs := [8]) (by kernel_rfl) (by simp) ?_
        refine AllReadyH.cons (o := { dst := some 29, op := Op.call { callee := Callee.value (Operand.func 30), args := #[Operand.tmp 28], argTypes := #[35] }, type := 3, pos := "law.go:47", after := #[{ on := 7, ground := Ground.data }], guard := none }) rfl (fun K hK => ?_) AllReadyH.nil
        go_simp
        refine (manyS_any g gw c _ _ HM0.out).mono ?_
        rintro e u1 ⟨rfl, rfl⟩
        rw [Hlen.out]
        refine hK.out _ _ ⟨x0_0, x0_1⟩ (fun hS => ?_)
        clear hK K
        try simp only [Act.put, List.setIfInBounds_toArray, List.set_cons_zero, List.set_cons_succ]
        refine wpAnyH_take (i := 9) (oi := { dst := some 30, op := Op.binOp BinOp.rem 3 (Operand.tmp 27) (Operand.tmp 29) 3, type := 3, pos := "law.go:47", after := #[{ on := 6, ground := Ground.data }, { on := 8, ground := Ground.data }], guard := none }) (v := ?v9_14) rfl (by kernel_rfl) (by kernel_rfl) (by kernel_rfl) (fun _ _ _ h => h) (Or.inl ⟨by rfl, ?hy9_14⟩) hS ?rest9_14
        case hy9_14 =>
          intro w hSw
          (try dsimp only at hSw)
          go_simp
          try with_reducible rfl
        try simp only [Act.put, List.setIfInBounds_toArray, List.set_cons_zero, List.set_cons_succ]
        refine wpAnyH_ready (rs := [15]) (by kernel_rfl) (by simp) ?_
        refine AllReadyH.cons (o := { dst := some 36, op := Op.call { callee := Callee.value (Operand.func 23), args := #[Operand.tmp 21, Operand.tmp 30, Operand.tmp 35], argTypes := #[35, 3, 3] }, type := 4, pos := "law.go:47", after := #[{ on := 0, ground := Ground.data }, { on := 9, ground := Ground.data }, { on := 14, ground := Ground.data }, { on := 8, ground := Ground.chain }], guard := none }) rfl (fun K hK => ?_) AllReadyH.nil
        go_simp
        refine (store_in g gw c s N2 x.v _ HM0.out (by rw [Hlen.out]; exact hN2) (by omega)).mono ?_
        rintro e u2 ⟨rfl, hm, hs⟩
        have HM2 := Lib.hid hm
        have hS2 := hS0.trans hs
        have hB2 := hs.cell (off + k * 3 + 1) hbl (by simp <;> omega)
        have hB3 := hs.cell (off + k * 3 + 2) hbl (by simp <;> omega)
        have x2_0 : u2.cell? ⟨b, off + k * 3 + 1, none⟩ = some (.int .u8 x.ad) := hB2.trans x0_0
        have x2_1 : u2.cell? ⟨b, off + k * 3 + 2, none⟩ = some (.int .i64 x.v) := hB3.trans x0_1
        refine hK.out _ _ ⟨x2_0, x2_1⟩ (fun hS => ?_)
        clear hK K
        try simp only [Act.put, List.setIfInBounds_toArray, List.set_cons_zero, List.set_cons_succ]
        refine wpAnyH_done (by kernel_rfl) ?_ _
        go_wp2_with fail
        go_roundw
        case rel => exact ⟨k + 1, by omega, by go_num, by rw [HT.out, HH.out]; exact HM2.out, hS2⟩
        case measure => simp [intOf]; omega
      · have HH := Lib.hid (wr1_miss (s := s) hh)
        go_wp2_with fail
        go_roundw
        case rel => exact ⟨k + 1, by omega, by go_num, by rw [HT.out, HH.out]; exact HM3.out, hS⟩
        case measure => simp [intOf]; omega
    · obtain rfl : k = n := by omega
      go_wp2_with fail
      go_end0
      rw [List.take_of_length_le (by rw [Hn.out]; exact Nat.le_refl _)] at hM2
      exact ⟨rfl, hM2, hS⟩
end Go.Proofs.Ytalmadeibnekoaa
