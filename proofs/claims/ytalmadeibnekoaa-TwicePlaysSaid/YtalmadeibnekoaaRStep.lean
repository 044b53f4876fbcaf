/- The document's own: what it tells, and a step of it; nothing else changes. -/
import Derived.Test.YtalmadeibnekoaaRTw
namespace Go.Proofs.Ytalmadeibnekoaa
open Go.RowKit
attribute [local go_sem ↓] Go.wp_at_zero Go.wp_at_succ

set_option maxRecDepth 100000 in
set_option maxHeartbeats 2000000 in
theorem rwords_any (h rb : Nat) (c : Cf) (n : Nat) (S : List Int) (w : World) (hR : RfAt w h rb c S) (hc : Rc c) (hn : c.sl = n) (hk9 : S.length ≤ 1000000) :
    Calls Try.prog 21 #[.pointer (some ⟨h, 0, none⟩)] w fun e w' => ∃ A2 c2, e = .returned (.slice A2 (tellsS n S).length c2) ∧ IS w' w'.heap.size A2 (tellsS n S) ∧ Below w.heap.size w w' := by
  have HR := Lib.hid hR
  obtain ⟨A, c1, h1, h2⟩ := hR
  obtain ⟨k, hk⟩ : ∃ k, k = S.length := ⟨_, rfl⟩
  have hkc := h2.nc
  rw [← hk] at h1 h2 hk9 hkc
  have q2 := hc.sl
  have Hc := Lib.hid hc
  have Hn := Lib.hid hn
  cases hd : doneS n S with
  | false =>
    have ht : tellsS n S = [] := by unfold tellsS; rw [hd]; rfl
    have HK := Lib.hid hk
    rw [ht]
    clear h1 h2 hk hn ht
    go_enter Try.func21, Try.ntmps21
    go_wp2_with fail
    refine (rdone_any h rb c n S _ HR.out Hc.out Hn.out (HK.out ▸ hk9)).mono ?_
    rw [hd]
    rintro e w1 ⟨rfl, hb⟩
    clear hd
    go_wp2
    go_ret
    exact ⟨none, 0, rfl, fun k x hk => by simp at hk, hb⟩
  | true =>
    have hk2 : 2 * n ≤ k := by
      unfold doneS at hd
      simp only [Bool.and_eq_true, decide_eq_true_eq] at hd
      rw [hk]
      exact hd.2.1
    have ht : tellsS n S = S.drop (k - n) := by unfold tellsS; rw [hd, hk]; rfl
    obtain ⟨P, hP⟩ : ∃ P, P = k - n := ⟨_, rfl⟩
    rw [← hP] at ht
    have hkP : k = P + n := by omega
    have hw1 : IntKind.i64.wrap ((k : Int) - c.sl) = (P : Int) := by rw [IntWalk.i64_in _ (by omega)]; omega
    have hs1 := cut_l rb k c1 P n hkP hkc (by omega)
    obtain ⟨eA, hrh⟩ : A = some ⟨rb, 0, none⟩ ∧ rb ≠ h := by
      rcases h2.pl with ⟨e, _⟩ | e
      · exfalso
        have := h2.nil0 e
        omega
      · exact e
    subst eA
    have hL1 : (S.drop P).length = n := by rw [List.length_drop]; omega
    have HK := Lib.hid hk
    have HI1 : Hid (∀ w' : World, Below w.heap.size w w' → IS w' w'.heap.size (some ⟨rb, P, none⟩) (S.drop P)) := Lib.hid fun w' hb => by
      have i1 := (h2.on hb).is.cut P n
      rwa [List.take_of_length_le (by omega), Nat.zero_add] at i1
    have rh0 : RowAt w h 44 #[Value.int .i64 c.wo, Value.int .i64 c.sl, Value.int .i64 c.st, Value.int .i64 c.wa, Value.int .i64 c.us, Value.slice (some ⟨rb, 0, none⟩) k c1] := h1
    rw [ht, hL1]
    clear h1 h2 hk hn ht hP hkP hL1
    go_enter Try.func21, Try.ntmps21
    go_wp2_with fail
    refine (rdone_any h rb c n S _ HR.out Hc.out Hn.out (HK.out ▸ hk9)).mono ?_
    rw [hd]
    rintro e w1 ⟨rfl, hb⟩
    have rh1 := rh0.below hb rh0.lt
    have k1 := rh1.cell 1 rfl
    have k5 := rh1.cell 5 rfl
    clear hd rh0 rh1
    go_wp2_with fail
    go_quiet (fail)
    go_wp2
    go_ret
    exact ⟨_, _, rfl, HI1.out _ (bdrew hb _), bdrew hb _⟩
set_option maxRecDepth 100000 in
set_option maxHeartbeats 2000000 in
theorem refLoad_in (g gw c : Nat) (s : St) (k : Nat) (w : World) (h : MemAt w g gw c s) (hk : k < s.ws.length) (ht : s.t < 1000000) :
    Calls Try.prog 35 #[.pointer (some ⟨g, 0, none⟩), .int .i64 k] w (Ends w g gw c ⟨s.ws, s.t + 1⟩ (.int .i64 (s.at k))) := by
  have h0 := h.c0
  have h1 := h.c1
  have h2 := h.fg 1
  have h3 := h.ic k _ (St.at_nat hk)
  have hne := h.ne
  have hne2 := h.ne.symm
  go_enter Try.func35, Try.ntmps35
  go_wp2_with (go_at_call 49; go_in)
  go_ret
  exact ⟨rfl, h.touch _, (SpX.refl _ _).set (mem_g _ _) _ _⟩
def tchS (n : Nat) (S : List Int) : Nat := if doneS n S then 0 else 1
def RetRS (h rb g gw c0 : Nat) (c : Cf) (n : Nat) (S : List Int) (s : St) (v : Int) (w : World) (e : Ending) (w' : World) : Prop :=
  ∃ rb', e = .returned (.bool (doneS n (stepS n S v))) ∧ RfAt w' h rb' c (stepS n S v) ∧ MemAt w' g gw c0 ⟨s.ws, s.t + tchS n S⟩ ∧ SpX [h, rb, g, gw] w w' ∧ (rb' = rb ∨ w.heap.size ≤ rb')
set_option maxRecDepth 100000 in
set_option maxHeartbeats 2000000 in
theorem rstep_any (h rb g gw c0 : Nat) (c : Cf) (n F : Nat) (S : List Int) (s : St) (v : Int) (w : World) (hR : RfAt w h rb c S) (hc : Rc c) (hn : c.sl = n) (hF : (3 + c.wo + c.wo).toNat = F) (hk9 : S.length ≤ 100000)
    (hM : MemAt w g gw c0 s) (hv : s.ws[F + S.length % n]? = some v) (ht : s.t < 1000000) (hhg : h ≠ g) (hhw : h ≠ gw) (hrg : rb ≠ g) (hrw : rb ≠ gw) :
    Calls Try.prog 16 #[.pointer (some ⟨h, 0, none⟩), .pointer (some ⟨g, 0, none⟩)] w (RetRS h rb g gw c0 c n S s v w) := by
  have HR := Lib.hid hR
  have Hc := Lib.hid hc
  have Hn := Lib.hid hn
  have HM := Lib.hid hM
  cases hd : doneS n S with
  | true =>
    have HV : Hid (stepS n S v = S) := Lib.hid (by unfold stepS; rw [hd]; rfl)
    have HT : Hid (tchS n S = 0) := Lib.hid (by unfold tchS; rw [hd]; rfl)
    have HD := Lib.hid hd
    clear hR hc hn hM hv hd hF
    go_enter Try.func16, Try.ntmps16
    go_wp2_with fail
    refine (rdone_any h rb c n S _ HR.out Hc.out Hn.out (by omega)).mono ?_
    rw [HD.out]
    rintro e w1 ⟨rfl, hb⟩
    go_wp2
    go_ret
    exact ⟨rb, by rw [HV.out, HD.out]; rfl, by rw [HV.out]; exact HR.out.on hb, by rw [HT.out]; exact HM.out.on hb, .of_below hb, .inl rfl⟩
  | false =>
    have HV : Hid (stepS n S v = S ++ [v]) := Lib.hid (by unfold stepS; rw [hd]; rfl)
    have HT : Hid (tchS n S = 1) := Lib.hid (by unfold tchS; rw [hd]; rfl)
    have HD := Lib.hid hd
    obtain ⟨A, c1, h1, h2⟩ := hR
    have q2 := hc.sl
    have hz : ¬ c.sl = 0 := by omega
    have hmn : S.length % n < n := Nat.mod_lt _ (by omega)
    have htm : ((S.length : Nat) : Int).tmod c.sl = ((S.length % n : Nat) : Int) := by rw [hn, Int.tmod_eq_emod_of_nonneg (by omega)]; omega
    have hK : slotI c ((S.length % n : Nat) : Int) = ((F + S.length % n : Nat) : Int) := slotI_nat hc hF (by omega)
    obtain ⟨r, er⟩ : ∃ r, r = S.length % n := ⟨_, rfl⟩
    rw [← er] at hv hmn htm hK
    obtain ⟨KK, eK⟩ : ∃ KK, KK = F + r := ⟨_, rfl⟩
    rw [← eK] at hv hK
    have hK1 : KK < s.ws.length := (List.getElem?_eq_some_iff.1 hv).1
    have hsv : s.at (KK : Int) = v := by
      have := St.at_nat (s := s) hK1
      rw [hv] at this
      injection this with this
      exact this.symm
    have HK := Lib.hid hK
    have hff : h < w.heap.size := h1.lt
    have hrb : rb < w.heap.size := h2.lt
    have hgl := hM.lg
    have hgwl := hM.lw
    have HH1 : Hid (RowAt w h 44 #[Value.int .i64 c.wo, Value.int .i64 c.sl, Value.int .i64 c.st, Value.int .i64 c.wa, Value.int .i64 c.us, Value.slice A S.length c1]) := Lib.hid h1
    have HH2 := Lib.hid h2
    have hk99 : (S ++ [v]).length ≤ 1000000 := by simp; omega
    have hk9 : S.length ≤ 1000000 := by omega
    have HRZ : Hid (∀ {b9 cc : Nat} (w' : World), RowAt w' h 44 #[Value.int .i64 c.wo, Value.int .i64 c.sl, Value.int .i64 c.st, Value.int .i64 c.wa, Value.int .i64 c.us, Value.slice (some ⟨b9, 0, none⟩) (S.length + 1) cc] → RowAt w' h 44 #[Value.int .i64 c.wo, Value.int .i64 c.sl, Value.int .i64 c.st, Value.int .i64 c.wa, Value.int .i64 c.us, Value.slice ((some ⟨b9, 0, none⟩)) (((S ++ [v]).length)) cc]) := Lib.hid fun w' h => by
      simp only [List.length_append, List.length_cons, List.length_nil, Nat.zero_add]
      exact h
    have HOL : Hid (∀ {b9 cc : Nat} (w' : World), Own w' h b9 (some ⟨b9, 0, none⟩) (S.length + 1) cc (S ++ [v]) → Own w' h b9 (some ⟨b9, 0, none⟩) (S ++ [v]).length cc (S ++ [v])) := Lib.hid fun w' h => by
      simp only [List.length_append, List.length_cons, List.length_nil, Nat.zero_add]
      exact h
    clear hc hn hM hv hF h1 h2 er eK hK hd
    go_enter Try.func16, Try.ntmps16
    go_wp2_with fail
    refine (rdone_any h rb c n S _ HR.out Hc.out Hn.out (by omega)).mono ?_
    rw [HD.out]
    rintro e w1 ⟨rfl, hb⟩
    have rh0 : RowAt w1.drew h 44 #[Value.int .i64 c.wo, Value.int .i64 c.sl, Value.int .i64 c.st, Value.int .i64 c.wa, Value.int .i64 c.us, Value.slice A S.length c1] := (HH1.out.below hb HH1.out.lt).drew
    have HS0 := Lib.hid (HH2.out.on hb).drew
    have HM0 := Lib.hid (HM.out.on hb).drew
    have hS0 : SpX [h, rb, g, gw] w w1.drew := (SpX.of_below hb).drew
    clear hb HR HM HH1 HH2
    go_wp2_with fail
    have ca0 : w1.drew.cell? ⟨h, 0, none⟩ = some (Value.int .i64 c.wo) := rh0.cell 0 rfl
    have ca1 : w1.drew.cell? ⟨h, 1, none⟩ = some (Value.int .i64 c.sl) := rh0.cell 1 rfl
    have ca2 : w1.drew.cell? ⟨h, 2, none⟩ = some (Value.int .i64 c.st) := rh0.cell 2 rfl
    have ca3 : w1.drew.cell? ⟨h, 3, none⟩ = some (Value.int .i64 c.wa) := rh0.cell 3 rfl
    have ca4 : w1.drew.cell? ⟨h, 4, none⟩ = some (Value.int .i64 c.us) := rh0.cell 4 rfl
    have ca5 : w1.drew.cell? ⟨h, 5, none⟩ = some (Value.slice A S.length c1) := rh0.cell 5 rfl
    refine wp_region_held_drew (S := (fun w' => w'.cell? ⟨h, 0, none⟩ = some (Value.int .i64 c.wo) ∧ w'.cell? ⟨h, 1, none⟩ = some (Value.int .i64 c.sl) ∧ w'.cell? ⟨h, 2, none⟩ = some (Value.int .i64 c.st) ∧ w'.cell? ⟨h, 3, none⟩ = some (Value.int .i64 c.wa) ∧ w'.cell? ⟨h, 4, none⟩ = some (Value.int .i64 c.us))) (by kernel_rfl) ⟨ca0, ca1, ca2, ca3, ca4⟩ (fun hS => ?_)
    generalize w1.drew = u0 at *
    refine wpAnyH_take (i := 0) (oi := { dst := some 9, op := Op.move (Operand.tmp 0), type := 42, pos := "ref.go:33", after := #[], guard := none }) (v := ?v0_22) rfl (by kernel_rfl) (by kernel_rfl) (by kernel_rfl) (fun _ _ _ h => h) (Or.inl ⟨by rfl, ?hy0_22⟩) hS ?rest0_22
    case hy0_22 =>
      intro w hSw
      (try dsimp only at hSw)
      go_simp
      try with_reducible rfl
    try simp only [Act.put, List.setIfInBounds_toArray, List.set_cons_zero, List.set_cons_succ]
    refine wpAnyH_take (i := 1) (oi := { dst := some 10, op := Op.move (Operand.tmp 0), type := 42, pos := "ref.go:33", after := #[], guard := none }) (v := ?v1_23) rfl (by kernel_rfl) (by kernel_rfl) (by kernel_rfl) (fun _ _ _ h => h) (Or.inl ⟨by rfl, ?hy1_23⟩) hS ?rest1_23
    case hy1_23 =>
      intro w hSw
      (try dsimp only at hSw)
      go_simp
      try with_reducible rfl
    try simp only [Act.put, List.setIfInBounds_toArray, List.set_cons_zero, List.set_cons_succ]
    refine wpAnyH_take (i := 2) (oi := { dst := some 11, op := Op.nilCheck (Operand.tmp 10), type := 0, pos := "ref.go:33", after := #[{ on := 1, ground := Ground.data }], guard := none }) (v := ?v2_24) rfl (by kernel_rfl) (by kernel_rfl) (by kernel_rfl) (fun _ _ _ h => h) (Or.inl ⟨by rfl, ?hy2_24⟩) hS ?rest2_24
    case hy2_24 =>
      intro w hSw
      (try dsimp only at hSw)
      go_simp
      try with_reducible rfl
    try simp only [Act.put, List.setIfInBounds_toArray, List.set_cons_zero, List.set_cons_succ]
    refine wpAnyH_take (i := 3) (oi := { dst := some 12, op := Op.fieldAddr 44 (Operand.tmp 11) 1, type := 0, pos := "ref.go:33", after := #[{ on := 2, ground := Ground.data }], guard := none }) (v := ?v3_25) rfl (by kernel_rfl) (by kernel_rfl) (by kernel_rfl) (fun _ _ _ h => h) (Or.inl ⟨by rfl, ?hy3_25⟩) hS ?rest3_25
    case hy3_25 =>
      intro w hSw
      (try dsimp only at hSw)
      go_simp
      try with_reducible rfl
    try simp only [Act.put, List.setIfInBounds_toArray, List.set_cons_zero, List.set_cons_succ]
    refine wpAnyH_take (i := 5) (oi := { dst := some 14, op := Op.move (Operand.tmp 1), type := 39, pos := "ref.go:33", after := #[], guard := none }) (v := ?v5_26) rfl (by kernel_rfl) (by kernel_rfl) (by kernel_rfl) (fun _ _ _ h => h) (Or.inl ⟨by rfl, ?hy5_26⟩) hS ?rest5_26
    case hy5_26 =>
      intro w hSw
      (try dsimp only at hSw)
      go_simp
      try with_reducible rfl
    try simp only [Act.put, List.setIfInBounds_toArray, List.set_cons_zero, List.set_cons_succ]
    refine wpAnyH_take (i := 6) (oi := { dst := some 15, op := Op.move (Operand.tmp 0), type := 42, pos := "ref.go:33", after := #[], guard := none }) (v := ?v6_27) rfl (by kernel_rfl) (by kernel_rfl) (by kernel_rfl) (fun _ _ _ h => h) (Or.inl ⟨by rfl, ?hy6_27⟩) hS ?rest6_27
    case hy6_27 =>
      intro w hSw
      (try dsimp only at hSw)
      go_simp
      try with_reducible rfl
    try simp only [Act.put, List.setIfInBounds_toArray, List.set_cons_zero, List.set_cons_succ]
    refine wpAnyH_take (i := 7) (oi := { dst := some 16, op := Op.nilCheck (Operand.tmp 15), type := 0, pos := "ref.go:33", after := #[{ on := 6, ground := Ground.data }], guard := none }) (v := ?v7_28) rfl (by kernel_rfl) (by kernel_rfl) (by kernel_rfl) (fun _ _ _ h => h) (Or.inl ⟨by rfl, ?hy7_28⟩) hS ?rest7_28
    case hy7_28 =>
      intro w hSw
      (try dsimp only at hSw)
      go_simp
      try with_reducible rfl
    try simp only [Act.put, List.setIfInBounds_toArray, List.set_cons_zero, List.set_cons_succ]
    refine wpAnyH_take (i := 8) (oi := { dst := some 17, op := Op.fieldAddr 44 (Operand.tmp 16) 0, type := 0, pos := "ref.go:33", after := #[{ on := 7, ground := Ground.data }], guard := none }) (v := ?v8_29) rfl (by kernel_rfl) (by kernel_rfl) (by kernel_rfl) (fun _ _ _ h => h) (Or.inl ⟨by rfl, ?hy8_29⟩) hS ?rest8_29
    case hy8_29 =>
      intro w hSw
      (try dsimp only at hSw)
      go_simp
      try with_reducible rfl
    try simp only [Act.put, List.setIfInBounds_toArray, List.set_cons_zero, List.set_cons_succ]
    refine wpAnyH_take (i := 9) (oi := { dst := some 18, op := Op.load 31 (Operand.tmp 17), type := 31, pos := "ref.go:33", after := #[{ on := 8, ground := Ground.data }], guard := none }) (v := ?v9_30) rfl (by kernel_rfl) (by kernel_rfl) (by kernel_rfl) (fun _ _ _ h => h) (Or.inl ⟨by rfl, ?hy9_30⟩) hS ?rest9_30
    case hy9_30 =>
      intro w hSw
      (try dsimp only at hSw)
      go_simp
      try with_reducible rfl
    try simp only [Act.put, List.setIfInBounds_toArray, List.set_cons_zero, List.set_cons_succ]
    refine wpAnyH_take (i := 10) (oi := { dst := some 19, op := Op.move (Operand.tmp 0), type := 42, pos := "ref.go:33", after := #[], guard := none }) (v := ?v10_31) rfl (by kernel_rfl) (by kernel_rfl) (by kernel_rfl) (fun _ _ _ h => h) (Or.inl ⟨by rfl, ?hy10_31⟩) hS ?rest10_31
    case hy10_31 =>
      intro w hSw
      (try dsimp only at hSw)
      go_simp
      try with_reducible rfl
    try simp only [Act.put, List.setIfInBounds_toArray, List.set_cons_zero, List.set_cons_succ]
    refine wpAnyH_take (i := 11) (oi := { dst := some 20, op := Op.nilCheck (Operand.tmp 19), type := 0, pos := "ref.go:33", after := #[{ on := 10, ground := Ground.data }], guard := none }) (v := ?v11_32) rfl (by kernel_rfl) (by kernel_rfl) (by kernel_rfl) (fun _ _ _ h => h) (Or.inl ⟨by rfl, ?hy11_32⟩) hS ?rest11_32
    case hy11_32 =>
      intro w hSw
      (try dsimp only at hSw)
      go_simp
      try with_reducible rfl
    try simp only [Act.put, List.setIfInBounds_toArray, List.set_cons_zero, List.set_cons_succ]
    refine wpAnyH_take (i := 12) (oi := { dst := some 21, op := Op.fieldAddr 44 (Operand.tmp 20) 1, type := 0, pos := "ref.go:33", after := #[{ on := 11, ground := Ground.data }], guard := none }) (v := ?v12_33) rfl (by kernel_rfl) (by kernel_rfl) (by kernel_rfl) (fun _ _ _ h => h) (Or.inl ⟨by rfl, ?hy12_33⟩) hS ?rest12_33
    case hy12_33 =>
      intro w hSw
      (try dsimp only at hSw)
      go_simp
      try with_reducible rfl
    try simp only [Act.put, List.setIfInBounds_toArray, List.set_cons_zero, List.set_cons_succ]
    refine wpAnyH_take (i := 15) (oi := { dst := some 24, op := Op.move (Operand.tmp 0), type := 42, pos := "ref.go:33", after := #[], guard := none }) (v := ?v15_34) rfl (by kernel_rfl) (by kernel_rfl) (by kernel_rfl) (fun _ _ _ h => h) (Or.inl ⟨by rfl, ?hy15_34⟩) hS ?rest15_34
    case hy15_34 =>
      intro w hSw
      (try dsimp only at hSw)
      go_simp
      try with_reducible rfl
    try simp only [Act.put, List.setIfInBounds_toArray, List.set_cons_zero, List.set_cons_succ]
    refine wpAnyH_take (i := 16) (oi := { dst := some 25, op := Op.nilCheck (Operand.tmp 24), type := 0, pos := "ref.go:33", after := #[{ on := 15, ground := Ground.data }], guard := none }) (v := ?v16_35) rfl (by kernel_rfl) (by kernel_rfl) (by kernel_rfl) (fun _ _ _ h => h) (Or.inl ⟨by rfl, ?hy16_35⟩) hS ?rest16_35
    case hy16_35 =>
      intro w hSw
      (try dsimp only at hSw)
      go_simp
      try with_reducible rfl
    try simp only [Act.put, List.setIfInBounds_toArray, List.set_cons_zero, List.set_cons_succ]
    refine wpAnyH_take (i := 17) (oi := { dst := some 26, op := Op.fieldAddr 44 (Operand.tmp 25) 0, type := 0, pos := "ref.go:33", after := #[{ on := 16, ground := Ground.data }], guard := none }) (v := ?v17_36) rfl (by kernel_rfl) (by kernel_rfl) (by kernel_rfl) (fun _ _ _ h => h) (Or.inl ⟨by rfl, ?hy17_36⟩) hS ?rest17_36
    case hy17_36 =>
      intro w hSw
      (try dsimp only at hSw)
      go_simp
      try with_reducible rfl
    try simp only [Act.put, List.setIfInBounds_toArray, List.set_cons_zero, List.set_cons_succ]
    refine wpAnyH_take (i := 18) (oi := { dst := some 27, op := Op.fieldAddr 31 (Operand.tmp 26) 1, type := 0, pos := "ref.go:33", after := #[{ on := 17, ground := Ground.data }], guard := none }) (v := ?v18_37) rfl (by kernel_rfl) (by kernel_rfl) (by kernel_rfl) (fun _ _ _ h => h) (Or.inl ⟨by rfl, ?hy18_37⟩) hS ?rest18_37
    case hy18_37 =>
      intro w hSw
      (try dsimp only at hSw)
      go_simp
      try with_reducible rfl
    try simp only [Act.put, List.setIfInBounds_toArray, List.set_cons_zero, List.set_cons_succ]
    refine wpAnyH_take (i := 19) (oi := { dst := some 28, op := Op.load 3 (Operand.tmp 27), type := 3, pos := "ref.go:33", after := #[{ on := 18, ground := Ground.data }], guard := none }) (v := ?v19_38) rfl (by kernel_rfl) (by kernel_rfl) (by kernel_rfl) (fun _ _ _ h => h) (Or.inl ⟨by rfl, ?hy19_38⟩) hS ?rest19_38
    case hy19_38 =>
      intro w hSw
      (try dsimp only at hSw)
      go_simp
      try with_reducible rfl
    try simp only [Act.put, List.setIfInBounds_toArray, List.set_cons_zero, List.set_cons_succ]
    refine wpAnyH_ready (rs := [4, 13]) (by kernel_rfl) (by simp) ?_
    refine AllReadyH.cons (o := { dst := some 13, op := Op.load 32 (Operand.tmp 12), type := 32, pos := "ref.go:33", after := #[{ on := 3, ground := Ground.data }], guard := none }) rfl (fun K hK => ?_) ?_
    ·
      go_simp
      refine hK.out _ _ ⟨ca0, ca1, ca2, ca3, ca4⟩ (fun hS => ?_)
      clear hK K
      try simp only [Act.put, List.setIfInBounds_toArray, List.set_cons_zero, List.set_cons_succ]
      refine wpAnyH_ready (rs := [13]) (by kernel_rfl) (by simp) ?_
      refine AllReadyH.cons (o := { dst := some 22, op := Op.load 32 (Operand.tmp 21), type := 32, pos := "ref.go:33", after := #[{ on := 12, ground := Ground.data }], guard := none }) rfl (fun K hK => ?_) AllReadyH.nil
      go_simp
      refine hK.out _ _ ⟨ca0, ca1, ca2, ca3, ca4⟩ (fun hS => ?_)
      clear hK K
      try simp only [Act.put, List.setIfInBounds_toArray, List.set_cons_zero, List.set_cons_succ]
      refine wpAnyH_take (i := 14) (oi := { dst := some 23, op := Op.call { callee := Callee.builtin Builtin.len, args := #[Operand.tmp 22], argTypes := #[32] }, type := 3, pos := "ref.go:33", after := #[{ on := 13, ground := Ground.data }], guard := none }) (v := ?v14_39) rfl (by kernel_rfl) (by kernel_rfl) (by kernel_rfl) (fun _ _ _ h => h) (Or.inl ⟨by rfl, ?hy14_39⟩) hS ?rest14_39
      case hy14_39 =>
        intro w hSw
        (try dsimp only at hSw)
        go_simp
        try with_reducible rfl
      try simp only [Act.put, List.setIfInBounds_toArray, List.set_cons_zero, List.set_cons_succ]
      refine wpAnyH_take (i := 20) (oi := { dst := some 29, op := Op.binOp BinOp.rem 3 (Operand.tmp 23) (Operand.tmp 28) 3, type := 3, pos := "ref.go:33", after := #[{ on := 14, ground := Ground.data }, { on := 19, ground := Ground.data }], guard := none }) (v := ?v20_40) rfl (by kernel_rfl) (by kernel_rfl) (by kernel_rfl) (fun _ _ _ h => h) (Or.inl ⟨by rfl, ?hy20_40⟩) hS ?rest20_40
      case hy20_40 =>
        intro w hSw
        (try dsimp only at hSw)
        go_simp
        try with_reducible rfl
      try simp only [Act.put, List.setIfInBounds_toArray, List.set_cons_zero, List.set_cons_succ]
      refine wpAnyH_ready (rs := [21]) (by kernel_rfl) (by simp) ?_
      refine AllReadyH.cons (o := { dst := some 30, op := Op.call { callee := Callee.value (Operand.func 24), args := #[Operand.tmp 18, Operand.tmp 29], argTypes := #[31, 3] }, type := 3, pos := "ref.go:33", after := #[{ on := 9, ground := Ground.data }, { on := 20, ground := Ground.data }], guard := none }) rfl (fun K hK => ?_) AllReadyH.nil
      go_simp
      refine (refSlot_any c _ _ Hc.out).mono ?_
      rw [HK.out]
      rintro e u1 ⟨rfl, hb⟩
      have rh1 := rh0.below hb rh0.lt
      have HS1 := Lib.hid (HS0.out.on hb)
      have HM1 := Lib.hid (HM0.out.on hb)
      have hS1 := hS0.on hb
      clear hb
      have cb0 : u1.cell? ⟨h, 0, none⟩ = some (Value.int .i64 c.wo) := rh1.cell 0 rfl
      have cb1 : u1.cell? ⟨h, 1, none⟩ = some (Value.int .i64 c.sl) := rh1.cell 1 rfl
      have cb2 : u1.cell? ⟨h, 2, none⟩ = some (Value.int .i64 c.st) := rh1.cell 2 rfl
      have cb3 : u1.cell? ⟨h, 3, none⟩ = some (Value.int .i64 c.wa) := rh1.cell 3 rfl
      have cb4 : u1.cell? ⟨h, 4, none⟩ = some (Value.int .i64 c.us) := rh1.cell 4 rfl
      have cb5 : u1.cell? ⟨h, 5, none⟩ = some (Value.slice A S.length c1) := rh1.cell 5 rfl
      refine hK.out _ _ ⟨cb0, cb1, cb2, cb3, cb4⟩ (fun hS => ?_)
      clear hK K
      try simp only [Act.put, List.setIfInBounds_toArray, List.set_cons_zero, List.set_cons_succ]
      refine wpAnyH_ready (rs := [22]) (by kernel_rfl) (by simp) ?_
      refine AllReadyH.cons (o := { dst := some 31, op := Op.call { callee := Callee.value (Operand.func 35), args := #[Operand.tmp 14, Operand.tmp 30], argTypes := #[39, 3] }, type := 3, pos := "ref.go:33", after := #[{ on := 5, ground := Ground.data }, { on := 21, ground := Ground.data }, { on := 21, ground := Ground.chain }], guard := none }) rfl (fun K hK => ?_) AllReadyH.nil
      go_simp
      refine (refLoad_in g gw c0 s KK _ HM1.out hK1 ht).mono ?_
      rw [hsv]
      rintro e u2 ⟨rfl, hm, hs⟩
      have rh2 := rh1.spx hs (by simp <;> omega)
      have HS2 := Lib.hid (HS1.out.spx hs (.inr (by simp <;> omega)))
      have HM2 := Lib.hid hm
      have hS2 := hS1.trans (hs.more (Y := [h, rb, g, gw]) (by simp <;> omega))
      clear hm hs
      obtain ⟨b9, cc, w9, hrun, HO, hX, hbb⟩ := HS2.out.run1 rh2.lt hk9 v u2.heap.size rfl
      have hS2s := hS2.size
      have cc_0 : u2.cell? ⟨h, 0, none⟩ = some (Value.int .i64 c.wo) := rh2.cell 0 rfl
      have cc_1 : u2.cell? ⟨h, 1, none⟩ = some (Value.int .i64 c.sl) := rh2.cell 1 rfl
      have cc_2 : u2.cell? ⟨h, 2, none⟩ = some (Value.int .i64 c.st) := rh2.cell 2 rfl
      have cc_3 : u2.cell? ⟨h, 3, none⟩ = some (Value.int .i64 c.wa) := rh2.cell 3 rfl
      have cc_4 : u2.cell? ⟨h, 4, none⟩ = some (Value.int .i64 c.us) := rh2.cell 4 rfl
      have cc_5 : u2.cell? ⟨h, 5, none⟩ = some (Value.slice A S.length c1) := rh2.cell 5 rfl
      refine hK.out _ _ ⟨cc_0, cc_1, cc_2, cc_3, cc_4⟩ (fun hS => ?_)
      clear hK K
      try simp only [Act.put, List.setIfInBounds_toArray, List.set_cons_zero, List.set_cons_succ]
      refine wpAnyH_ready (rs := [23]) (by kernel_rfl) (by simp) ?_
      refine AllReadyH.cons (o := { dst := some 32, op := Op.buildSlice 32 1 #[(0, Operand.tmp 31)], type := 32, pos := "ref.go:33", after := #[{ on := 22, ground := Ground.data }], guard := none }) rfl (fun K hK => ?_) AllReadyH.nil
      go_simp
      have rh3 := rh2.alloc (.cells #[Value.int .i64 v] 3)
      have cd0 : (u2.alloc (.cells #[Value.int .i64 v] 3)).cell? ⟨h, 0, none⟩ = some (Value.int .i64 c.wo) := rh3.cell 0 rfl
      have cd1 : (u2.alloc (.cells #[Value.int .i64 v] 3)).cell? ⟨h, 1, none⟩ = some (Value.int .i64 c.sl) := rh3.cell 1 rfl
      have cd2 : (u2.alloc (.cells #[Value.int .i64 v] 3)).cell? ⟨h, 2, none⟩ = some (Value.int .i64 c.st) := rh3.cell 2 rfl
      have cd3 : (u2.alloc (.cells #[Value.int .i64 v] 3)).cell? ⟨h, 3, none⟩ = some (Value.int .i64 c.wa) := rh3.cell 3 rfl
      have cd4 : (u2.alloc (.cells #[Value.int .i64 v] 3)).cell? ⟨h, 4, none⟩ = some (Value.int .i64 c.us) := rh3.cell 4 rfl
      have cd5 : (u2.alloc (.cells #[Value.int .i64 v] 3)).cell? ⟨h, 5, none⟩ = some (Value.slice A S.length c1) := rh3.cell 5 rfl
      refine hK.out _ _ ⟨cd0, cd1, cd2, cd3, cd4⟩ (fun hS => ?_)
      clear hK K
      try simp only [Act.put, List.setIfInBounds_toArray, List.set_cons_zero, List.set_cons_succ]
      refine wpAnyH_ready (rs := [24]) (by kernel_rfl) (by simp) ?_
      refine AllReadyH.cons (o := { dst := some 33, op := Op.call { callee := Callee.builtin Builtin.append, args := #[Operand.tmp 13, Operand.tmp 32], argTypes := #[32, 32] }, type := 32, pos := "ref.go:33", after := #[{ on := 4, ground := Ground.data }, { on := 23, ground := Ground.data }, { on := 22, ground := Ground.chain }], guard := none }) rfl (fun K hK => ?_) AllReadyH.nil
      (rw [if_pos (by kernel_rfl)]; refine wp_append_run (.tmp 13) (.tmp 32) 32 rfl _ _ rfl rfl _ _ hrun ?_)
      have hX2 := hX (Ow h rb) ow_in
      have rh9 := rh2.spx hX2 (ow_not h rb)
      have HM9 := Lib.hid (HM2.out.spx hX2 (fun h => hrg (ow_only h).symm) (fun h => hrw (ow_only h).symm))
      have hS9 := hS2.trans (hX2.more (Y := [h, rb, g, gw]) (fun k hk => by rw [ow_only hk]; simp))
      have HO9 := Lib.hid HO
      clear HO hX hX2
      have ce0 : w9.cell? ⟨h, 0, none⟩ = some (Value.int .i64 c.wo) := rh9.cell 0 rfl
      have ce1 : w9.cell? ⟨h, 1, none⟩ = some (Value.int .i64 c.sl) := rh9.cell 1 rfl
      have ce2 : w9.cell? ⟨h, 2, none⟩ = some (Value.int .i64 c.st) := rh9.cell 2 rfl
      have ce3 : w9.cell? ⟨h, 3, none⟩ = some (Value.int .i64 c.wa) := rh9.cell 3 rfl
      have ce4 : w9.cell? ⟨h, 4, none⟩ = some (Value.int .i64 c.us) := rh9.cell 4 rfl
      have ce5 : w9.cell? ⟨h, 5, none⟩ = some (Value.slice A S.length c1) := rh9.cell 5 rfl
      have g95 := rh9.frozen 5
      refine hK.out _ _ ⟨ce0, ce1, ce2, ce3, ce4⟩ (fun hS => ?_)
      clear hK K
      try simp only [Act.put, List.setIfInBounds_toArray, List.set_cons_zero, List.set_cons_succ]
      refine wpAnyH_take (i := 25) (oi := { dst := some 34, op := Op.nilCheck (Operand.tmp 9), type := 0, pos := "ref.go:33", after := #[{ on := 0, ground := Ground.data }, { on := 0, ground := Ground.phase }, { on := 1, ground := Ground.phase }, { on := 2, ground := Ground.phase }, { on := 3, ground := Ground.phase }, { on := 4, ground := Ground.phase }, { on := 5, ground := Ground.phase }, { on := 6, ground := Ground.phase }, { on := 7, ground := Ground.phase }, { on := 8, ground := Ground.phase }, { on := 9, ground := Ground.phase }, { on := 10, ground := Ground.phase }, { on := 11, ground := Ground.phase }, { on := 12, ground := Ground.phase }, { on := 13, ground := Ground.phase }, { on := 14, ground := Ground.phase }, { on := 15, ground := Ground.phase }, { on := 16, ground := Ground.phase }, { on := 17, ground := Ground.phase }, { on := 18, ground := Ground.phase }, { on := 19, ground := Ground.phase }, { on := 20, ground := Ground.phase }, { on := 21, ground := Ground.phase }, { on := 22, ground := Ground.phase }, { on := 23, ground := Ground.phase }, { on := 24, ground := Ground.phase }], guard := none }) (v := ?v25_41) rfl (by kernel_rfl) (by kernel_rfl) (by kernel_rfl) (fun _ _ _ h => h) (Or.inl ⟨by rfl, ?hy25_41⟩) hS ?rest25_41
      case hy25_41 =>
        intro w hSw
        (try dsimp only at hSw)
        go_simp
        try with_reducible rfl
      try simp only [Act.put, List.setIfInBounds_toArray, List.set_cons_zero, List.set_cons_succ]
      refine wpAnyH_take (i := 26) (oi := { dst := some 35, op := Op.fieldAddr 44 (Operand.tmp 34) 1, type := 0, pos := "ref.go:33", after := #[{ on := 25, ground := Ground.data }, { on := 0, ground := Ground.phase }, { on := 1, ground := Ground.phase }, { on := 2, ground := Ground.phase }, { on := 3, ground := Ground.phase }, { on := 4, ground := Ground.phase }, { on := 5, ground := Ground.phase }, { on := 6, ground := Ground.phase }, { on := 7, ground := Ground.phase }, { on := 8, ground := Ground.phase }, { on := 9, ground := Ground.phase }, { on := 10, ground := Ground.phase }, { on := 11, ground := Ground.phase }, { on := 12, ground := Ground.phase }, { on := 13, ground := Ground.phase }, { on := 14, ground := Ground.phase }, { on := 15, ground := Ground.phase }, { on := 16, ground := Ground.phase }, { on := 17, ground := Ground.phase }, { on := 18, ground := Ground.phase }, { on := 19, ground := Ground.phase }, { on := 20, ground := Ground.phase }, { on := 21, ground := Ground.phase }, { on := 22, ground := Ground.phase }, { on := 23, ground := Ground.phase }, { on := 24, ground := Ground.phase }], guard := none }) (v := ?v26_42) rfl (by kernel_rfl) (by kernel_rfl) (by kernel_rfl) (fun _ _ _ h => h) (Or.inl ⟨by rfl, ?hy26_42⟩) hS ?rest26_42
      case hy26_42 =>
        intro w hSw
        (try dsimp only at hSw)
        go_simp
        try with_reducible rfl
      try simp only [Act.put, List.setIfInBounds_toArray, List.set_cons_zero, List.set_cons_succ]
      refine wpAnyH_ready (rs := [27]) (by kernel_rfl) (by simp) ?_
      refine AllReadyH.cons (o := { dst := none, op := Op.store 32 (Operand.tmp 35) (Operand.tmp 33), type := 0, pos := "ref.go:33", after := #[{ on := 26, ground := Ground.data }, { on := 24, ground := Ground.data }, { on := 24, ground := Ground.chain }, { on := 0, ground := Ground.phase }, { on := 1, ground := Ground.phase }, { on := 2, ground := Ground.phase }, { on := 3, ground := Ground.phase }, { on := 4, ground := Ground.phase }, { on := 5, ground := Ground.phase }, { on := 6, ground := Ground.phase }, { on := 7, ground := Ground.phase }, { on := 8, ground := Ground.phase }, { on := 9, ground := Ground.phase }, { on := 10, ground := Ground.phase }, { on := 11, ground := Ground.phase }, { on := 12, ground := Ground.phase }, { on := 13, ground := Ground.phase }, { on := 14, ground := Ground.phase }, { on := 15, ground := Ground.phase }, { on := 16, ground := Ground.phase }, { on := 17, ground := Ground.phase }, { on := 18, ground := Ground.phase }, { on := 19, ground := Ground.phase }, { on := 20, ground := Ground.phase }, { on := 21, ground := Ground.phase }, { on := 22, ground := Ground.phase }, { on := 23, ground := Ground.phase }, { on := 24, ground := Ground.phase }], guard := none }) rfl (fun K hK => ?_) AllReadyH.nil
      go_simp
      have rhZ := rh9.put 5 (Value.slice (some ⟨b9, 0, none⟩) (S.length + 1) cc)
      have hss : SpX [h] w9 (w9.setCell ⟨h, 5, none⟩ (Value.slice (some ⟨b9, 0, none⟩) (S.length + 1) cc)) := sp_set
      have HOZ := Lib.hid (HO9.out.spx hss (.inr (by simp <;> omega)))
      have HMZ := Lib.hid (HM9.out.spx hss (by simp <;> omega) (by simp <;> omega))
      have hSZ := hS9.trans (hss.more (Y := [h, rb, g, gw]) (by simp <;> omega))
      clear hss
      have cg0 : (w9.setCell ⟨h, 5, none⟩ (Value.slice (some ⟨b9, 0, none⟩) (S.length + 1) cc)).cell? ⟨h, 0, none⟩ = some (Value.int .i64 c.wo) := rhZ.cell 0 rfl
      have cg1 : (w9.setCell ⟨h, 5, none⟩ (Value.slice (some ⟨b9, 0, none⟩) (S.length + 1) cc)).cell? ⟨h, 1, none⟩ = some (Value.int .i64 c.sl) := rhZ.cell 1 rfl
      have cg2 : (w9.setCell ⟨h, 5, none⟩ (Value.slice (some ⟨b9, 0, none⟩) (S.length + 1) cc)).cell? ⟨h, 2, none⟩ = some (Value.int .i64 c.st) := rhZ.cell 2 rfl
      have cg3 : (w9.setCell ⟨h, 5, none⟩ (Value.slice (some ⟨b9, 0, none⟩) (S.length + 1) cc)).cell? ⟨h, 3, none⟩ = some (Value.int .i64 c.wa) := rhZ.cell 3 rfl
      have cg4 : (w9.setCell ⟨h, 5, none⟩ (Value.slice (some ⟨b9, 0, none⟩) (S.length + 1) cc)).cell? ⟨h, 4, none⟩ = some (Value.int .i64 c.us) := rhZ.cell 4 rfl
      refine hK.out _ _ ⟨cg0, cg1, cg2, cg3, cg4⟩ (fun hS => ?_)
      clear hK K
      try simp only [Act.put, List.setIfInBounds_toArray, List.set_cons_zero, List.set_cons_succ]
      refine wpAnyH_done (by kernel_rfl) ?_ _
      generalize (w9.setCell ⟨h, 5, none⟩ (Value.slice (some ⟨b9, 0, none⟩) (S.length + 1) cc)) = w5 at *
      clear cg0 cg1 cg2 cg3 cg4
      have hRZ : RfAt w5 h b9 c (S ++ [v]) := ⟨_, cc, HRZ.out _ rhZ, HOL.out _ HOZ.out⟩
      go_wp2_with fail
      refine (rdone_any h b9 c n (S ++ [v]) _ hRZ Hc.out Hn.out hk99).mono ?_
      rintro e w6 ⟨rfl, hb⟩
      go_wp2
      go_ret
      refine ⟨b9, by rw [HV.out]; rfl, by rw [HV.out]; exact hRZ.on hb, by rw [HT.out]; exact HMZ.out.on hb, hSZ.on hb, by omega⟩
    refine AllReadyH.cons (o := { dst := some 22, op := Op.load 32 (Operand.tmp 21), type := 32, pos := "ref.go:33", after := #[{ on := 12, ground := Ground.data }], guard := none }) rfl (fun K hK => ?_) AllReadyH.nil
    go_simp
    refine hK.out _ _ ⟨ca0, ca1, ca2, ca3, ca4⟩ (fun hS => ?_)
    clear hK K
    try simp only [Act.put, List.setIfInBounds_toArray, List.set_cons_zero, List.set_cons_succ]
    refine wpAnyH_take (i := 14) (oi := { dst := some 23, op := Op.call { callee := Callee.builtin Builtin.len, args := #[Operand.tmp 22], argTypes := #[32] }, type := 3, pos := "ref.go:33", after := #[{ on := 13, ground := Ground.data }], guard := none }) (v := ?v14_43) rfl (by kernel_rfl) (by kernel_rfl) (by kernel_rfl) (fun _ _ _ h => h) (Or.inl ⟨by rfl, ?hy14_43⟩) hS ?rest14_43
    case hy14_43 =>
      intro w hSw
      (try dsimp only at hSw)
      go_simp
      try with_reducible rfl
    try simp only [Act.put, List.setIfInBounds_toArray, List.set_cons_zero, List.set_cons_succ]
    refine wpAnyH_take (i := 20) (oi := { dst := some 29, op := Op.binOp BinOp.rem 3 (Operand.tmp 23) (Operand.tmp 28) 3, type := 3, pos := "ref.go:33", after := #[{ on := 14, ground := Ground.data }, { on := 19, ground := Ground.data }], guard := none }) (v := ?v20_44) rfl (by kernel_rfl) (by kernel_rfl) (by kernel_rfl) (fun _ _ _ h => h) (Or.inl ⟨by rfl, ?hy20_44⟩) hS ?rest20_44
    case hy20_44 =>
      intro w hSw
      (try dsimp only at hSw)
      go_simp
      try with_reducible rfl
    try simp only [Act.put, List.setIfInBounds_toArray, List.set_cons_zero, List.set_cons_succ]
    refine wpAnyH_ready (rs := [4, 21]) (by kernel_rfl) (by simp) ?_
    refine AllReadyH.cons (o := { dst := some 13, op := Op.load 32 (Operand.tmp 12), type := 32, pos := "ref.go:33", after := #[{ on := 3, ground := Ground.data }], guard := none }) rfl (fun K hK => ?_) ?_
    ·
      go_simp
      refine hK.out _ _ ⟨ca0, ca1, ca2, ca3, ca4⟩ (fun hS => ?_)
      clear hK K
      try simp only [Act.put, List.setIfInBounds_toArray, List.set_cons_zero, List.set_cons_succ]
      refine wpAnyH_ready (rs := [21]) (by kernel_rfl) (by simp) ?_
      refine AllReadyH.cons (o := { dst := some 30, op := Op.call { callee := Callee.value (Operand.func 24), args := #[Operand.tmp 18, Operand.tmp 29], argTypes := #[31, 3] }, type := 3, pos := "ref.go:33", after := #[{ on := 9, ground := Ground.data }, { on := 20, ground := Ground.data }], guard := none }) rfl (fun K hK => ?_) AllReadyH.nil
      go_simp
      refine (refSlot_any c _ _ Hc.out).mono ?_
      rw [HK.out]
      rintro e u1 ⟨rfl, hb⟩
      have rh1 := rh0.below hb rh0.lt
      have HS1 := Lib.hid (HS0.out.on hb)
      have HM1 := Lib.hid (HM0.out.on hb)
      have hS1 := hS0.on hb
      clear hb
      have cb0 : u1.cell? ⟨h, 0, none⟩ = some (Value.int .i64 c.wo) := rh1.cell 0 rfl
      have cb1 : u1.cell? ⟨h, 1, none⟩ = some (Value.int .i64 c.sl) := rh1.cell 1 rfl
      have cb2 : u1.cell? ⟨h, 2, none⟩ = some (Value.int .i64 c.st) := rh1.cell 2 rfl
      have cb3 : u1.cell? ⟨h, 3, none⟩ = some (Value.int .i64 c.wa) := rh1.cell 3 rfl
      have cb4 : u1.cell? ⟨h, 4, none⟩ = some (Value.int .i64 c.us) := rh1.cell 4 rfl
      have cb5 : u1.cell? ⟨h, 5, none⟩ = some (Value.slice A S.length c1) := rh1.cell 5 rfl
      refine hK.out _ _ ⟨cb0, cb1, cb2, cb3, cb4⟩ (fun hS => ?_)
      clear hK K
      try simp only [Act.put, List.setIfInBounds_toArray, List.set_cons_zero, List.set_cons_succ]
      refine wpAnyH_ready (rs := [22]) (by kernel_rfl) (by simp) ?_
      refine AllReadyH.cons (o := { dst := some 31, op := Op.call { callee := Callee.value (Operand.func 35), args := #[Operand.tmp 14, Operand.tmp 30], argTypes := #[39, 3] }, type := 3, pos := "ref.go:33", after := #[{ on := 5, ground := Ground.data }, { on := 21, ground := Ground.data }, { on := 21, ground := Ground.chain }], guard := none }) rfl (fun K hK => ?_) AllReadyH.nil
      go_simp
      refine (refLoad_in g gw c0 s KK _ HM1.out hK1 ht).mono ?_
      rw [hsv]
      rintro e u2 ⟨rfl, hm, hs⟩
      have rh2 := rh1.spx hs (by simp <;> omega)
      have HS2 := Lib.hid (HS1.out.spx hs (.inr (by simp <;> omega)))
      have HM2 := Lib.hid hm
      have hS2 := hS1.trans (hs.more (Y := [h, rb, g, gw]) (by simp <;> omega))
      clear hm hs
      obtain ⟨b9, cc, w9, hrun, HO, hX, hbb⟩ := HS2.out.run1 rh2.lt hk9 v u2.heap.size rfl
      have hS2s := hS2.size
      have cc_0 : u2.cell? ⟨h, 0, none⟩ = some (Value.int .i64 c.wo) := rh2.cell 0 rfl
      have cc_1 : u2.cell? ⟨h, 1, none⟩ = some (Value.int .i64 c.sl) := rh2.cell 1 rfl
      have cc_2 : u2.cell? ⟨h, 2, none⟩ = some (Value.int .i64 c.st) := rh2.cell 2 rfl
      have cc_3 : u2.cell? ⟨h, 3, none⟩ = some (Value.int .i64 c.wa) := rh2.cell 3 rfl
      have cc_4 : u2.cell? ⟨h, 4, none⟩ = some (Value.int .i64 c.us) := rh2.cell 4 rfl
      have cc_5 : u2.cell? ⟨h, 5, none⟩ = some (Value.slice A S.length c1) := rh2.cell 5 rfl
      refine hK.out _ _ ⟨cc_0, cc_1, cc_2, cc_3, cc_4⟩ (fun hS => ?_)
      clear hK K
      try simp only [Act.put, List.setIfInBounds_toArray, List.set_cons_zero, List.set_cons_succ]
      refine wpAnyH_ready (rs := [23]) (by kernel_rfl) (by simp) ?_
      refine AllReadyH.cons (o := { dst := some 32, op := Op.buildSlice 32 1 #[(0, Operand.tmp 31)], type := 32, pos := "ref.go:33", after := #[{ on := 22, ground := Ground.data }], guard := none }) rfl (fun K hK => ?_) AllReadyH.nil
      go_simp
      have rh3 := rh2.alloc (.cells #[Value.int .i64 v] 3)
      have cd0 : (u2.alloc (.cells #[Value.int .i64 v] 3)).cell? ⟨h, 0, none⟩ = some (Value.int .i64 c.wo) := rh3.cell 0 rfl
      have cd1 : (u2.alloc (.cells #[Value.int .i64 v] 3)).cell? ⟨h, 1, none⟩ = some (Value.int .i64 c.sl) := rh3.cell 1 rfl
      have cd2 : (u2.alloc (.cells #[Value.int .i64 v] 3)).cell? ⟨h, 2, none⟩ = some (Value.int .i64 c.st) := rh3.cell 2 rfl
      have cd3 : (u2.alloc (.cells #[Value.int .i64 v] 3)).cell? ⟨h, 3, none⟩ = some (Value.int .i64 c.wa) := rh3.cell 3 rfl
      have cd4 : (u2.alloc (.cells #[Value.int .i64 v] 3)).cell? ⟨h, 4, none⟩ = some (Value.int .i64 c.us) := rh3.cell 4 rfl
      have cd5 : (u2.alloc (.cells #[Value.int .i64 v] 3)).cell? ⟨h, 5, none⟩ = some (Value.slice A S.length c1) := rh3.cell 5 rfl
      refine hK.out _ _ ⟨cd0, cd1, cd2, cd3, cd4⟩ (fun hS => ?_)
      clear hK K
      try simp only [Act.put, List.setIfInBounds_toArray, List.set_cons_zero, List.set_cons_succ]
      refine wpAnyH_ready (rs := [24]) (by kernel_rfl) (by simp) ?_
      refine AllReadyH.cons (o := { dst := some 33, op := Op.call { callee := Callee.builtin Builtin.append, args := #[Operand.tmp 13, Operand.tmp 32], argTypes := #[32, 32] }, type := 32, pos := "ref.go:33", after := #[{ on := 4, ground := Ground.data }, { on := 23, ground := Ground.data }, { on := 22, ground := Ground.chain }], guard := none }) rfl (fun K hK => ?_) AllReadyH.nil
      (rw [if_pos (by kernel_rfl)]; refine wp_append_run (.tmp 13) (.tmp 32) 32 rfl _ _ rfl rfl _ _ hrun ?_)
      have hX2 := hX (Ow h rb) ow_in
      have rh9 := rh2.spx hX2 (ow_not h rb)
      have HM9 := Lib.hid (HM2.out.spx hX2 (fun h => hrg (ow_only h).symm) (fun h => hrw (ow_only h).symm))
      have hS9 := hS2.trans (hX2.more (Y := [h, rb, g, gw]) (fun k hk => by rw [ow_only hk]; simp))
      have HO9 := Lib.hid HO
      clear HO hX hX2
      have ce0 : w9.cell? ⟨h, 0, none⟩ = some (Value.int .i64 c.wo) := rh9.cell 0 rfl
      have ce1 : w9.cell? ⟨h, 1, none⟩ = some (Value.int .i64 c.sl) := rh9.cell 1 rfl
      have ce2 : w9.cell? ⟨h, 2, none⟩ = some (Value.int .i64 c.st) := rh9.cell 2 rfl
      have ce3 : w9.cell? ⟨h, 3, none⟩ = some (Value.int .i64 c.wa) := rh9.cell 3 rfl
      have ce4 : w9.cell? ⟨h, 4, none⟩ = some (Value.int .i64 c.us) := rh9.cell 4 rfl
      have ce5 : w9.cell? ⟨h, 5, none⟩ = some (Value.slice A S.length c1) := rh9.cell 5 rfl
      have g95 := rh9.frozen 5
      refine hK.out _ _ ⟨ce0, ce1, ce2, ce3, ce4⟩ (fun hS => ?_)
      clear hK K
      try simp only [Act.put, List.setIfInBounds_toArray, List.set_cons_zero, List.set_cons_succ]
      refine wpAnyH_take (i := 25) (oi := { dst := some 34, op := Op.nilCheck (Operand.tmp 9), type := 0, pos := "ref.go:33", after := #[{ on := 0, ground := Ground.data }, { on := 0, ground := Ground.phase }, { on := 1, ground := Ground.phase }, { on := 2, ground := Ground.phase }, { on := 3, ground := Ground.phase }, { on := 4, ground := Ground.phase }, { on := 5, ground := Ground.phase }, { on := 6, ground := Ground.phase }, { on := 7, ground := Ground.phase }, { on := 8, ground := Ground.phase }, { on := 9, ground := Ground.phase }, { on := 10, ground := Ground.phase }, { on := 11, ground := Ground.phase }, { on := 12, ground := Ground.phase }, { on := 13, ground := Ground.phase }, { on := 14, ground := Ground.phase }, { on := 15, ground := Ground.phase }, { on := 16, ground := Ground.phase }, { on := 17, ground := Ground.phase }, { on := 18, ground := Ground.phase }, { on := 19, ground := Ground.phase }, { on := 20, ground := Ground.phase }, { on := 21, ground := Ground.phase }, { on := 22, ground := Ground.phase }, { on := 23, ground := Ground.phase }, { on := 24, ground := Ground.phase }], guard := none }) (v := ?v25_45) rfl (by kernel_rfl) (by kernel_rfl) (by kernel_rfl) (fun _ _ _ h => h) (Or.inl ⟨by rfl, ?hy25_45⟩) hS ?rest25_45
      case hy25_45 =>
        intro w hSw
        (try dsimp only at hSw)
        go_simp
        try with_reducible rfl
      try simp only [Act.put, List.setIfInBounds_toArray, List.set_cons_zero, List.set_cons_succ]
      refine wpAnyH_take (i := 26) (oi := { dst := some 35, op := Op.fieldAddr 44 (Operand.tmp 34) 1, type := 0, pos := "ref.go:33", after := #[{ on := 25, ground := Ground.data }, { on := 0, ground := Ground.phase }, { on := 1, ground := Ground.phase }, { on := 2, ground := Ground.phase }, { on := 3, ground := Ground.phase }, { on := 4, ground := Ground.phase }, { on := 5, ground := Ground.phase }, { on := 6, ground := Ground.phase }, { on := 7, ground := Ground.phase }, { on := 8, ground := Ground.phase }, { on := 9, ground := Ground.phase }, { on := 10, ground := Ground.phase }, { on := 11, ground := Ground.phase }, { on := 12, ground := Ground.phase }, { on := 13, ground := Ground.phase }, { on := 14, ground := Ground.phase }, { on := 15, ground := Ground.phase }, { on := 16, ground := Ground.phase }, { on := 17, ground := Ground.phase }, { on := 18, ground := Ground.phase }, { on := 19, ground := Ground.phase }, { on := 20, ground := Ground.phase }, { on := 21, ground := Ground.phase }, { on := 22, ground := Ground.phase }, { on := 23, ground := Ground.phase }, { on := 24, ground := Ground.phase }], guard := none }) (v := ?v26_46) rfl (by kernel_rfl) (by kernel_rfl) (by kernel_rfl) (fun _ _ _ h => h) (Or.inl ⟨by rfl, ?hy26_46⟩) hS ?rest26_46
      case hy26_46 =>
        intro w hSw
        (try dsimp only at hSw)
        go_simp
        try with_reducible rfl
      try simp only [Act.put, List.setIfInBounds_toArray, List.set_cons_zero, List.set_cons_succ]
      refine wpAnyH_ready (rs := [27]) (by kernel_rfl) (by simp) ?_
      refine AllReadyH.cons (o := { dst := none, op := Op.store 32 (Operand.tmp 35) (Operand.tmp 33), type := 0, pos := "ref.go:33", after := #[{ on := 26, ground := Ground.data }, { on := 24, ground := Ground.data }, { on := 24, ground := Ground.chain }, { on := 0, ground := Ground.phase }, { on := 1, ground := Ground.phase }, { on := 2, ground := Ground.phase }, { on := 3, ground := Ground.phase }, { on := 4, ground := Ground.phase }, { on := 5, ground := Ground.phase }, { on := 6, ground := Ground.phase }, { on := 7, ground := Ground.phase }, { on := 8, ground := Ground.phase }, { on := 9, ground := Ground.phase }, { on := 10, ground := Ground.phase }, { on := 11, ground := Ground.phase }, { on := 12, ground := Ground.phase }, { on := 13, ground := Ground.phase }, { on := 14, ground := Ground.phase }, { on := 15, ground := Ground.phase }, { on := 16, ground := Ground.phase }, { on := 17, ground := Ground.phase }, { on := 18, ground := Ground.phase }, { on := 19, ground := Ground.phase }, { on := 20, ground := Ground.phase }, { on := 21, ground := Ground.phase }, { on := 22, ground := Ground.phase }, { on := 23, ground := Ground.phase }, { on := 24, ground := Ground.phase }], guard := none }) rfl (fun K hK => ?_) AllReadyH.nil
      go_simp
      have rhZ := rh9.put 5 (Value.slice (some ⟨b9, 0, none⟩) (S.length + 1) cc)
      have hss : SpX [h] w9 (w9.setCell ⟨h, 5, none⟩ (Value.slice (some ⟨b9, 0, none⟩) (S.length + 1) cc)) := sp_set
      have HOZ := Lib.hid (HO9.out.spx hss (.inr (by simp <;> omega)))
      have HMZ := Lib.hid (HM9.out.spx hss (by simp <;> omega) (by simp <;> omega))
      have hSZ := hS9.trans (hss.more (Y := [h, rb, g, gw]) (by simp <;> omega))
      clear hss
      have cg0 : (w9.setCell ⟨h, 5, none⟩ (Value.slice (some ⟨b9, 0, none⟩) (S.length + 1) cc)).cell? ⟨h, 0, none⟩ = some (Value.int .i64 c.wo) := rhZ.cell 0 rfl
      have cg1 : (w9.setCell ⟨h, 5, none⟩ (Value.slice (some ⟨b9, 0, none⟩) (S.length + 1) cc)).cell? ⟨h, 1, none⟩ = some (Value.int .i64 c.sl) := rhZ.cell 1 rfl
      have cg2 : (w9.setCell ⟨h, 5, none⟩ (Value.slice (some ⟨b9, 0, none⟩) (S.length + 1) cc)).cell? ⟨h, 2, none⟩ = some (Value.int .i64 c.st) := rhZ.cell 2 rfl
      have cg3 : (w9.setCell ⟨h, 5, none⟩ (Value.slice (some ⟨b9, 0, none⟩) (S.length + 1) cc)).cell? ⟨h, 3, none⟩ = some (Value.int .i64 c.wa) := rhZ.cell 3 rfl
      have cg4 : (w9.setCell ⟨h, 5, none⟩ (Value.slice (some ⟨b9, 0, none⟩) (S.length + 1) cc)).cell? ⟨h, 4, none⟩ = some (Value.int .i64 c.us) := rhZ.cell 4 rfl
      refine hK.out _ _ ⟨cg0, cg1, cg2, cg3, cg4⟩ (fun hS => ?_)
      clear hK K
      try simp only [Act.put, List.setIfInBounds_toArray, List.set_cons_zero, List.set_cons_succ]
      refine wpAnyH_done (by kernel_rfl) ?_ _
      generalize (w9.setCell ⟨h, 5, none⟩ (Value.slice (some ⟨b9, 0, none⟩) (S.length + 1) cc)) = w5 at *
      clear cg0 cg1 cg2 cg3 cg4
      have hRZ : RfAt w5 h b9 c (S ++ [v]) := ⟨_, cc, HRZ.out _ rhZ, HOL.out _ HOZ.out⟩
      go_wp2_with fail
      refine (rdone_any h b9 c n (S ++ [v]) _ hRZ Hc.out Hn.out hk99).mono ?_
      rintro e w6 ⟨rfl, hb⟩
      go_wp2
      go_ret
      refine ⟨b9, by rw [HV.out]; rfl, by rw [HV.out]; exact hRZ.on hb, by rw [HT.out]; exact HMZ.out.on hb, hSZ.on hb, by omega⟩
    refine AllReadyH.cons (o := { dst := some 30, op := Op.call { callee := Callee.value (Operand.func 24), args := #[Operand.tmp 18, Operand.tmp 29], argTypes := #[31, 3] }, type := 3, pos := "ref.go:33", after := #[{ on := 9, ground := Ground.data }, { on := 20, ground := Ground.data }], guard := none }) rfl (fun K hK => ?_) AllReadyH.nil
    go_simp
    refine (refSlot_any c _ _ Hc.out).mono ?_
    rw [HK.out]
    rintro e u1 ⟨rfl, hb⟩
    have rh1 := rh0.below hb rh0.lt
    have HS1 := Lib.hid (HS0.out.on hb)
    have HM1 := Lib.hid (HM0.out.on hb)
    have hS1 := hS0.on hb
    clear hb
    have cb0 : u1.cell? ⟨h, 0, none⟩ = some (Value.int .i64 c.wo) := rh1.cell 0 rfl
    have cb1 : u1.cell? ⟨h, 1, none⟩ = some (Value.int .i64 c.sl) := rh1.cell 1 rfl
    have cb2 : u1.cell? ⟨h, 2, none⟩ = some (Value.int .i64 c.st) := rh1.cell 2 rfl
    have cb3 : u1.cell? ⟨h, 3, none⟩ = some (Value.int .i64 c.wa) := rh1.cell 3 rfl
    have cb4 : u1.cell? ⟨h, 4, none⟩ = some (Value.int .i64 c.us) := rh1.cell 4 rfl
    have cb5 : u1.cell? ⟨h, 5, none⟩ = some (Value.slice A S.length c1) := rh1.cell 5 rfl
    refine hK.out _ _ ⟨cb0, cb1, cb2, cb3, cb4⟩ (fun hS => ?_)
    clear hK K
    try simp only [Act.put, List.setIfInBounds_toArray, List.set_cons_zero, List.set_cons_succ]
    refine wpAnyH_ready (rs := [4, 22]) (by kernel_rfl) (by simp) ?_
    refine AllReadyH.cons (o := { dst := some 13, op := Op.load 32 (Operand.tmp 12), type := 32, pos := "ref.go:33", after := #[{ on := 3, ground := Ground.data }], guard := none }) rfl (fun K hK => ?_) ?_
    ·
      go_simp
      refine hK.out _ _ ⟨cb0, cb1, cb2, cb3, cb4⟩ (fun hS => ?_)
      clear hK K
      try simp only [Act.put, List.setIfInBounds_toArray, List.set_cons_zero, List.set_cons_succ]
      refine wpAnyH_ready (rs := [22]) (by kernel_rfl) (by simp) ?_
      refine AllReadyH.cons (o := { dst := some 31, op := Op.call { callee := Callee.value (Operand.func 35), args := #[Operand.tmp 14, Operand.tmp 30], argTypes := #[39, 3] }, type := 3, pos := "ref.go:33", after := #[{ on := 5, ground := Ground.data }, { on := 21, ground := Ground.data }, { on := 21, ground := Ground.chain }], guard := none }) rfl (fun K hK => ?_) AllReadyH.nil
      go_simp
      refine (refLoad_in g gw c0 s KK _ HM1.out hK1 ht).mono ?_
      rw [hsv]
      rintro e u2 ⟨rfl, hm, hs⟩
      have rh2 := rh1.spx hs (by simp <;> omega)
      have HS2 := Lib.hid (HS1.out.spx hs (.inr (by simp <;> omega)))
      have HM2 := Lib.hid hm
      have hS2 := hS1.trans (hs.more (Y := [h, rb, g, gw]) (by simp <;> omega))
      clear hm hs
      obtain ⟨b9, cc, w9, hrun, HO, hX, hbb⟩ := HS2.out.run1 rh2.lt hk9 v u2.heap.size rfl
      have hS2s := hS2.size
      have cc_0 : u2.cell? ⟨h, 0, none⟩ = some (Value.int .i64 c.wo) := rh2.cell 0 rfl
      have cc_1 : u2.cell? ⟨h, 1, none⟩ = some (Value.int .i64 c.sl) := rh2.cell 1 rfl
      have cc_2 : u2.cell? ⟨h, 2, none⟩ = some (Value.int .i64 c.st) := rh2.cell 2 rfl
      have cc_3 : u2.cell? ⟨h, 3, none⟩ = some (Value.int .i64 c.wa) := rh2.cell 3 rfl
      have cc_4 : u2.cell? ⟨h, 4, none⟩ = some (Value.int .i64 c.us) := rh2.cell 4 rfl
      have cc_5 : u2.cell? ⟨h, 5, none⟩ = some (Value.slice A S.length c1) := rh2.cell 5 rfl
      refine hK.out _ _ ⟨cc_0, cc_1, cc_2, cc_3, cc_4⟩ (fun hS => ?_)
      clear hK K
      try simp only [Act.put, List.setIfInBounds_toArray, List.set_cons_zero, List.set_cons_succ]
      refine wpAnyH_ready (rs := [23]) (by kernel_rfl) (by simp) ?_
      refine AllReadyH.cons (o := { dst := some 32, op := Op.buildSlice 32 1 #[(0, Operand.tmp 31)], type := 32, pos := "ref.go:33", after := #[{ on := 22, ground := Ground.data }], guard := none }) rfl (fun K hK => ?_) AllReadyH.nil
      go_simp
      have rh3 := rh2.alloc (.cells #[Value.int .i64 v] 3)
      have cd0 : (u2.alloc (.cells #[Value.int .i64 v] 3)).cell? ⟨h, 0, none⟩ = some (Value.int .i64 c.wo) := rh3.cell 0 rfl
      have cd1 : (u2.alloc (.cells #[Value.int .i64 v] 3)).cell? ⟨h, 1, none⟩ = some (Value.int .i64 c.sl) := rh3.cell 1 rfl
      have cd2 : (u2.alloc (.cells #[Value.int .i64 v] 3)).cell? ⟨h, 2, none⟩ = some (Value.int .i64 c.st) := rh3.cell 2 rfl
      have cd3 : (u2.alloc (.cells #[Value.int .i64 v] 3)).cell? ⟨h, 3, none⟩ = some (Value.int .i64 c.wa) := rh3.cell 3 rfl
      have cd4 : (u2.alloc (.cells #[Value.int .i64 v] 3)).cell? ⟨h, 4, none⟩ = some (Value.int .i64 c.us) := rh3.cell 4 rfl
      have cd5 : (u2.alloc (.cells #[Value.int .i64 v] 3)).cell? ⟨h, 5, none⟩ = some (Value.slice A S.length c1) := rh3.cell 5 rfl
      refine hK.out _ _ ⟨cd0, cd1, cd2, cd3, cd4⟩ (fun hS => ?_)
      clear hK K
      try simp only [Act.put, List.setIfInBounds_toArray, List.set_cons_zero, List.set_cons_succ]
      refine wpAnyH_ready (rs := [24]) (by kernel_rfl) (by simp) ?_
      refine AllReadyH.cons (o := { dst := some 33, op := Op.call { callee := Callee.builtin Builtin.append, args := #[Operand.tmp 13, Operand.tmp 32], argTypes := #[32, 32] }, type := 32, pos := "ref.go:33", after := #[{ on := 4, ground := Ground.data }, { on := 23, ground := Ground.data }, { on := 22, ground := Ground.chain }], guard := none }) rfl (fun K hK => ?_) AllReadyH.nil
      (rw [if_pos (by kernel_rfl)]; refine wp_append_run (.tmp 13) (.tmp 32) 32 rfl _ _ rfl rfl _ _ hrun ?_)
      have hX2 := hX (Ow h rb) ow_in
      have rh9 := rh2.spx hX2 (ow_not h rb)
      have HM9 := Lib.hid (HM2.out.spx hX2 (fun h => hrg (ow_only h).symm) (fun h => hrw (ow_only h).symm))
      have hS9 := hS2.trans (hX2.more (Y := [h, rb, g, gw]) (fun k hk => by rw [ow_only hk]; simp))
      have HO9 := Lib.hid HO
      clear HO hX hX2
      have ce0 : w9.cell? ⟨h, 0, none⟩ = some (Value.int .i64 c.wo) := rh9.cell 0 rfl
      have ce1 : w9.cell? ⟨h, 1, none⟩ = some (Value.int .i64 c.sl) := rh9.cell 1 rfl
      have ce2 : w9.cell? ⟨h, 2, none⟩ = some (Value.int .i64 c.st) := rh9.cell 2 rfl
      have ce3 : w9.cell? ⟨h, 3, none⟩ = some (Value.int .i64 c.wa) := rh9.cell 3 rfl
      have ce4 : w9.cell? ⟨h, 4, none⟩ = some (Value.int .i64 c.us) := rh9.cell 4 rfl
      have ce5 : w9.cell? ⟨h, 5, none⟩ = some (Value.slice A S.length c1) := rh9.cell 5 rfl
      have g95 := rh9.frozen 5
      refine hK.out _ _ ⟨ce0, ce1, ce2, ce3, ce4⟩ (fun hS => ?_)
      clear hK K
      try simp only [Act.put, List.setIfInBounds_toArray, List.set_cons_zero, List.set_cons_succ]
      refine wpAnyH_take (i := 25) (oi := { dst := some 34, op := Op.nilCheck (Operand.tmp 9), type := 0, pos := "ref.go:33", after := #[{ on := 0, ground := Ground.data }, { on := 0, ground := Ground.phase }, { on := 1, ground := Ground.phase }, { on := 2, ground := Ground.phase }, { on := 3, ground := Ground.phase }, { on := 4, ground := Ground.phase }, { on := 5, ground := Ground.phase }, { on := 6, ground := Ground.phase }, { on := 7, ground := Ground.phase }, { on := 8, ground := Ground.phase }, { on := 9, ground := Ground.phase }, { on := 10, ground := Ground.phase }, { on := 11, ground := Ground.phase }, { on := 12, ground := Ground.phase }, { on := 13, ground := Ground.phase }, { on := 14, ground := Ground.phase }, { on := 15, ground := Ground.phase }, { on := 16, ground := Ground.phase }, { on := 17, ground := Ground.phase }, { on := 18, ground := Ground.phase }, { on := 19, ground := Ground.phase }, { on := 20, ground := Ground.phase }, { on := 21, ground := Ground.phase }, { on := 22, ground := Ground.phase }, { on := 23, ground := Ground.phase }, { on := 24, ground := Ground.phase }], guard := none }) (v := ?v25_47) rfl (by kernel_rfl) (by kernel_rfl) (by kernel_rfl) (fun _ _ _ h => h) (Or.inl ⟨by rfl, ?hy25_47⟩) hS ?rest25_47
      case hy25_47 =>
        intro w hSw
        (try dsimp only at hSw)
        go_simp
        try with_reducible rfl
      try simp only [Act.put, List.setIfInBounds_toArray, List.set_cons_zero, List.set_cons_succ]
      refine wpAnyH_take (i := 26) (oi := { dst := some 35, op := Op.fieldAddr 44 (Operand.tmp 34) 1, type := 0, pos := "ref.go:33", after := #[{ on := 25, ground := Ground.data }, { on := 0, ground := Ground.phase }, { on := 1, ground := Ground.phase }, { on := 2, ground := Ground.phase }, { on := 3, ground := Ground.phase }, { on := 4, ground := Ground.phase }, { on := 5, ground := Ground.phase }, { on := 6, ground := Ground.phase }, { on := 7, ground := Ground.phase }, { on := 8, ground := Ground.phase }, { on := 9, ground := Ground.phase }, { on := 10, ground := Ground.phase }, { on := 11, ground := Ground.phase }, { on := 12, ground := Ground.phase }, { on := 13, ground := Ground.phase }, { on := 14, ground := Ground.phase }, { on := 15, ground := Ground.phase }, { on := 16, ground := Ground.phase }, { on := 17, ground := Ground.phase }, { on := 18, ground := Ground.phase }, { on := 19, ground := Ground.phase }, { on := 20, ground := Ground.phase }, { on := 21, ground := Ground.phase }, { on := 22, ground := Ground.phase }, { on := 23, ground := Ground.phase }, { on := 24, ground := Ground.phase }], guard := none }) (v := ?v26_48) rfl (by kernel_rfl) (by kernel_rfl) (by kernel_rfl) (fun _ _ _ h => h) (Or.inl ⟨by rfl, ?hy26_48⟩) hS ?rest26_48
      case hy26_48 =>
        intro w hSw
        (try dsimp only at hSw)
        go_simp
        try with_reducible rfl
      try simp only [Act.put, List.setIfInBounds_toArray, List.set_cons_zero, List.set_cons_succ]
      refine wpAnyH_ready (rs := [27]) (by kernel_rfl) (by simp) ?_
      refine AllReadyH.cons (o := { dst := none, op := Op.store 32 (Operand.tmp 35) (Operand.tmp 33), type := 0, pos := "ref.go:33", after := #[{ on := 26, ground := Ground.data }, { on := 24, ground := Ground.data }, { on := 24, ground := Ground.chain }, { on := 0, ground := Ground.phase }, { on := 1, ground := Ground.phase }, { on := 2, ground := Ground.phase }, { on := 3, ground := Ground.phase }, { on := 4, ground := Ground.phase }, { on := 5, ground := Ground.phase }, { on := 6, ground := Ground.phase }, { on := 7, ground := Ground.phase }, { on := 8, ground := Ground.phase }, { on := 9, ground := Ground.phase }, { on := 10, ground := Ground.phase }, { on := 11, ground := Ground.phase }, { on := 12, ground := Ground.phase }, { on := 13, ground := Ground.phase }, { on := 14, ground := Ground.phase }, { on := 15, ground := Ground.phase }, { on := 16, ground := Ground.phase }, { on := 17, ground := Ground.phase }, { on := 18, ground := Ground.phase }, { on := 19, ground := Ground.phase }, { on := 20, ground := Ground.phase }, { on := 21, ground := Ground.phase }, { on := 22, ground := Ground.phase }, { on := 23, ground := Ground.phase }, { on := 24, ground := Ground.phase }], guard := none }) rfl (fun K hK => ?_) AllReadyH.nil
      go_simp
      have rhZ := rh9.put 5 (Value.slice (some ⟨b9, 0, none⟩) (S.length + 1) cc)
      have hss : SpX [h] w9 (w9.setCell ⟨h, 5, none⟩ (Value.slice (some ⟨b9, 0, none⟩) (S.length + 1) cc)) := sp_set
      have HOZ := Lib.hid (HO9.out.spx hss (.inr (by simp <;> omega)))
      have HMZ := Lib.hid (HM9.out.spx hss (by simp <;> omega) (by simp <;> omega))
      have hSZ := hS9.trans (hss.more (Y := [h, rb, g, gw]) (by simp <;> omega))
      clear hss
      have cg0 : (w9.setCell ⟨h, 5, none⟩ (Value.slice (some ⟨b9, 0, none⟩) (S.length + 1) cc)).cell? ⟨h, 0, none⟩ = some (Value.int .i64 c.wo) := rhZ.cell 0 rfl
      have cg1 : (w9.setCell ⟨h, 5, none⟩ (Value.slice (some ⟨b9, 0, none⟩) (S.length + 1) cc)).cell? ⟨h, 1, none⟩ = some (Value.int .i64 c.sl) := rhZ.cell 1 rfl
      have cg2 : (w9.setCell ⟨h, 5, none⟩ (Value.slice (some ⟨b9, 0, none⟩) (S.length + 1) cc)).cell? ⟨h, 2, none⟩ = some (Value.int .i64 c.st) := rhZ.cell 2 rfl
      have cg3 : (w9.setCell ⟨h, 5, none⟩ (Value.slice (some ⟨b9, 0, none⟩) (S.length + 1) cc)).cell? ⟨h, 3, none⟩ = some (Value.int .i64 c.wa) := rhZ.cell 3 rfl
      have cg4 : (w9.setCell ⟨h, 5, none⟩ (Value.slice (some ⟨b9, 0, none⟩) (S.length + 1) cc)).cell? ⟨h, 4, none⟩ = some (Value.int .i64 c.us) := rhZ.cell 4 rfl
      refine hK.out _ _ ⟨cg0, cg1, cg2, cg3, cg4⟩ (fun hS => ?_)
      clear hK K
      try simp only [Act.put, List.setIfInBounds_toArray, List.set_cons_zero, List.set_cons_succ]
      refine wpAnyH_done (by kernel_rfl) ?_ _
      generalize (w9.setCell ⟨h, 5, none⟩ (Value.slice (some ⟨b9, 0, none⟩) (S.length + 1) cc)) = w5 at *
      clear cg0 cg1 cg2 cg3 cg4
      have hRZ : RfAt w5 h b9 c (S ++ [v]) := ⟨_, cc, HRZ.out _ rhZ, HOL.out _ HOZ.out⟩
      go_wp2_with fail
      refine (rdone_any h b9 c n (S ++ [v]) _ hRZ Hc.out Hn.out hk99).mono ?_
      rintro e w6 ⟨rfl, hb⟩
      go_wp2
      go_ret
      refine ⟨b9, by rw [HV.out]; rfl, by rw [HV.out]; exact hRZ.on hb, by rw [HT.out]; exact HMZ.out.on hb, hSZ.on hb, by omega⟩
    refine AllReadyH.cons (o := { dst := some 31, op := Op.call { callee := Callee.value (Operand.func 35), args := #[Operand.tmp 14, Operand.tmp 30], argTypes := #[39, 3] }, type := 3, pos := "ref.go:33", after := #[{ on := 5, ground := Ground.data }, { on := 21, ground := Ground.data }, { on := 21, ground := Ground.chain }], guard := none }) rfl (fun K hK => ?_) AllReadyH.nil
    go_simp
    refine (refLoad_in g gw c0 s KK _ HM1.out hK1 ht).mono ?_
    rw [hsv]
    rintro e u2 ⟨rfl, hm, hs⟩
    have rh2 := rh1.spx hs (by simp <;> omega)
    have HS2 := Lib.hid (HS1.out.spx hs (.inr (by simp <;> omega)))
    have HM2 := Lib.hid hm
    have hS2 := hS1.trans (hs.more (Y := [h, rb, g, gw]) (by simp <;> omega))
    clear hm hs
    obtain ⟨b9, cc, w9, hrun, HO, hX, hbb⟩ := HS2.out.run1 rh2.lt hk9 v u2.heap.size rfl
    have hS2s := hS2.size
    have cc_0 : u2.cell? ⟨h, 0, none⟩ = some (Value.int .i64 c.wo) := rh2.cell 0 rfl
    have cc_1 : u2.cell? ⟨h, 1, none⟩ = some (Value.int .i64 c.sl) := rh2.cell 1 rfl
    have cc_2 : u2.cell? ⟨h, 2, none⟩ = some (Value.int .i64 c.st) := rh2.cell 2 rfl
    have cc_3 : u2.cell? ⟨h, 3, none⟩ = some (Value.int .i64 c.wa) := rh2.cell 3 rfl
    have cc_4 : u2.cell? ⟨h, 4, none⟩ = some (Value.int .i64 c.us) := rh2.cell 4 rfl
    have cc_5 : u2.cell? ⟨h, 5, none⟩ = some (Value.slice A S.length c1) := rh2.cell 5 rfl
    refine hK.out _ _ ⟨cc_0, cc_1, cc_2, cc_3, cc_4⟩ (fun hS => ?_)
    clear hK K
    try simp only [Act.put, List.setIfInBounds_toArray, List.set_cons_zero, List.set_cons_succ]
    refine wpAnyH_ready (rs := [4, 23]) (by kernel_rfl) (by simp) ?_
    refine AllReadyH.cons (o := { dst := some 13, op := Op.load 32 (Operand.tmp 12), type := 32, pos := "ref.go:33", after := #[{ on := 3, ground := Ground.data }], guard := none }) rfl (fun K hK => ?_) ?_
    ·
      go_simp
      refine hK.out _ _ ⟨cc_0, cc_1, cc_2, cc_3, cc_4⟩ (fun hS => ?_)
      clear hK K
      try simp only [Act.put, List.setIfInBounds_toArray, List.set_cons_zero, List.set_cons_succ]
      refine wpAnyH_ready (rs := [23]) (by kernel_rfl) (by simp) ?_
      refine AllReadyH.cons (o := { dst := some 32, op := Op.buildSlice 32 1 #[(0, Operand.tmp 31)], type := 32, pos := "ref.go:33", after := #[{ on := 22, ground := Ground.data }], guard := none }) rfl (fun K hK => ?_) AllReadyH.nil
      go_simp
      have rh3 := rh2.alloc (.cells #[Value.int .i64 v] 3)
      have cd0 : (u2.alloc (.cells #[Value.int .i64 v] 3)).cell? ⟨h, 0, none⟩ = some (Value.int .i64 c.wo) := rh3.cell 0 rfl
      have cd1 : (u2.alloc (.cells #[Value.int .i64 v] 3)).cell? ⟨h, 1, none⟩ = some (Value.int .i64 c.sl) := rh3.cell 1 rfl
      have cd2 : (u2.alloc (.cells #[Value.int .i64 v] 3)).cell? ⟨h, 2, none⟩ = some (Value.int .i64 c.st) := rh3.cell 2 rfl
      have cd3 : (u2.alloc (.cells #[Value.int .i64 v] 3)).cell? ⟨h, 3, none⟩ = some (Value.int .i64 c.wa) := rh3.cell 3 rfl
      have cd4 : (u2.alloc (.cells #[Value.int .i64 v] 3)).cell? ⟨h, 4, none⟩ = some (Value.int .i64 c.us) := rh3.cell 4 rfl
      have cd5 : (u2.alloc (.cells #[Value.int .i64 v] 3)).cell? ⟨h, 5, none⟩ = some (Value.slice A S.length c1) := rh3.cell 5 rfl
      refine hK.out _ _ ⟨cd0, cd1, cd2, cd3, cd4⟩ (fun hS => ?_)
      clear hK K
      try simp only [Act.put, List.setIfInBounds_toArray, List.set_cons_zero, List.set_cons_succ]
      refine wpAnyH_ready (rs := [24]) (by kernel_rfl) (by simp) ?_
      refine AllReadyH.cons (o := { dst := some 33, op := Op.call { callee := Callee.builtin Builtin.append, args := #[Operand.tmp 13, Operand.tmp 32], argTypes := #[32, 32] }, type := 32, pos := "ref.go:33", after := #[{ on := 4, ground := Ground.data }, { on := 23, ground := Ground.data }, { on := 22, ground := Ground.chain }], guard := none }) rfl (fun K hK => ?_) AllReadyH.nil
      (rw [if_pos (by kernel_rfl)]; refine wp_append_run (.tmp 13) (.tmp 32) 32 rfl _ _ rfl rfl _ _ hrun ?_)
      have hX2 := hX (Ow h rb) ow_in
      have rh9 := rh2.spx hX2 (ow_not h rb)
      have HM9 := Lib.hid (HM2.out.spx hX2 (fun h => hrg (ow_only h).symm) (fun h => hrw (ow_only h).symm))
      have hS9 := hS2.trans (hX2.more (Y := [h, rb, g, gw]) (fun k hk => by rw [ow_only hk]; simp))
      have HO9 := Lib.hid HO
      clear HO hX hX2
      have ce0 : w9.cell? ⟨h, 0, none⟩ = some (Value.int .i64 c.wo) := rh9.cell 0 rfl
      have ce1 : w9.cell? ⟨h, 1, none⟩ = some (Value.int .i64 c.sl) := rh9.cell 1 rfl
      have ce2 : w9.cell? ⟨h, 2, none⟩ = some (Value.int .i64 c.st) := rh9.cell 2 rfl
      have ce3 : w9.cell? ⟨h, 3, none⟩ = some (Value.int .i64 c.wa) := rh9.cell 3 rfl
      have ce4 : w9.cell? ⟨h, 4, none⟩ = some (Value.int .i64 c.us) := rh9.cell 4 rfl
      have ce5 : w9.cell? ⟨h, 5, none⟩ = some (Value.slice A S.length c1) := rh9.cell 5 rfl
      have g95 := rh9.frozen 5
      refine hK.out _ _ ⟨ce0, ce1, ce2, ce3, ce4⟩ (fun hS => ?_)
      clear hK K
      try simp only [Act.put, List.setIfInBounds_toArray, List.set_cons_zero, List.set_cons_succ]
      refine wpAnyH_take (i := 25) (oi := { dst := some 34, op := Op.nilCheck (Operand.tmp 9), type := 0, pos := "ref.go:33", after := #[{ on := 0, ground := Ground.data }, { on := 0, ground := Ground.phase }, { on := 1, ground := Ground.phase }, { on := 2, ground := Ground.phase }, { on := 3, ground := Ground.phase }, { on := 4, ground := Ground.phase }, { on := 5, ground := Ground.phase }, { on := 6, ground := Ground.phase }, { on := 7, ground := Ground.phase }, { on := 8, ground := Ground.phase }, { on := 9, ground := Ground.phase }, { on := 10, ground := Ground.phase }, { on := 11, ground := Ground.phase }, { on := 12, ground := Ground.phase }, { on := 13, ground := Ground.phase }, { on := 14, ground := Ground.phase }, { on := 15, ground := Ground.phase }, { on := 16, ground := Ground.phase }, { on := 17, ground := Ground.phase }, { on := 18, ground := Ground.phase }, { on := 19, ground := Ground.phase }, { on := 20, ground := Ground.phase }, { on := 21, ground := Ground.phase }, { on := 22, ground := Ground.phase }, { on := 23, ground := Ground.phase }, { on := 24, ground := Ground.phase }], guard := none }) (v := ?v25_49) rfl (by kernel_rfl) (by kernel_rfl) (by kernel_rfl) (fun _ _ _ h => h) (Or.inl ⟨by rfl, ?hy25_49⟩) hS ?rest25_49
      case hy25_49 =>
        intro w hSw
        (try dsimp only at hSw)
        go_simp
        try with_reducible rfl
      try simp only [Act.put, List.setIfInBounds_toArray, List.set_cons_zero, List.set_cons_succ]
      refine wpAnyH_take (i := 26) (oi := { dst := some 35, op := Op.fieldAddr 44 (Operand.tmp 34) 1, type := 0, pos := "ref.go:33", after := #[{ on := 25, ground := Ground.data }, { on := 0, ground := Ground.phase }, { on := 1, ground := Ground.phase }, { on := 2, ground := Ground.phase }, { on := 3, ground := Ground.phase }, { on := 4, ground := Ground.phase }, { on := 5, ground := Ground.phase }, { on := 6, ground := Ground.phase }, { on := 7, ground := Ground.phase }, { on := 8, ground := Ground.phase }, { on := 9, ground := Ground.phase }, { on := 10, ground := Ground.phase }, { on := 11, ground := Ground.phase }, { on := 12, ground := Ground.phase }, { on := 13, ground := Ground.phase }, { on := 14, ground := Ground.phase }, { on := 15, ground := Ground.phase }, { on := 16, ground := Ground.phase }, { on := 17, ground := Ground.phase }, { on := 18, ground := Ground.phase }, { on := 19, ground := Ground.phase }, { on := 20, ground := Ground.phase }, { on := 21, ground := Ground.phase }, { on := 22, ground := Ground.phase }, { on := 23, ground := Ground.phase }, { on := 24, ground := Ground.phase }], guard := none }) (v := ?v26_50) rfl (by kernel_rfl) (by kernel_rfl) (by kernel_rfl) (fun _ _ _ h => h) (Or.inl ⟨by rfl, ?hy26_50⟩) hS ?rest26_50
      case hy26_50 =>
        intro w hSw
        (try dsimp only at hSw)
        go_simp
        try with_reducible rfl
      try simp only [Act.put, List.setIfInBounds_toArray, List.set_cons_zero, List.set_cons_succ]
      refine wpAnyH_ready (rs := [27]) (by kernel_rfl) (by simp) ?_
      refine AllReadyH.cons (o := { dst := none, op := Op.store 32 (Operand.tmp 35) (Operand.tmp 33), type := 0, pos := "ref.go:33", after := #[{ on := 26, ground := Ground.data }, { on := 24, ground := Ground.data }, { on := 24, ground := Ground.chain }, { on := 0, ground := Ground.phase }, { on := 1, ground := Ground.phase }, { on := 2, ground := Ground.phase }, { on := 3, ground := Ground.phase }, { on := 4, ground := Ground.phase }, { on := 5, ground := Ground.phase }, { on := 6, ground := Ground.phase }, { on := 7, ground := Ground.phase }, { on := 8, ground := Ground.phase }, { on := 9, ground := Ground.phase }, { on := 10, ground := Ground.phase }, { on := 11, ground := Ground.phase }, { on := 12, ground := Ground.phase }, { on := 13, ground := Ground.phase }, { on := 14, ground := Ground.phase }, { on := 15, ground := Ground.phase }, { on := 16, ground := Ground.phase }, { on := 17, ground := Ground.phase }, { on := 18, ground := Ground.phase }, { on := 19, ground := Ground.phase }, { on := 20, ground := Ground.phase }, { on := 21, ground := Ground.phase }, { on := 22, ground := Ground.phase }, { on := 23, ground := Ground.phase }, { on := 24, ground := Ground.phase }], guard := none }) rfl (fun K hK => ?_) AllReadyH.nil
      go_simp
      have rhZ := rh9.put 5 (Value.slice (some ⟨b9, 0, none⟩) (S.length + 1) cc)
      have hss : SpX [h] w9 (w9.setCell ⟨h, 5, none⟩ (Value.slice (some ⟨b9, 0, none⟩) (S.length + 1) cc)) := sp_set
      have HOZ := Lib.hid (HO9.out.spx hss (.inr (by simp <;> omega)))
      have HMZ := Lib.hid (HM9.out.spx hss (by simp <;> omega) (by simp <;> omega))
      have hSZ := hS9.trans (hss.more (Y := [h, rb, g, gw]) (by simp <;> omega))
      clear hss
      have cg0 : (w9.setCell ⟨h, 5, none⟩ (Value.slice (some ⟨b9, 0, none⟩) (S.length + 1) cc)).cell? ⟨h, 0, none⟩ = some (Value.int .i64 c.wo) := rhZ.cell 0 rfl
      have cg1 : (w9.setCell ⟨h, 5, none⟩ (Value.slice (some ⟨b9, 0, none⟩) (S.length + 1) cc)).cell? ⟨h, 1, none⟩ = some (Value.int .i64 c.sl) := rhZ.cell 1 rfl
      have cg2 : (w9.setCell ⟨h, 5, none⟩ (Value.slice (some ⟨b9, 0, none⟩) (S.length + 1) cc)).cell? ⟨h, 2, none⟩ = some (Value.int .i64 c.st) := rhZ.cell 2 rfl
      have cg3 : (w9.setCell ⟨h, 5, none⟩ (Value.slice (some ⟨b9, 0, none⟩) (S.length + 1) cc)).cell? ⟨h, 3, none⟩ = some (Value.int .i64 c.wa) := rhZ.cell 3 rfl
      have cg4 : (w9.setCell ⟨h, 5, none⟩ (Value.slice (some ⟨b9, 0, none⟩) (S.length + 1) cc)).cell? ⟨h, 4, none⟩ = some (Value.int .i64 c.us) := rhZ.cell 4 rfl
      refine hK.out _ _ ⟨cg0, cg1, cg2, cg3, cg4⟩ (fun hS => ?_)
      clear hK K
      try simp only [Act.put, List.setIfInBounds_toArray, List.set_cons_zero, List.set_cons_succ]
      refine wpAnyH_done (by kernel_rfl) ?_ _
      generalize (w9.setCell ⟨h, 5, none⟩ (Value.slice (some ⟨b9, 0, none⟩) (S.length + 1) cc)) = w5 at *
      clear cg0 cg1 cg2 cg3 cg4
      have hRZ : RfAt w5 h b9 c (S ++ [v]) := ⟨_, cc, HRZ.out _ rhZ, HOL.out _ HOZ.out⟩
      go_wp2_with fail
      refine (rdone_any h b9 c n (S ++ [v]) _ hRZ Hc.out Hn.out hk99).mono ?_
      rintro e w6 ⟨rfl, hb⟩
      go_wp2
      go_ret
      refine ⟨b9, by rw [HV.out]; rfl, by rw [HV.out]; exact hRZ.on hb, by rw [HT.out]; exact HMZ.out.on hb, hSZ.on hb, by omega⟩
    refine AllReadyH.cons (o := { dst := some 32, op := Op.buildSlice 32 1 #[(0, Operand.tmp 31)], type := 32, pos := "ref.go:33", after := #[{ on := 22, ground := Ground.data }], guard := none }) rfl (fun K hK => ?_) AllReadyH.nil
    go_simp
    have rh3 := rh2.alloc (.cells #[Value.int .i64 v] 3)
    have cd0 : (u2.alloc (.cells #[Value.int .i64 v] 3)).cell? ⟨h, 0, none⟩ = some (Value.int .i64 c.wo) := rh3.cell 0 rfl
    have cd1 : (u2.alloc (.cells #[Value.int .i64 v] 3)).cell? ⟨h, 1, none⟩ = some (Value.int .i64 c.sl) := rh3.cell 1 rfl
    have cd2 : (u2.alloc (.cells #[Value.int .i64 v] 3)).cell? ⟨h, 2, none⟩ = some (Value.int .i64 c.st) := rh3.cell 2 rfl
    have cd3 : (u2.alloc (.cells #[Value.int .i64 v] 3)).cell? ⟨h, 3, none⟩ = some (Value.int .i64 c.wa) := rh3.cell 3 rfl
    have cd4 : (u2.alloc (.cells #[Value.int .i64 v] 3)).cell? ⟨h, 4, none⟩ = some (Value.int .i64 c.us) := rh3.cell 4 rfl
    have cd5 : (u2.alloc (.cells #[Value.int .i64 v] 3)).cell? ⟨h, 5, none⟩ = some (Value.slice A S.length c1) := rh3.cell 5 rfl
    refine hK.out _ _ ⟨cd0, cd1, cd2, cd3, cd4⟩ (fun hS => ?_)
    clear hK K
    try simp only [Act.put, List.setIfInBounds_toArray, List.set_cons_zero, List.set_cons_succ]
    refine wpAnyH_ready (rs := [4]) (by kernel_rfl) (by simp) ?_
    refine AllReadyH.cons (o := { dst := some 13, op := Op.load 32 (Operand.tmp 12), type := 32, pos := "ref.go:33", after := #[{ on := 3, ground := Ground.data }], guard := none }) rfl (fun K hK => ?_) AllReadyH.nil
    go_simp
    refine hK.out _ _ ⟨cd0, cd1, cd2, cd3, cd4⟩ (fun hS => ?_)
    clear hK K
    try simp only [Act.put, List.setIfInBounds_toArray, List.set_cons_zero, List.set_cons_succ]
    refine wpAnyH_ready (rs := [24]) (by kernel_rfl) (by simp) ?_
    refine AllReadyH.cons (o := { dst := some 33, op := Op.call { callee := Callee.builtin Builtin.append, args := #[Operand.tmp 13, Operand.tmp 32], argTypes := #[32, 32] }, type := 32, pos := "ref.go:33", after := #[{ on := 4, ground := Ground.data }, { on := 23, ground := Ground.data }, { on := 22, ground := Ground.chain }], guard := none }) rfl (fun K hK => ?_) AllReadyH.nil
    (rw [if_pos (by kernel_rfl)]; refine wp_append_run (.tmp 13) (.tmp 32) 32 rfl _ _ rfl rfl _ _ hrun ?_)
    have hX2 := hX (Ow h rb) ow_in
    have rh9 := rh2.spx hX2 (ow_not h rb)
    have HM9 := Lib.hid (HM2.out.spx hX2 (fun h => hrg (ow_only h).symm) (fun h => hrw (ow_only h).symm))
    have hS9 := hS2.trans (hX2.more (Y := [h, rb, g, gw]) (fun k hk => by rw [ow_only hk]; simp))
    have HO9 := Lib.hid HO
    clear HO hX hX2
    have ce0 : w9.cell? ⟨h, 0, none⟩ = some (Value.int .i64 c.wo) := rh9.cell 0 rfl
    have ce1 : w9.cell? ⟨h, 1, none⟩ = some (Value.int .i64 c.sl) := rh9.cell 1 rfl
    have ce2 : w9.cell? ⟨h, 2, none⟩ = some (Value.int .i64 c.st) := rh9.cell 2 rfl
    have ce3 : w9.cell? ⟨h, 3, none⟩ = some (Value.int .i64 c.wa) := rh9.cell 3 rfl
    have ce4 : w9.cell? ⟨h, 4, none⟩ = some (Value.int .i64 c.us) := rh9.cell 4 rfl
    have ce5 : w9.cell? ⟨h, 5, none⟩ = some (Value.slice A S.length c1) := rh9.cell 5 rfl
    have g95 := rh9.frozen 5
    refine hK.out _ _ ⟨ce0, ce1, ce2, ce3, ce4⟩ (fun hS => ?_)
    clear hK K
    try simp only [Act.put, List.setIfInBounds_toArray, List.set_cons_zero, List.set_cons_succ]
    refine wpAnyH_take (i := 25) (oi := { dst := some 34, op := Op.nilCheck (Operand.tmp 9), type := 0, pos := "ref.go:33", after := #[{ on := 0, ground := Ground.data }, { on := 0, ground := Ground.phase }, { on := 1, ground := Ground.phase }, { on := 2, ground := Ground.phase }, { on := 3, ground := Ground.phase }, { on := 4, ground := Ground.phase }, { on := 5, ground := Ground.phase }, { on := 6, ground := Ground.phase }, { on := 7, ground := Ground.phase }, { on := 8, ground := Ground.phase }, { on := 9, ground := Ground.phase }, { on := 10, ground := Ground.phase }, { on := 11, ground := Ground.phase }, { on := 12, ground := Ground.phase }, { on := 13, ground := Ground.phase }, { on := 14, ground := Ground.phase }, { on := 15, ground := Ground.phase }, { on := 16, ground := Ground.phase }, { on := 17, ground := Ground.phase }, { on := 18, ground := Ground.phase }, { on := 19, ground := Ground.phase }, { on := 20, ground := Ground.phase }, { on := 21, ground := Ground.phase }, { on := 22, ground := Ground.phase }, { on := 23, ground := Ground.phase }, { on := 24, ground := Ground.phase }], guard := none }) (v := ?v25_51) rfl (by kernel_rfl) (by kernel_rfl) (by kernel_rfl) (fun _ _ _ h => h) (Or.inl ⟨by rfl, ?hy25_51⟩) hS ?rest25_51
    case hy25_51 =>
      intro w hSw
      (try dsimp only at hSw)
      go_simp
      try with_reducible rfl
    try simp only [Act.put, List.setIfInBounds_toArray, List.set_cons_zero, List.set_cons_succ]
    refine wpAnyH_take (i := 26) (oi := { dst := some 35, op := Op.fieldAddr 44 (Operand.tmp 34) 1, type := 0, pos := "ref.go:33", after := #[{ on := 25, ground := Ground.data }, { on := 0, ground := Ground.phase }, { on := 1, ground := Ground.phase }, { on := 2, ground := Ground.phase }, { on := 3, ground := Ground.phase }, { on := 4, ground := Ground.phase }, { on := 5, ground := Ground.phase }, { on := 6, ground := Ground.phase }, { on := 7, ground := Ground.phase }, { on := 8, ground := Ground.phase }, { on := 9, ground := Ground.phase }, { on := 10, ground := Ground.phase }, { on := 11, ground := Ground.phase }, { on := 12, ground := Ground.phase }, { on := 13, ground := Ground.phase }, { on := 14, ground := Ground.phase }, { on := 15, ground := Ground.phase }, { on := 16, ground := Ground.phase }, { on := 17, ground := Ground.phase }, { on := 18, ground := Ground.phase }, { on := 19, ground := Ground.phase }, { on := 20, ground := Ground.phase }, { on := 21, ground := Ground.phase }, { on := 22, ground := Ground.phase }, { on := 23, ground := Ground.phase }, { on := 24, ground := Ground.phase }], guard := none }) (v := ?v26_52) rfl (by kernel_rfl) (by kernel_rfl) (by kernel_rfl) (fun _ _ _ h => h) (Or.inl ⟨by rfl, ?hy26_52⟩) hS ?rest26_52
    case hy26_52 =>
      intro w hSw
      (try dsimp only at hSw)
      go_simp
      try with_reducible rfl
    try simp only [Act.put, List.setIfInBounds_toArray, List.set_cons_zero, List.set_cons_succ]
    refine wpAnyH_ready (rs := [27]) (by kernel_rfl) (by simp) ?_
    refine AllReadyH.cons (o := { dst := none, op := Op.store 32 (Operand.tmp 35) (Operand.tmp 33), type := 0, pos := "ref.go:33", after := #[{ on := 26, ground := Ground.data }, { on := 24, ground := Ground.data }, { on := 24, ground := Ground.chain }, { on := 0, ground := Ground.phase }, { on := 1, ground := Ground.phase }, { on := 2, ground := Ground.phase }, { on := 3, ground := Ground.phase }, { on := 4, ground := Ground.phase }, { on := 5, ground := Ground.phase }, { on := 6, ground := Ground.phase }, { on := 7, ground := Ground.phase }, { on := 8, ground := Ground.phase }, { on := 9, ground := Ground.phase }, { on := 10, ground := Ground.phase }, { on := 11, ground := Ground.phase }, { on := 12, ground := Ground.phase }, { on := 13, ground := Ground.phase }, { on := 14, ground := Ground.phase }, { on := 15, ground := Ground.phase }, { on := 16, ground := Ground.phase }, { on := 17, ground := Ground.phase }, { on := 18, ground := Ground.phase }, { on := 19, ground := Ground.phase }, { on := 20, ground := Ground.phase }, { on := 21, ground := Ground.phase }, { on := 22, ground := Ground.phase }, { on := 23, ground := Ground.phase }, { on := 24, ground := Ground.phase }], guard := none }) rfl (fun K hK => ?_) AllReadyH.nil
    go_simp
    have rhZ := rh9.put 5 (Value.slice (some ⟨b9, 0, none⟩) (S.length + 1) cc)
    have hss : SpX [h] w9 (w9.setCell ⟨h, 5, none⟩ (Value.slice (some ⟨b9, 0, none⟩) (S.length + 1) cc)) := sp_set
    have HOZ := Lib.hid (HO9.out.spx hss (.inr (by simp <;> omega)))
    have HMZ := Lib.hid (HM9.out.spx hss (by simp <;> omega) (by simp <;> omega))
    have hSZ := hS9.trans (hss.more (Y := [h, rb, g, gw]) (by simp <;> omega))
    clear hss
    have cg0 : (w9.setCell ⟨h, 5, none⟩ (Value.slice (some ⟨b9, 0, none⟩) (S.length + 1) cc)).cell? ⟨h, 0, none⟩ = some (Value.int .i64 c.wo) := rhZ.cell 0 rfl
    have cg1 : (w9.setCell ⟨h, 5, none⟩ (Value.slice (some ⟨b9, 0, none⟩) (S.length + 1) cc)).cell? ⟨h, 1, none⟩ = some (Value.int .i64 c.sl) := rhZ.cell 1 rfl
    have cg2 : (w9.setCell ⟨h, 5, none⟩ (Value.slice (some ⟨b9, 0, none⟩) (S.length + 1) cc)).cell? ⟨h, 2, none⟩ = some (Value.int .i64 c.st) := rhZ.cell 2 rfl
    have cg3 : (w9.setCell ⟨h, 5, none⟩ (Value.slice (some ⟨b9, 0, none⟩) (S.length + 1) cc)).cell? ⟨h, 3, none⟩ = some (Value.int .i64 c.wa) := rhZ.cell 3 rfl
    have cg4 : (w9.setCell ⟨h, 5, none⟩ (Value.slice (some ⟨b9, 0, none⟩) (S.length + 1) cc)).cell? ⟨h, 4, none⟩ = some (Value.int .i64 c.us) := rhZ.cell 4 rfl
    refine hK.out _ _ ⟨cg0, cg1, cg2, cg3, cg4⟩ (fun hS => ?_)
    clear hK K
    try simp only [Act.put, List.setIfInBounds_toArray, List.set_cons_zero, List.set_cons_succ]
    refine wpAnyH_done (by kernel_rfl) ?_ _
    generalize (w9.setCell ⟨h, 5, none⟩ (Value.slice (some ⟨b9, 0, none⟩) (S.length + 1) cc)) = w5 at *
    clear cg0 cg1 cg2 cg3 cg4
    have hRZ : RfAt w5 h b9 c (S ++ [v]) := ⟨_, cc, HRZ.out _ rhZ, HOL.out _ HOZ.out⟩
    go_wp2_with fail
    refine (rdone_any h b9 c n (S ++ [v]) _ hRZ Hc.out Hn.out hk99).mono ?_
    rintro e w6 ⟨rfl, hb⟩
    go_wp2
    go_ret
    refine ⟨b9, by rw [HV.out]; rfl, by rw [HV.out]; exact hRZ.on hb, by rw [HT.out]; exact HMZ.out.on hb, hSZ.on hb, by omega⟩
end Go.Proofs.Ytalmadeibnekoaa
