/- One that looks at all slots: made, asked, a round ended; nothing else changes. -/
import Derived.Test.YtalmadeibnekoaaTwo
import Derived.Test.YtalmadeibnekoaaWr
namespace Go.Proofs.Ytalmadeibnekoaa
open Go.RowKit
attribute [local go_sem ↓] Go.wp_at_zero Go.wp_at_succ

/-- one that looks at all slots, in block f; what it saw lies in block sb, what it saw the round ahead in block ab (f, where there is none) -/
structure TwAt (w : World) (f sb ab : Nat) (c : Cf) (x : Tw) : Prop where
  row : ∃ A1 c1 A2 c2, RowAt w f 71 #[Value.int .i64 c.wo, Value.int .i64 c.sl, Value.int .i64 c.st, Value.int .i64 c.wa, Value.int .i64 c.us, Value.slice A1 x.se.length c1, Value.slice A2 x.ah.length c2, Value.int .i64 x.ro, Value.bool x.dn] ∧ Own w f sb A1 x.se.length c1 x.se ∧ Own w f ab A2 x.ah.length c2 x.ah
  ne : sb = ab → sb = f
theorem TwAt.lt {w : World} {f sb ab : Nat} {c : Cf} {x : Tw} (h : TwAt w f sb ab c x) : f < w.heap.size ∧ sb < w.heap.size ∧ ab < w.heap.size := by
  obtain ⟨⟨A1, c1, A2, c2, h1, h2, h3⟩, _⟩ := h
  exact ⟨h1.lt, h2.lt, h3.lt⟩
theorem TwAt.spx {w w' : World} {f sb ab : Nat} {c : Cf} {x : Tw} {X : List Nat} (h : TwAt w f sb ab c x) (hs : SpX X w w') (h1 : f ∉ X) (h2 : sb ∉ X) (h3 : ab ∉ X) : TwAt w' f sb ab c x := by
  obtain ⟨⟨A1, c1, A2, c2, k1, k2, k3⟩, k4⟩ := h
  exact ⟨⟨A1, c1, A2, c2, k1.spx hs h1, k2.spx hs (.inr h2), k3.spx hs (.inr h3)⟩, k4⟩
theorem TwAt.on {w w' : World} {f sb ab : Nat} {c : Cf} {x : Tw} (h : TwAt w f sb ab c x) (hb : Below w.heap.size w w') : TwAt w' f sb ab c x := h.spx (X := []) (.of_below hb) (by simp) (by simp) (by simp)
theorem TwAt.drew {w : World} {f sb ab : Nat} {c : Cf} {x : Tw} (h : TwAt w f sb ab c x) : TwAt w.drew f sb ab c x := by
  obtain ⟨⟨A1, c1, A2, c2, k1, k2, k3⟩, k4⟩ := h
  exact ⟨⟨A1, c1, A2, c2, k1, k2.drew, k3.drew⟩, k4⟩
theorem TwAt.drewN {w : World} {f sb ab : Nat} {c : Cf} {x : Tw} (h : TwAt w f sb ab c x) (n : Nat) : TwAt (w.drewN n) f sb ab c x := h.on (bdrew (Below.refl _ _) n)
set_option maxRecDepth 100000 in
set_option maxHeartbeats 2000000 in
theorem tw_new (c : Cf) (w : World) : Calls Try.prog 11 #[Value.agg #[Value.int .i64 c.wo, Value.int .i64 c.sl, Value.int .i64 c.st, Value.int .i64 c.wa, Value.int .i64 c.us]] w fun e w' => ∃ f, e = .returned (.pointer (some ⟨f, 0, none⟩)) ∧ TwAt w' f f f c newT ∧ w.heap.size ≤ f ∧ Below w.heap.size w w' := by
  have hB := bst (bnew w (.cells #[Value.int .i64 c.wo, Value.int .i64 c.sl, Value.int .i64 c.st, Value.int .i64 c.wa, Value.int .i64 c.us] 31)) (bnew (w.alloc (.cells #[Value.int .i64 c.wo, Value.int .i64 c.sl, Value.int .i64 c.st, Value.int .i64 c.wa, Value.int .i64 c.us] 31)) (.cells #[Value.int .i64 c.wo, Value.int .i64 c.sl, Value.int .i64 c.st, Value.int .i64 c.wa, Value.int .i64 c.us, Value.slice none 0 0, Value.slice none 0 0, Value.int .i64 0, Value.bool false] 71))
  have hr := new2 w (.cells #[Value.int .i64 c.wo, Value.int .i64 c.sl, Value.int .i64 c.st, Value.int .i64 c.wa, Value.int .i64 c.us] 31) 71 #[Value.int .i64 c.wo, Value.int .i64 c.sl, Value.int .i64 c.st, Value.int .i64 c.wa, Value.int .i64 c.us, Value.slice none 0 0, Value.slice none 0 0, Value.int .i64 0, Value.bool false]
  go_enter Try.func11, Try.ntmps11
  go_wp2
  go_ret
  exact ⟨w.heap.size + 1, rfl, ⟨⟨none, 0, none, 0, hr, .nil _ _ hr.lt, .nil _ _ hr.lt⟩, fun _ => rfl⟩, by omega, hB⟩
set_option maxRecDepth 100000 in
set_option maxHeartbeats 2000000 in
theorem rounds_any (f sb ab : Nat) (c : Cf) (x : Tw) (w : World) (h : TwAt w f sb ab c x) : Calls Try.prog 17 #[.pointer (some ⟨f, 0, none⟩)] w fun e w' => e = .returned (.int .i64 x.ro) ∧ w = w' := by
  obtain ⟨⟨A1, c1, A2, c2, h1, _⟩, _⟩ := h
  have k7 := h1.cell 7 rfl
  go_enter Try.func17, Try.ntmps17
  go_wp2
  go_ret
  exact ⟨rfl, rfl⟩
set_option maxRecDepth 100000 in
set_option maxHeartbeats 2000000 in
theorem words_no (f sb ab : Nat) (c : Cf) (x : Tw) (w : World) (h : TwAt w f sb ab c x) (hd : x.dn = false) : Calls Try.prog 20 #[.pointer (some ⟨f, 0, none⟩)] w fun e w' => e = .returned (.slice none 0 0) ∧ w = w' := by
  obtain ⟨⟨A1, c1, A2, c2, h1, _⟩, _⟩ := h
  have k8 := h1.cell 8 rfl
  rw [hd] at k8
  clear hd
  go_enter Try.func20, Try.ntmps20
  go_wp2
  go_ret
  exact ⟨rfl, rfl⟩
set_option maxRecDepth 100000 in
set_option maxHeartbeats 2000000 in
theorem words_yes (f sb ab : Nat) (c : Cf) (x : Tw) (w : World) (h : TwAt w f sb ab c x) (hd : x.dn = true) (h1 : 1 ≤ x.ah.length) (h2 : x.ah.length ≤ 4096) : Calls Try.prog 20 #[.pointer (some ⟨f, 0, none⟩)] w (RetCopy w x.ah) := by
  obtain ⟨⟨A1, c1, A2, c2, k1, _, k3⟩, _⟩ := h
  have k6 := k1.cell 6 rfl
  have k8 := k1.cell 8 rfl
  rw [hd] at k8
  have HK := Lib.hid k3.is
  clear hd k3 k1
  go_enter Try.func20, Try.ntmps20
  go_wp2_with fail
  refine (copied_any A2 c2 x.ah.length x.ah _ rfl HK.out h1 h2).mono ?_
  rintro e w1 ⟨b, rfl, hr, hb1, hb⟩
  go_wp2_with fail
  go_ret
  exact ⟨b, rfl, hr, hb1, hb⟩
set_option maxRecDepth 100000 in
set_option maxHeartbeats 2000000 in
theorem end_any (f sb ab : Nat) (c : Cf) (x : Tw) (w : World) (h : TwAt w f sb ab c x) (hm1 : 1 ≤ x.se.length) (hm4 : x.se.length ≤ 1000) (hro : x.ro ≤ 1000000) :
    Calls Try.prog 33 #[.pointer (some ⟨f, 0, none⟩)] w fun e w' => e = .returned (.tuple #[]) ∧ ∃ ab', TwAt w' f sb ab' c ⟨[], x.se, x.ro + 1, decide (x.se = x.ah)⟩ ∧ SpX [f] w w' ∧ w.heap.size ≤ ab' := by
  obtain ⟨⟨A1, c1, A2, c2, h1, h2, h3⟩, h4⟩ := h
  obtain ⟨se, ah, ro, dn⟩ := x
  simp only at hm1 hm4 hro h1 h2 h3 ⊢
  obtain ⟨db, hdb⟩ : ∃ db, db = decide (se = ah) := ⟨_, rfl⟩
  rw [← hdb]
  have HD := Lib.hid hdb.symm
  clear hdb
  have hm : se.length ≤ 1000000 := by omega
  have hm4 : se.length ≤ 4096 := by omega
  have hnS : sb = f ∨ sb ≠ f := by omega
  have hnA : ab = f ∨ ab ≠ f := by omega
  obtain ⟨eA, hsf⟩ : A1 = some ⟨sb, 0, none⟩ ∧ sb ≠ f := by
    rcases h2.pl with ⟨e, _⟩ | e
    · exfalso
      have := h2.nil0 e
      have := h2.nc
      omega
    · exact e
  subst eA
  have hS0 : SpX [f] w w := .refl _ _
  have rf0 := h1
  have HS0 := Lib.hid h2
  have HA0 := Lib.hid h3
  clear h1 h2 h3 h4
  go_enter Try.func33, Try.ntmps33
  go_wp2_with fail
  have rf0 : RowAt w.drew f 71 #[Value.int .i64 c.wo, Value.int .i64 c.sl, Value.int .i64 c.st, Value.int .i64 c.wa, Value.int .i64 c.us, Value.slice (some ⟨sb, 0, none⟩) se.length c1, Value.slice A2 ah.length c2, Value.int .i64 ro, Value.bool dn] := rf0
  have HS0 := Lib.hid HS0.out.drew
  have HA0 := Lib.hid HA0.out.drew
  have hS0 := hS0.drew
  have cf0_0 : w.drew.cell? ⟨f, 0, none⟩ = some (Value.int .i64 c.wo) := rf0.cell 0 rfl
  have cf0_1 : w.drew.cell? ⟨f, 1, none⟩ = some (Value.int .i64 c.sl) := rf0.cell 1 rfl
  have cf0_2 : w.drew.cell? ⟨f, 2, none⟩ = some (Value.int .i64 c.st) := rf0.cell 2 rfl
  have cf0_3 : w.drew.cell? ⟨f, 3, none⟩ = some (Value.int .i64 c.wa) := rf0.cell 3 rfl
  have cf0_4 : w.drew.cell? ⟨f, 4, none⟩ = some (Value.int .i64 c.us) := rf0.cell 4 rfl
  have cf0_5 : w.drew.cell? ⟨f, 5, none⟩ = some (Value.slice (some ⟨sb, 0, none⟩) se.length c1) := rf0.cell 5 rfl
  have cf0_6 : w.drew.cell? ⟨f, 6, none⟩ = some (Value.slice A2 ah.length c2) := rf0.cell 6 rfl
  have cf0_7 : w.drew.cell? ⟨f, 7, none⟩ = some (Value.int .i64 ro) := rf0.cell 7 rfl
  have g0 := rf0.frozen 8
  refine wp_region_held_drew (S := (fun w' => w'.cell? ⟨f, 0, none⟩ = some (Value.int .i64 c.wo) ∧ w'.cell? ⟨f, 1, none⟩ = some (Value.int .i64 c.sl) ∧ w'.cell? ⟨f, 2, none⟩ = some (Value.int .i64 c.st) ∧ w'.cell? ⟨f, 3, none⟩ = some (Value.int .i64 c.wa) ∧ w'.cell? ⟨f, 4, none⟩ = some (Value.int .i64 c.us) ∧ w'.cell? ⟨f, 5, none⟩ = some (Value.slice (some ⟨sb, 0, none⟩) se.length c1) ∧ w'.cell? ⟨f, 6, none⟩ = some (Value.slice A2 ah.length c2) ∧ w'.cell? ⟨f, 7, none⟩ = some (Value.int .i64 ro))) (by kernel_rfl) ⟨cf0_0, cf0_1, cf0_2, cf0_3, cf0_4, cf0_5, cf0_6, cf0_7⟩ (fun hS => ?_)
  generalize w.drew = u0 at *
  refine wpAnyH_take (i := 0) (oi := { dst := some 2, op := Op.move (Operand.tmp 0), type := 37, pos := "twice.go:48", after := #[], guard := none }) (v := ?v0_1) rfl (by kernel_rfl) (by kernel_rfl) (by kernel_rfl) (fun _ _ _ h => h) (Or.inl ⟨by rfl, ?hy0_1⟩) hS ?rest0_1
  case hy0_1 =>
    intro w hSw
    (try dsimp only at hSw)
    go_simp
    try with_reducible rfl
  try simp only [Act.put, List.setIfInBounds_toArray, List.set_cons_zero, List.set_cons_succ]
  refine wpAnyH_take (i := 1) (oi := { dst := some 3, op := Op.move (Operand.tmp 0), type := 37, pos := "twice.go:48", after := #[], guard := none }) (v := ?v1_2) rfl (by kernel_rfl) (by kernel_rfl) (by kernel_rfl) (fun _ _ _ h => h) (Or.inl ⟨by rfl, ?hy1_2⟩) hS ?rest1_2
  case hy1_2 =>
    intro w hSw
    (try dsimp only at hSw)
    go_simp
    try with_reducible rfl
  try simp only [Act.put, List.setIfInBounds_toArray, List.set_cons_zero, List.set_cons_succ]
  refine wpAnyH_take (i := 2) (oi := { dst := some 4, op := Op.nilCheck (Operand.tmp 3), type := 0, pos := "twice.go:48", after := #[{ on := 1, ground := Ground.data }], guard := none }) (v := ?v2_3) rfl (by kernel_rfl) (by kernel_rfl) (by kernel_rfl) (fun _ _ _ h => h) (Or.inl ⟨by rfl, ?hy2_3⟩) hS ?rest2_3
  case hy2_3 =>
    intro w hSw
    (try dsimp only at hSw)
    go_simp
    try with_reducible rfl
  try simp only [Act.put, List.setIfInBounds_toArray, List.set_cons_zero, List.set_cons_succ]
  refine wpAnyH_take (i := 3) (oi := { dst := some 5, op := Op.fieldAddr 71 (Operand.tmp 4) 1, type := 0, pos := "twice.go:48", after := #[{ on := 2, ground := Ground.data }], guard := none }) (v := ?v3_4) rfl (by kernel_rfl) (by kernel_rfl) (by kernel_rfl) (fun _ _ _ h => h) (Or.inl ⟨by rfl, ?hy3_4⟩) hS ?rest3_4
  case hy3_4 =>
    intro w hSw
    (try dsimp only at hSw)
    go_simp
    try with_reducible rfl
  try simp only [Act.put, List.setIfInBounds_toArray, List.set_cons_zero, List.set_cons_succ]
  refine wpAnyH_take (i := 4) (oi := { dst := some 6, op := Op.load 32 (Operand.tmp 5), type := 32, pos := "twice.go:48", after := #[{ on := 3, ground := Ground.data }], guard := none }) (v := ?v4_5) rfl (by kernel_rfl) (by kernel_rfl) (by kernel_rfl) (fun _ _ _ h => h) (Or.inl ⟨by rfl, ?hy4_5⟩) hS ?rest4_5
  case hy4_5 =>
    intro w hSw
    (try dsimp only at hSw)
    go_simp
    try with_reducible rfl
  try simp only [Act.put, List.setIfInBounds_toArray, List.set_cons_zero, List.set_cons_succ]
  refine wpAnyH_take (i := 5) (oi := { dst := some 7, op := Op.move (Operand.tmp 0), type := 37, pos := "twice.go:48", after := #[], guard := none }) (v := ?v5_6) rfl (by kernel_rfl) (by kernel_rfl) (by kernel_rfl) (fun _ _ _ h => h) (Or.inl ⟨by rfl, ?hy5_6⟩) hS ?rest5_6
  case hy5_6 =>
    intro w hSw
    (try dsimp only at hSw)
    go_simp
    try with_reducible rfl
  try simp only [Act.put, List.setIfInBounds_toArray, List.set_cons_zero, List.set_cons_succ]
  refine wpAnyH_take (i := 6) (oi := { dst := some 8, op := Op.nilCheck (Operand.tmp 7), type := 0, pos := "twice.go:48", after := #[{ on := 5, ground := Ground.data }], guard := none }) (v := ?v6_7) rfl (by kernel_rfl) (by kernel_rfl) (by kernel_rfl) (fun _ _ _ h => h) (Or.inl ⟨by rfl, ?hy6_7⟩) hS ?rest6_7
  case hy6_7 =>
    intro w hSw
    (try dsimp only at hSw)
    go_simp
    try with_reducible rfl
  try simp only [Act.put, List.setIfInBounds_toArray, List.set_cons_zero, List.set_cons_succ]
  refine wpAnyH_take (i := 7) (oi := { dst := some 9, op := Op.fieldAddr 71 (Operand.tmp 8) 2, type := 0, pos := "twice.go:48", after := #[{ on := 6, ground := Ground.data }], guard := none }) (v := ?v7_8) rfl (by kernel_rfl) (by kernel_rfl) (by kernel_rfl) (fun _ _ _ h => h) (Or.inl ⟨by rfl, ?hy7_8⟩) hS ?rest7_8
  case hy7_8 =>
    intro w hSw
    (try dsimp only at hSw)
    go_simp
    try with_reducible rfl
  try simp only [Act.put, List.setIfInBounds_toArray, List.set_cons_zero, List.set_cons_succ]
  refine wpAnyH_take (i := 8) (oi := { dst := some 10, op := Op.load 32 (Operand.tmp 9), type := 32, pos := "twice.go:48", after := #[{ on := 7, ground := Ground.data }], guard := none }) (v := ?v8_9) rfl (by kernel_rfl) (by kernel_rfl) (by kernel_rfl) (fun _ _ _ h => h) (Or.inl ⟨by rfl, ?hy8_9⟩) hS ?rest8_9
  case hy8_9 =>
    intro w hSw
    (try dsimp only at hSw)
    go_simp
    try with_reducible rfl
  try simp only [Act.put, List.setIfInBounds_toArray, List.set_cons_zero, List.set_cons_succ]
  refine wpAnyH_ready (rs := [9]) (by kernel_rfl) (by simp) ?_
  refine AllReadyH.cons (o := { dst := some 11, op := Op.call { callee := Callee.value (Operand.func 48), args := #[Operand.tmp 6, Operand.tmp 10], argTypes := #[32, 32] }, type := 4, pos := "twice.go:48", after := #[{ on := 4, ground := Ground.data }, { on := 8, ground := Ground.data }], guard := none }) rfl (fun K hK => ?_) AllReadyH.nil
  go_simp
  refine (equal_any (some ⟨sb, 0, none⟩) A2 c1 c2 se ah _ HS0.out.is HA0.out.is hm).mono ?_
  rintro e u1 ⟨rfl, hb⟩
  rw [HD.out]
  have rf1 := rf0.below hb rf0.lt
  have HS1 := Lib.hid (HS0.out.on hb)
  have HA1 := Lib.hid (HA0.out.on hb)
  have hS1 := hS0.on hb
  clear hb
  have cf1_0 : u1.cell? ⟨f, 0, none⟩ = some (Value.int .i64 c.wo) := rf1.cell 0 rfl
  have cf1_1 : u1.cell? ⟨f, 1, none⟩ = some (Value.int .i64 c.sl) := rf1.cell 1 rfl
  have cf1_2 : u1.cell? ⟨f, 2, none⟩ = some (Value.int .i64 c.st) := rf1.cell 2 rfl
  have cf1_3 : u1.cell? ⟨f, 3, none⟩ = some (Value.int .i64 c.wa) := rf1.cell 3 rfl
  have cf1_4 : u1.cell? ⟨f, 4, none⟩ = some (Value.int .i64 c.us) := rf1.cell 4 rfl
  have cf1_5 : u1.cell? ⟨f, 5, none⟩ = some (Value.slice (some ⟨sb, 0, none⟩) se.length c1) := rf1.cell 5 rfl
  have cf1_6 : u1.cell? ⟨f, 6, none⟩ = some (Value.slice A2 ah.length c2) := rf1.cell 6 rfl
  have cf1_7 : u1.cell? ⟨f, 7, none⟩ = some (Value.int .i64 ro) := rf1.cell 7 rfl
  have g1 := rf1.frozen 8
  have k18 : u1.cell? ⟨f, 8, none⟩ = some (Value.bool dn) := rf1.cell 8 rfl
  refine hK.out _ _ ⟨cf1_0, cf1_1, cf1_2, cf1_3, cf1_4, cf1_5, cf1_6, cf1_7⟩ (fun hS => ?_)
  clear hK K
  try simp only [Act.put, List.setIfInBounds_toArray, List.set_cons_zero, List.set_cons_succ]
  refine wpAnyH_take (i := 10) (oi := { dst := some 12, op := Op.nilCheck (Operand.tmp 2), type := 0, pos := "twice.go:48", after := #[{ on := 0, ground := Ground.data }, { on := 0, ground := Ground.phase }, { on := 1, ground := Ground.phase }, { on := 2, ground := Ground.phase }, { on := 3, ground := Ground.phase }, { on := 4, ground := Ground.phase }, { on := 5, ground := Ground.phase }, { on := 6, ground := Ground.phase }, { on := 7, ground := Ground.phase }, { on := 8, ground := Ground.phase }, { on := 9, ground := Ground.phase }], guard := none }) (v := ?v10_10) rfl (by kernel_rfl) (by kernel_rfl) (by kernel_rfl) (fun _ _ _ h => h) (Or.inl ⟨by rfl, ?hy10_10⟩) hS ?rest10_10
  case hy10_10 =>
    intro w hSw
    (try dsimp only at hSw)
    go_simp
    try with_reducible rfl
  try simp only [Act.put, List.setIfInBounds_toArray, List.set_cons_zero, List.set_cons_succ]
  refine wpAnyH_take (i := 11) (oi := { dst := some 13, op := Op.fieldAddr 71 (Operand.tmp 12) 4, type := 0, pos := "twice.go:48", after := #[{ on := 10, ground := Ground.data }, { on := 0, ground := Ground.phase }, { on := 1, ground := Ground.phase }, { on := 2, ground := Ground.phase }, { on := 3, ground := Ground.phase }, { on := 4, ground := Ground.phase }, { on := 5, ground := Ground.phase }, { on := 6, ground := Ground.phase }, { on := 7, ground := Ground.phase }, { on := 8, ground := Ground.phase }, { on := 9, ground := Ground.phase }], guard := none }) (v := ?v11_11) rfl (by kernel_rfl) (by kernel_rfl) (by kernel_rfl) (fun _ _ _ h => h) (Or.inl ⟨by rfl, ?hy11_11⟩) hS ?rest11_11
  case hy11_11 =>
    intro w hSw
    (try dsimp only at hSw)
    go_simp
    try with_reducible rfl
  try simp only [Act.put, List.setIfInBounds_toArray, List.set_cons_zero, List.set_cons_succ]
  refine wpAnyH_ready (rs := [12]) (by kernel_rfl) (by simp) ?_
  refine AllReadyH.cons (o := { dst := none, op := Op.store 4 (Operand.tmp 13) (Operand.tmp 11), type := 0, pos := "twice.go:48", after := #[{ on := 11, ground := Ground.data }, { on := 9, ground := Ground.data }, { on := 9, ground := Ground.chain }, { on := 0, ground := Ground.phase }, { on := 1, ground := Ground.phase }, { on := 2, ground := Ground.phase }, { on := 3, ground := Ground.phase }, { on := 4, ground := Ground.phase }, { on := 5, ground := Ground.phase }, { on := 6, ground := Ground.phase }, { on := 7, ground := Ground.phase }, { on := 8, ground := Ground.phase }, { on := 9, ground := Ground.phase }], guard := none }) rfl (fun K hK => ?_) AllReadyH.nil
  go_simp
  have rf2 := rf1.put 8 (.bool db)
  have hss : SpX [f] u1 (u1.setCell ⟨f, 8, none⟩ (.bool db)) := sp_set
  have HS2 := Lib.hid (HS1.out.spx hss (hnS.imp id fun e => by simpa using e))
  have HA2 := Lib.hid (HA1.out.spx hss (hnA.imp id fun e => by simpa using e))
  have hS2 := hS1.trans hss
  clear hss
  have cf2_0 : (u1.setCell ⟨f, 8, none⟩ (.bool db)).cell? ⟨f, 0, none⟩ = some (Value.int .i64 c.wo) := rf2.cell 0 rfl
  have cf2_1 : (u1.setCell ⟨f, 8, none⟩ (.bool db)).cell? ⟨f, 1, none⟩ = some (Value.int .i64 c.sl) := rf2.cell 1 rfl
  have cf2_2 : (u1.setCell ⟨f, 8, none⟩ (.bool db)).cell? ⟨f, 2, none⟩ = some (Value.int .i64 c.st) := rf2.cell 2 rfl
  have cf2_3 : (u1.setCell ⟨f, 8, none⟩ (.bool db)).cell? ⟨f, 3, none⟩ = some (Value.int .i64 c.wa) := rf2.cell 3 rfl
  have cf2_4 : (u1.setCell ⟨f, 8, none⟩ (.bool db)).cell? ⟨f, 4, none⟩ = some (Value.int .i64 c.us) := rf2.cell 4 rfl
  have cf2_5 : (u1.setCell ⟨f, 8, none⟩ (.bool db)).cell? ⟨f, 5, none⟩ = some (Value.slice (some ⟨sb, 0, none⟩) se.length c1) := rf2.cell 5 rfl
  have cf2_6 : (u1.setCell ⟨f, 8, none⟩ (.bool db)).cell? ⟨f, 6, none⟩ = some (Value.slice A2 ah.length c2) := rf2.cell 6 rfl
  have cf2_7 : (u1.setCell ⟨f, 8, none⟩ (.bool db)).cell? ⟨f, 7, none⟩ = some (Value.int .i64 ro) := rf2.cell 7 rfl
  have cf2_8 : (u1.setCell ⟨f, 8, none⟩ (.bool db)).cell? ⟨f, 8, none⟩ = some (Value.bool db) := rf2.cell 8 rfl
  refine hK.out _ _ ⟨cf2_0, cf2_1, cf2_2, cf2_3, cf2_4, cf2_5, cf2_6, cf2_7⟩ (fun hS => ?_)
  clear hK K
  try simp only [Act.put, List.setIfInBounds_toArray, List.set_cons_zero, List.set_cons_succ]
  refine wpAnyH_done (by kernel_rfl) ?_ _
  go_wp2_with fail
  refine (copied_any (some ⟨sb, 0, none⟩) c1 se.length se _ rfl HS2.out.is hm1 hm4).mono ?_
  rintro e u3 ⟨b, rfl, hrow, hbn, hb⟩
  have rf3 := rf2.below hb rf2.lt
  have HS3 := Lib.hid (HS2.out.on hb)
  have hS3 := hS2.on hb
  have l2 := rf2.lt
  have hbf : b ≠ f := by omega
  have HN3 := Lib.hid (own_row hrow hbf hm)
  have o5 := rf3.cell 5 rfl
  have o6 := rf3.cell 6 rfl
  have o7 := rf3.cell 7 rfl
  have g5 := rf3.frozen 5
  have g6 := rf3.frozen 6
  have g7 := rf3.frozen 7
  have hbs : w.heap.size ≤ b := by have := hS2.size; omega
  have rf4 := ((rf3.put 6 (.slice (some ⟨b, 0, none⟩) se.length se.length)).put 5 (.slice (some ⟨sb, 0, none⟩) 0 c1)).put 7 (.int .i64 (ro + 1))
  have hs4 : SpX [f] u3 (((u3.setCell ⟨f, 6, none⟩ (.slice (some ⟨b, 0, none⟩) se.length se.length)).setCell ⟨f, 5, none⟩ (.slice (some ⟨sb, 0, none⟩) 0 c1)).setCell ⟨f, 7, none⟩ (.int .i64 (ro + 1))) := (sp_set.trans sp_set).trans sp_set
  have HS4 := Lib.hid ((HS3.out.spx hs4 (hnS.imp id fun e => by simpa using e)).zero)
  have HN4 := Lib.hid (HN3.out.spx hs4 (.inr (by simpa using hbf)))
  have hS4 := hS3.trans hs4
  have hbne : sb = b → sb = f := fun e => by have := HS2.out.lt; omega
  clear HS3 HN3 hS3 hs4 HS2 HA2 hS2 rf2 hb hrow rf3 HS1 HA1 HS0 HA0
  clear cf2_0 cf2_1 cf2_2 cf2_3 cf2_4 cf2_5 cf2_6 cf2_7 cf2_8
  go_wp2
  go_end0
  exact ⟨rfl, b, ⟨⟨_, _, _, _, rf4, HS4.out, HN4.out⟩, hbne⟩, hS4, hbs⟩
end Go.Proofs.Ytalmadeibnekoaa
