/- A step of one that looks at all slots; nothing else changes. -/
import Derived.Test.YtalmadeibnekoaaTat
import Derived.Test.YtalmadeibnekoaaRSlots
namespace Go.Proofs.Ytalmadeibnekoaa
open Go.RowKit
attribute [local go_sem ↓] Go.wp_at_zero Go.wp_at_succ

def tch (x : Tw) : Nat := if x.dn then 0 else 1
/-- what a step tells, and leaves -/
def RetStep (f sb ab g gw c0 : Nat) (c : Cf) (n : Nat) (x : Tw) (s : St) (v : Int) (w : World) (e : Ending) (w' : World) : Prop :=
  ∃ sb' ab', e = .returned (.bool (stepT n x v).dn) ∧ TwAt w' f sb' ab' c (stepT n x v) ∧ MemAt w' g gw c0 ⟨s.ws, s.t + tch x⟩ ∧ SpX [f, sb, g, gw] w w' ∧ (sb' = sb ∨ w.heap.size ≤ sb') ∧ (ab' = ab ∨ w.heap.size ≤ ab')
set_option maxRecDepth 100000 in
set_option maxHeartbeats 2000000 in
theorem step_no (f sb ab g gw c0 : Nat) (c : Cf) (n F : Nat) (x : Tw) (s : St) (v : Int) (w : World) (hc : Rc c) (hn : c.sl = n) (hF : (3 + c.wo + c.wo).toNat = F) (hT : TwAt w f sb ab c x) (hok : x.Ok n) (hM : MemAt w g gw c0 s) (hd : x.dn = true) :
    Calls Try.prog 15 #[.pointer (some ⟨f, 0, none⟩), .pointer (some ⟨g, 0, none⟩)] w (RetStep f sb ab g gw c0 c n x s v w) := by
  obtain ⟨se, ah, ro, dn⟩ := x
  simp only at hd
  subst hd
  obtain rfl : se = [] := (hok.dn rfl).1
  have HF := Lib.hid (fun (w' : World) (hS : Below w.heap.size w w') => show RetStep f sb ab g gw c0 c n ⟨[], ah, ro, true⟩ s v w (.returned (.bool true)) w' from ⟨sb, ab, rfl, hT.on hS, hM.on hS, .of_below hS, .inl rfl, .inl rfl⟩)
  obtain ⟨⟨A1, c1, A2, c2, h1, h2, h3⟩, h4⟩ := hT
  obtain ⟨KK, hK⟩ : ∃ KK : Nat, slotI c ((0 : Nat) : Int) = (KK : Int) := ⟨F + 0, slotI_nat hc hF (by have := hc.sl; omega)⟩
  have HK := Lib.hid hK
  have Hc := Lib.hid hc
  have hB0 : Below w.heap.size w w.drew := (Below.refl _ w).drew
  have rf0 : RowAt w.drew f 71 #[Value.int .i64 c.wo, Value.int .i64 c.sl, Value.int .i64 c.st, Value.int .i64 c.wa, Value.int .i64 c.us, Value.slice A1 0 c1, Value.slice A2 ah.length c2, Value.int .i64 ro, Value.bool true] := h1
  clear hc hn hF hok hM h1 h2 h3 h4 hK
  go_enter Try.func15, Try.ntmps15
  go_wp2_with fail
  have cf0_0 : w.drew.cell? ⟨f, 0, none⟩ = some (Value.int .i64 c.wo) := rf0.cell 0 rfl
  have cf0_1 : w.drew.cell? ⟨f, 1, none⟩ = some (Value.int .i64 c.sl) := rf0.cell 1 rfl
  have cf0_2 : w.drew.cell? ⟨f, 2, none⟩ = some (Value.int .i64 c.st) := rf0.cell 2 rfl
  have cf0_3 : w.drew.cell? ⟨f, 3, none⟩ = some (Value.int .i64 c.wa) := rf0.cell 3 rfl
  have cf0_4 : w.drew.cell? ⟨f, 4, none⟩ = some (Value.int .i64 c.us) := rf0.cell 4 rfl
  have cf0_5 : w.drew.cell? ⟨f, 5, none⟩ = some (Value.slice A1 0 c1) := rf0.cell 5 rfl
  have cf0_6 : w.drew.cell? ⟨f, 6, none⟩ = some (Value.slice A2 ah.length c2) := rf0.cell 6 rfl
  have cf0_7 : w.drew.cell? ⟨f, 7, none⟩ = some (Value.int .i64 ro) := rf0.cell 7 rfl
  have cf0_8 : w.drew.cell? ⟨f, 8, none⟩ = some (Value.bool true) := rf0.cell 8 rfl
  refine wp_region_held_drew (S := (fun w' => w'.cell? ⟨f, 0, none⟩ = some (Value.int .i64 c.wo) ∧ w'.cell? ⟨f, 1, none⟩ = some (Value.int .i64 c.sl) ∧ w'.cell? ⟨f, 2, none⟩ = some (Value.int .i64 c.st) ∧ w'.cell? ⟨f, 3, none⟩ = some (Value.int .i64 c.wa) ∧ w'.cell? ⟨f, 4, none⟩ = some (Value.int .i64 c.us) ∧ w'.cell? ⟨f, 5, none⟩ = some (Value.slice A1 0 c1) ∧ w'.cell? ⟨f, 6, none⟩ = some (Value.slice A2 ah.length c2) ∧ w'.cell? ⟨f, 7, none⟩ = some (Value.int .i64 ro) ∧ w'.cell? ⟨f, 8, none⟩ = some (Value.bool true))) (by kernel_rfl) ⟨cf0_0, cf0_1, cf0_2, cf0_3, cf0_4, cf0_5, cf0_6, cf0_7, cf0_8⟩ (fun hS => ?_)
  generalize w.drew = u0 at *
  refine wpAnyH_take (i := 0) (oi := { dst := some 6, op := Op.move (Operand.tmp 0), type := 37, pos := "twice.go:35", after := #[], guard := none }) (v := ?v0_95) rfl (by kernel_rfl) (by kernel_rfl) (by kernel_rfl) (fun _ _ _ h => h) (Or.inl ⟨by rfl, ?hy0_95⟩) hS ?rest0_95
  case hy0_95 =>
    intro w hSw
    (try dsimp only at hSw)
    go_simp
    try with_reducible rfl
  try simp only [Act.put, List.setIfInBounds_toArray, List.set_cons_zero, List.set_cons_succ]
  refine wpAnyH_take (i := 1) (oi := { dst := some 7, op := Op.nilCheck (Operand.tmp 6), type := 0, pos := "twice.go:35", after := #[{ on := 0, ground := Ground.data }], guard := none }) (v := ?v1_96) rfl (by kernel_rfl) (by kernel_rfl) (by kernel_rfl) (fun _ _ _ h => h) (Or.inl ⟨by rfl, ?hy1_96⟩) hS ?rest1_96
  case hy1_96 =>
    intro w hSw
    (try dsimp only at hSw)
    go_simp
    try with_reducible rfl
  try simp only [Act.put, List.setIfInBounds_toArray, List.set_cons_zero, List.set_cons_succ]
  refine wpAnyH_take (i := 2) (oi := { dst := some 8, op := Op.fieldAddr 71 (Operand.tmp 7) 0, type := 0, pos := "twice.go:35", after := #[{ on := 1, ground := Ground.data }], guard := none }) (v := ?v2_97) rfl (by kernel_rfl) (by kernel_rfl) (by kernel_rfl) (fun _ _ _ h => h) (Or.inl ⟨by rfl, ?hy2_97⟩) hS ?rest2_97
  case hy2_97 =>
    intro w hSw
    (try dsimp only at hSw)
    go_simp
    try with_reducible rfl
  try simp only [Act.put, List.setIfInBounds_toArray, List.set_cons_zero, List.set_cons_succ]
  refine wpAnyH_take (i := 3) (oi := { dst := some 9, op := Op.load 31 (Operand.tmp 8), type := 31, pos := "twice.go:35", after := #[{ on := 2, ground := Ground.data }], guard := none }) (v := ?v3_98) rfl (by kernel_rfl) (by kernel_rfl) (by kernel_rfl) (fun _ _ _ h => h) (Or.inl ⟨by rfl, ?hy3_98⟩) hS ?rest3_98
  case hy3_98 =>
    intro w hSw
    (try dsimp only at hSw)
    go_simp
    try with_reducible rfl
  try simp only [Act.put, List.setIfInBounds_toArray, List.set_cons_zero, List.set_cons_succ]
  refine wpAnyH_take (i := 4) (oi := { dst := some 10, op := Op.move (Operand.tmp 0), type := 37, pos := "twice.go:35", after := #[], guard := none }) (v := ?v4_99) rfl (by kernel_rfl) (by kernel_rfl) (by kernel_rfl) (fun _ _ _ h => h) (Or.inl ⟨by rfl, ?hy4_99⟩) hS ?rest4_99
  case hy4_99 =>
    intro w hSw
    (try dsimp only at hSw)
    go_simp
    try with_reducible rfl
  try simp only [Act.put, List.setIfInBounds_toArray, List.set_cons_zero, List.set_cons_succ]
  refine wpAnyH_take (i := 5) (oi := { dst := some 11, op := Op.nilCheck (Operand.tmp 10), type := 0, pos := "twice.go:35", after := #[{ on := 4, ground := Ground.data }], guard := none }) (v := ?v5_100) rfl (by kernel_rfl) (by kernel_rfl) (by kernel_rfl) (fun _ _ _ h => h) (Or.inl ⟨by rfl, ?hy5_100⟩) hS ?rest5_100
  case hy5_100 =>
    intro w hSw
    (try dsimp only at hSw)
    go_simp
    try with_reducible rfl
  try simp only [Act.put, List.setIfInBounds_toArray, List.set_cons_zero, List.set_cons_succ]
  refine wpAnyH_take (i := 6) (oi := { dst := some 12, op := Op.fieldAddr 71 (Operand.tmp 11) 1, type := 0, pos := "twice.go:35", after := #[{ on := 5, ground := Ground.data }], guard := none }) (v := ?v6_101) rfl (by kernel_rfl) (by kernel_rfl) (by kernel_rfl) (fun _ _ _ h => h) (Or.inl ⟨by rfl, ?hy6_101⟩) hS ?rest6_101
  case hy6_101 =>
    intro w hSw
    (try dsimp only at hSw)
    go_simp
    try with_reducible rfl
  try simp only [Act.put, List.setIfInBounds_toArray, List.set_cons_zero, List.set_cons_succ]
  refine wpAnyH_take (i := 7) (oi := { dst := some 13, op := Op.load 32 (Operand.tmp 12), type := 32, pos := "twice.go:35", after := #[{ on := 6, ground := Ground.data }], guard := none }) (v := ?v7_102) rfl (by kernel_rfl) (by kernel_rfl) (by kernel_rfl) (fun _ _ _ h => h) (Or.inl ⟨by rfl, ?hy7_102⟩) hS ?rest7_102
  case hy7_102 =>
    intro w hSw
    (try dsimp only at hSw)
    go_simp
    try with_reducible rfl
  try simp only [Act.put, List.setIfInBounds_toArray, List.set_cons_zero, List.set_cons_succ]
  refine wpAnyH_take (i := 8) (oi := { dst := some 14, op := Op.call { callee := Callee.builtin Builtin.len, args := #[Operand.tmp 13], argTypes := #[32] }, type := 3, pos := "twice.go:35", after := #[{ on := 7, ground := Ground.data }], guard := none }) (v := ?v8_103) rfl (by kernel_rfl) (by kernel_rfl) (by kernel_rfl) (fun _ _ _ h => h) (Or.inl ⟨by rfl, ?hy8_103⟩) hS ?rest8_103
  case hy8_103 =>
    intro w hSw
    (try dsimp only at hSw)
    go_simp
    try with_reducible rfl
  try simp only [Act.put, List.setIfInBounds_toArray, List.set_cons_zero, List.set_cons_succ]
  refine wpAnyH_ready (rs := [9]) (by kernel_rfl) (by simp) ?_
  refine AllReadyH.cons (o := { dst := some 15, op := Op.call { callee := Callee.value (Operand.func 31), args := #[Operand.tmp 9, Operand.tmp 14], argTypes := #[31, 3] }, type := 3, pos := "twice.go:35", after := #[{ on := 3, ground := Ground.data }, { on := 8, ground := Ground.data }], guard := none }) rfl (fun K hK => ?_) AllReadyH.nil
  go_simp
  refine (slot_any c ((0 : Nat) : Int) _ Hc.out).mono ?_
  rw [HK.out]
  rintro e u1 ⟨rfl, hb⟩
  have rf1 := rf0.below hb rf0.lt
  have hB1 := hB0.trans (hb.mono hB0.size)
  clear hb
  have cf1_0 : u1.cell? ⟨f, 0, none⟩ = some (Value.int .i64 c.wo) := rf1.cell 0 rfl
  have cf1_1 : u1.cell? ⟨f, 1, none⟩ = some (Value.int .i64 c.sl) := rf1.cell 1 rfl
  have cf1_2 : u1.cell? ⟨f, 2, none⟩ = some (Value.int .i64 c.st) := rf1.cell 2 rfl
  have cf1_3 : u1.cell? ⟨f, 3, none⟩ = some (Value.int .i64 c.wa) := rf1.cell 3 rfl
  have cf1_4 : u1.cell? ⟨f, 4, none⟩ = some (Value.int .i64 c.us) := rf1.cell 4 rfl
  have cf1_5 : u1.cell? ⟨f, 5, none⟩ = some (Value.slice A1 0 c1) := rf1.cell 5 rfl
  have cf1_6 : u1.cell? ⟨f, 6, none⟩ = some (Value.slice A2 ah.length c2) := rf1.cell 6 rfl
  have cf1_7 : u1.cell? ⟨f, 7, none⟩ = some (Value.int .i64 ro) := rf1.cell 7 rfl
  have cf1_8 : u1.cell? ⟨f, 8, none⟩ = some (Value.bool true) := rf1.cell 8 rfl
  refine hK.out _ _ ⟨cf1_0, cf1_1, cf1_2, cf1_3, cf1_4, cf1_5, cf1_6, cf1_7, cf1_8⟩ (fun hS => ?_)
  clear hK K
  try simp only [Act.put, List.setIfInBounds_toArray, List.set_cons_zero, List.set_cons_succ]
  refine wpAnyH_take (i := 10) (oi := { dst := some 5, op := Op.assign (Operand.tmp 15), type := 3, pos := "twice.go:35", after := #[{ on := 9, ground := Ground.data }, { on := 9, ground := Ground.chain }, { on := 0, ground := Ground.phase }, { on := 1, ground := Ground.phase }, { on := 2, ground := Ground.phase }, { on := 3, ground := Ground.phase }, { on := 4, ground := Ground.phase }, { on := 5, ground := Ground.phase }, { on := 6, ground := Ground.phase }, { on := 7, ground := Ground.phase }, { on := 8, ground := Ground.phase }, { on := 9, ground := Ground.phase }], guard := none }) (v := ?v10_104) rfl (by kernel_rfl) (by kernel_rfl) (by kernel_rfl) (fun _ _ _ h => h) (Or.inl ⟨by rfl, ?hy10_104⟩) hS ?rest10_104
  case hy10_104 =>
    intro w hSw
    (try dsimp only at hSw)
    go_simp
    try with_reducible rfl
  try simp only [Act.put, List.setIfInBounds_toArray, List.set_cons_zero, List.set_cons_succ]
  refine wpAnyH_done (by kernel_rfl) ?_ _
  go_wp2
  go_ret
  exact HF.out _ hB1
set_option maxRecDepth 100000 in
set_option maxHeartbeats 2000000 in
theorem step_go (f sb ab g gw c0 : Nat) (c : Cf) (n F : Nat) (x : Tw) (s : St) (v : Int) (w : World) (hc : Rc c) (hn : c.sl = n) (hF : (3 + c.wo + c.wo).toNat = F) (hT : TwAt w f sb ab c x) (hok : x.Ok n) (hM : MemAt w g gw c0 s) (hv : s.ws[F + x.se.length]? = some v) (ht : s.t < 1000000) (hro : x.ro ≤ 1000000)
    (hfg : f ≠ g) (hfw : f ≠ gw) (hsg : sb ≠ g) (hsw : sb ≠ gw) (hag : ab ≠ g) (haw : ab ≠ gw) (hd : x.dn = false) :
    Calls Try.prog 15 #[.pointer (some ⟨f, 0, none⟩), .pointer (some ⟨g, 0, none⟩)] w (RetStep f sb ab g gw c0 c n x s v w) := by
  obtain ⟨se, ah, ro, dn⟩ := x
  simp only at hd hv hro
  subst hd
  have hse := hok.se
  simp only at hse
  obtain ⟨⟨A1, c1, A2, c2, h1, h2, h3⟩, h4⟩ := hT
  simp only at h1 h2 h3
  have q2 := hc.sl
  have hn6 : se.length ≤ 1000000 := by omega
  have hnA : ab = f ∨ ab ≠ f := by omega
  obtain ⟨KK, eK⟩ : ∃ KK, KK = F + se.length := ⟨_, rfl⟩
  have hK : slotI c (se.length : Int) = (KK : Int) := by rw [eK]; exact slotI_nat hc hF (by omega)
  rw [← eK] at hv
  have hK1 : KK < s.ws.length := (List.getElem?_eq_some_iff.1 hv).1
  have hsv : s.at (KK : Int) = v := by
    have := St.at_nat (s := s) hK1
    rw [hv] at this
    injection this with this
    exact this.symm
  have HK := Lib.hid hK
  have Hc := Lib.hid hc
  have hab : ab < w.heap.size := h3.lt
  have hsb : sb < w.heap.size := h2.lt
  have hff : f < w.heap.size := h1.lt
  have hgl := hM.lg
  have hgwl := hM.lw
  have hHn : (n : Int) = c.sl := hn.symm
  have HFn := Lib.hid (show ∀ i : Nat, i < n → slotI c (i : Int) = ((F + i : Nat) : Int) from fun i hi => slotI_nat hc hF (by omega))
  have rf0 : RowAt w.drew f 71 #[Value.int .i64 c.wo, Value.int .i64 c.sl, Value.int .i64 c.st, Value.int .i64 c.wa, Value.int .i64 c.us, Value.slice A1 se.length c1, Value.slice A2 ah.length c2, Value.int .i64 ro, Value.bool false] := h1
  have HS0 := Lib.hid h2.drew
  have HA0 := Lib.hid h3.drew
  have HM0 := Lib.hid hM.drew
  have hS0 : SpX [f, sb, g, gw] w w.drew := (SpX.refl _ w).drew
  have Hne := Lib.hid h4
  have hAX : ab = f ∨ ab ∉ Ow f sb := .inr fun h2 => ow_ne h2 (h4 (ow_only h2).symm)
  clear hM h1 h2 h3 h4 hv hF hc hK eK hn
  go_enter Try.func15, Try.ntmps15
  go_wp2_with fail
  have cf0_0 : w.drew.cell? ⟨f, 0, none⟩ = some (Value.int .i64 c.wo) := rf0.cell 0 rfl
  have cf0_1 : w.drew.cell? ⟨f, 1, none⟩ = some (Value.int .i64 c.sl) := rf0.cell 1 rfl
  have cf0_2 : w.drew.cell? ⟨f, 2, none⟩ = some (Value.int .i64 c.st) := rf0.cell 2 rfl
  have cf0_3 : w.drew.cell? ⟨f, 3, none⟩ = some (Value.int .i64 c.wa) := rf0.cell 3 rfl
  have cf0_4 : w.drew.cell? ⟨f, 4, none⟩ = some (Value.int .i64 c.us) := rf0.cell 4 rfl
  have cf0_5 : w.drew.cell? ⟨f, 5, none⟩ = some (Value.slice A1 se.length c1) := rf0.cell 5 rfl
  have cf0_6 : w.drew.cell? ⟨f, 6, none⟩ = some (Value.slice A2 ah.length c2) := rf0.cell 6 rfl
  have cf0_7 : w.drew.cell? ⟨f, 7, none⟩ = some (Value.int .i64 ro) := rf0.cell 7 rfl
  have cf0_8 : w.drew.cell? ⟨f, 8, none⟩ = some (Value.bool false) := rf0.cell 8 rfl
  refine wp_region_held_drew (S := (fun w' => w'.cell? ⟨f, 0, none⟩ = some (Value.int .i64 c.wo) ∧ w'.cell? ⟨f, 1, none⟩ = some (Value.int .i64 c.sl) ∧ w'.cell? ⟨f, 2, none⟩ = some (Value.int .i64 c.st) ∧ w'.cell? ⟨f, 3, none⟩ = some (Value.int .i64 c.wa) ∧ w'.cell? ⟨f, 4, none⟩ = some (Value.int .i64 c.us) ∧ w'.cell? ⟨f, 5, none⟩ = some (Value.slice A1 se.length c1) ∧ w'.cell? ⟨f, 6, none⟩ = some (Value.slice A2 ah.length c2) ∧ w'.cell? ⟨f, 7, none⟩ = some (Value.int .i64 ro) ∧ w'.cell? ⟨f, 8, none⟩ = some (Value.bool false))) (by kernel_rfl) ⟨cf0_0, cf0_1, cf0_2, cf0_3, cf0_4, cf0_5, cf0_6, cf0_7, cf0_8⟩ (fun hS => ?_)
  generalize w.drew = u0 at *
  refine wpAnyH_take (i := 0) (oi := { dst := some 6, op := Op.move (Operand.tmp 0), type := 37, pos := "twice.go:35", after := #[], guard := none }) (v := ?v0_85) rfl (by kernel_rfl) (by kernel_rfl) (by kernel_rfl) (fun _ _ _ h => h) (Or.inl ⟨by rfl, ?hy0_85⟩) hS ?rest0_85
  case hy0_85 =>
    intro w hSw
    (try dsimp only at hSw)
    go_simp
    try with_reducible rfl
  try simp only [Act.put, List.setIfInBounds_toArray, List.set_cons_zero, List.set_cons_succ]
  refine wpAnyH_take (i := 1) (oi := { dst := some 7, op := Op.nilCheck (Operand.tmp 6), type := 0, pos := "twice.go:35", after := #[{ on := 0, ground := Ground.data }], guard := none }) (v := ?v1_86) rfl (by kernel_rfl) (by kernel_rfl) (by kernel_rfl) (fun _ _ _ h => h) (Or.inl ⟨by rfl, ?hy1_86⟩) hS ?rest1_86
  case hy1_86 =>
    intro w hSw
    (try dsimp only at hSw)
    go_simp
    try with_reducible rfl
  try simp only [Act.put, List.setIfInBounds_toArray, List.set_cons_zero, List.set_cons_succ]
  refine wpAnyH_take (i := 2) (oi := { dst := some 8, op := Op.fieldAddr 71 (Operand.tmp 7) 0, type := 0, pos := "twice.go:35", after := #[{ on := 1, ground := Ground.data }], guard := none }) (v := ?v2_87) rfl (by kernel_rfl) (by kernel_rfl) (by kernel_rfl) (fun _ _ _ h => h) (Or.inl ⟨by rfl, ?hy2_87⟩) hS ?rest2_87
  case hy2_87 =>
    intro w hSw
    (try dsimp only at hSw)
    go_simp
    try with_reducible rfl
  try simp only [Act.put, List.setIfInBounds_toArray, List.set_cons_zero, List.set_cons_succ]
  refine wpAnyH_take (i := 3) (oi := { dst := some 9, op := Op.load 31 (Operand.tmp 8), type := 31, pos := "twice.go:35", after := #[{ on := 2, ground := Ground.data }], guard := none }) (v := ?v3_88) rfl (by kernel_rfl) (by kernel_rfl) (by kernel_rfl) (fun _ _ _ h => h) (Or.inl ⟨by rfl, ?hy3_88⟩) hS ?rest3_88
  case hy3_88 =>
    intro w hSw
    (try dsimp only at hSw)
    go_simp
    try with_reducible rfl
  try simp only [Act.put, List.setIfInBounds_toArray, List.set_cons_zero, List.set_cons_succ]
  refine wpAnyH_take (i := 4) (oi := { dst := some 10, op := Op.move (Operand.tmp 0), type := 37, pos := "twice.go:35", after := #[], guard := none }) (v := ?v4_89) rfl (by kernel_rfl) (by kernel_rfl) (by kernel_rfl) (fun _ _ _ h => h) (Or.inl ⟨by rfl, ?hy4_89⟩) hS ?rest4_89
  case hy4_89 =>
    intro w hSw
    (try dsimp only at hSw)
    go_simp
    try with_reducible rfl
  try simp only [Act.put, List.setIfInBounds_toArray, List.set_cons_zero, List.set_cons_succ]
  refine wpAnyH_take (i := 5) (oi := { dst := some 11, op := Op.nilCheck (Operand.tmp 10), type := 0, pos := "twice.go:35", after := #[{ on := 4, ground := Ground.data }], guard := none }) (v := ?v5_90) rfl (by kernel_rfl) (by kernel_rfl) (by kernel_rfl) (fun _ _ _ h => h) (Or.inl ⟨by rfl, ?hy5_90⟩) hS ?rest5_90
  case hy5_90 =>
    intro w hSw
    (try dsimp only at hSw)
    go_simp
    try with_reducible rfl
  try simp only [Act.put, List.setIfInBounds_toArray, List.set_cons_zero, List.set_cons_succ]
  refine wpAnyH_take (i := 6) (oi := { dst := some 12, op := Op.fieldAddr 71 (Operand.tmp 11) 1, type := 0, pos := "twice.go:35", after := #[{ on := 5, ground := Ground.data }], guard := none }) (v := ?v6_91) rfl (by kernel_rfl) (by kernel_rfl) (by kernel_rfl) (fun _ _ _ h => h) (Or.inl ⟨by rfl, ?hy6_91⟩) hS ?rest6_91
  case hy6_91 =>
    intro w hSw
    (try dsimp only at hSw)
    go_simp
    try with_reducible rfl
  try simp only [Act.put, List.setIfInBounds_toArray, List.set_cons_zero, List.set_cons_succ]
  refine wpAnyH_take (i := 7) (oi := { dst := some 13, op := Op.load 32 (Operand.tmp 12), type := 32, pos := "twice.go:35", after := #[{ on := 6, ground := Ground.data }], guard := none }) (v := ?v7_92) rfl (by kernel_rfl) (by kernel_rfl) (by kernel_rfl) (fun _ _ _ h => h) (Or.inl ⟨by rfl, ?hy7_92⟩) hS ?rest7_92
  case hy7_92 =>
    intro w hSw
    (try dsimp only at hSw)
    go_simp
    try with_reducible rfl
  try simp only [Act.put, List.setIfInBounds_toArray, List.set_cons_zero, List.set_cons_succ]
  refine wpAnyH_take (i := 8) (oi := { dst := some 14, op := Op.call { callee := Callee.builtin Builtin.len, args := #[Operand.tmp 13], argTypes := #[32] }, type := 3, pos := "twice.go:35", after := #[{ on := 7, ground := Ground.data }], guard := none }) (v := ?v8_93) rfl (by kernel_rfl) (by kernel_rfl) (by kernel_rfl) (fun _ _ _ h => h) (Or.inl ⟨by rfl, ?hy8_93⟩) hS ?rest8_93
  case hy8_93 =>
    intro w hSw
    (try dsimp only at hSw)
    go_simp
    try with_reducible rfl
  try simp only [Act.put, List.setIfInBounds_toArray, List.set_cons_zero, List.set_cons_succ]
  refine wpAnyH_ready (rs := [9]) (by kernel_rfl) (by simp) ?_
  refine AllReadyH.cons (o := { dst := some 15, op := Op.call { callee := Callee.value (Operand.func 31), args := #[Operand.tmp 9, Operand.tmp 14], argTypes := #[31, 3] }, type := 3, pos := "twice.go:35", after := #[{ on := 3, ground := Ground.data }, { on := 8, ground := Ground.data }], guard := none }) rfl (fun K hK => ?_) AllReadyH.nil
  go_simp
  refine (slot_any c se.length _ Hc.out).mono ?_
  rw [HK.out]
  rintro e u1 ⟨rfl, hb⟩
  have rf1 := rf0.below hb rf0.lt
  have HS1 := Lib.hid (HS0.out.on hb)
  have HA1 := Lib.hid (HA0.out.on hb)
  have HM1 := Lib.hid (HM0.out.on hb)
  have hS1 := hS0.on hb
  clear hb
  have cf1_0 : u1.cell? ⟨f, 0, none⟩ = some (Value.int .i64 c.wo) := rf1.cell 0 rfl
  have cf1_1 : u1.cell? ⟨f, 1, none⟩ = some (Value.int .i64 c.sl) := rf1.cell 1 rfl
  have cf1_2 : u1.cell? ⟨f, 2, none⟩ = some (Value.int .i64 c.st) := rf1.cell 2 rfl
  have cf1_3 : u1.cell? ⟨f, 3, none⟩ = some (Value.int .i64 c.wa) := rf1.cell 3 rfl
  have cf1_4 : u1.cell? ⟨f, 4, none⟩ = some (Value.int .i64 c.us) := rf1.cell 4 rfl
  have cf1_5 : u1.cell? ⟨f, 5, none⟩ = some (Value.slice A1 se.length c1) := rf1.cell 5 rfl
  have cf1_6 : u1.cell? ⟨f, 6, none⟩ = some (Value.slice A2 ah.length c2) := rf1.cell 6 rfl
  have cf1_7 : u1.cell? ⟨f, 7, none⟩ = some (Value.int .i64 ro) := rf1.cell 7 rfl
  have cf1_8 : u1.cell? ⟨f, 8, none⟩ = some (Value.bool false) := rf1.cell 8 rfl
  refine hK.out _ _ ⟨cf1_0, cf1_1, cf1_2, cf1_3, cf1_4, cf1_5, cf1_6, cf1_7, cf1_8⟩ (fun hS => ?_)
  clear hK K
  try simp only [Act.put, List.setIfInBounds_toArray, List.set_cons_zero, List.set_cons_succ]
  refine wpAnyH_take (i := 10) (oi := { dst := some 5, op := Op.assign (Operand.tmp 15), type := 3, pos := "twice.go:35", after := #[{ on := 9, ground := Ground.data }, { on := 9, ground := Ground.chain }, { on := 0, ground := Ground.phase }, { on := 1, ground := Ground.phase }, { on := 2, ground := Ground.phase }, { on := 3, ground := Ground.phase }, { on := 4, ground := Ground.phase }, { on := 5, ground := Ground.phase }, { on := 6, ground := Ground.phase }, { on := 7, ground := Ground.phase }, { on := 8, ground := Ground.phase }, { on := 9, ground := Ground.phase }], guard := none }) (v := ?v10_94) rfl (by kernel_rfl) (by kernel_rfl) (by kernel_rfl) (fun _ _ _ h => h) (Or.inl ⟨by rfl, ?hy10_94⟩) hS ?rest10_94
  case hy10_94 =>
    intro w hSw
    (try dsimp only at hSw)
    go_simp
    try with_reducible rfl
  try simp only [Act.put, List.setIfInBounds_toArray, List.set_cons_zero, List.set_cons_succ]
  refine wpAnyH_done (by kernel_rfl) ?_ _
  generalize u1 = w1 at *
  clear rf0 HS0 HA0 HM0 hS0 cf0_0 cf1_0 cf0_1 cf1_1 cf0_2 cf1_2 cf0_3 cf1_3 cf0_4 cf1_4 cf0_5 cf1_5 cf0_6 cf1_6 cf0_7 cf1_7 cf0_8 cf1_8
  have k8 := rf1.cell 8 rfl
  by_cases hend : se.length + 1 = n
  · have HK2 : Hid (slotI c ((se.length : Int) + 1) = -1) := Lib.hid (slot_off (by omega))
    have HFIN : Hid (∀ (w' : World) (sb' ab' : Nat), TwAt w' f sb' ab' c ⟨[], se ++ [v], ro + 1, decide (se ++ [v] = ah)⟩ → MemAt w' g gw c0 ⟨s.ws, s.t + 1⟩ → SpX [f, sb, g, gw] w w' → (sb' = sb ∨ w.heap.size ≤ sb') → (ab' = ab ∨ w.heap.size ≤ ab') → RetStep f sb ab g gw c0 c n ⟨se, ah, ro, false⟩ s v w (.returned (.bool (decide (se ++ [v] = ah)))) w') := Lib.hid fun w' sb' ab' k1 k2 k3 k4 k5 => by
      have e := step_end (x := ⟨se, ah, ro, false⟩) (v := v) rfl hend
      exact ⟨sb', ab', by rw [e], by rw [e]; exact k1, k2, k3, k4, k5⟩
    have HRZ : Hid (∀ {b9 cc : Nat} (w' : World), RowAt w' f 71 #[Value.int .i64 c.wo, Value.int .i64 c.sl, Value.int .i64 c.st, Value.int .i64 c.wa, Value.int .i64 c.us, Value.slice (some ⟨b9, 0, none⟩) (se.length + 1) cc, Value.slice A2 ah.length c2, Value.int .i64 ro, Value.bool false] → RowAt w' f 71 #[Value.int .i64 c.wo, Value.int .i64 c.sl, Value.int .i64 c.st, Value.int .i64 c.wa, Value.int .i64 c.us, Value.slice ((some ⟨b9, 0, none⟩)) ((⟨se ++ [v], ah, ro, false⟩ : Tw)).se.length cc, Value.slice A2 ((⟨se ++ [v], ah, ro, false⟩ : Tw)).ah.length c2, Value.int .i64 ((⟨se ++ [v], ah, ro, false⟩ : Tw)).ro, Value.bool ((⟨se ++ [v], ah, ro, false⟩ : Tw)).dn]) := Lib.hid fun w' h => by
      simp only [List.length_append, List.length_cons, List.length_nil, Nat.zero_add]
      exact h
    have HOL : Hid (∀ {b9 cc : Nat} (w' : World), Own w' f b9 (some ⟨b9, 0, none⟩) (se.length + 1) cc (se ++ [v]) → Own w' f b9 (some ⟨b9, 0, none⟩) (se ++ [v]).length cc (se ++ [v])) := Lib.hid fun w' h => by
      simp only [List.length_append, List.length_cons, List.length_nil, Nat.zero_add]
      exact h
    clear HFn hend
    go_wp2_with fail
    have rf0 : RowAt w1.drew f 71 #[Value.int .i64 c.wo, Value.int .i64 c.sl, Value.int .i64 c.st, Value.int .i64 c.wa, Value.int .i64 c.us, Value.slice A1 se.length c1, Value.slice A2 ah.length c2, Value.int .i64 ro, Value.bool false] := rf1
    have HS0 := Lib.hid HS1.out.drew
    have HA0 := Lib.hid HA1.out.drew
    have HM0 := Lib.hid HM1.out.drew
    have hS0 := hS1.drew
    clear HS1 HA1 HM1 hS1 rf1
    have ca0 : w1.drew.cell? ⟨f, 0, none⟩ = some (Value.int .i64 c.wo) := rf0.cell 0 rfl
    have ca1 : w1.drew.cell? ⟨f, 1, none⟩ = some (Value.int .i64 c.sl) := rf0.cell 1 rfl
    have ca2 : w1.drew.cell? ⟨f, 2, none⟩ = some (Value.int .i64 c.st) := rf0.cell 2 rfl
    have ca3 : w1.drew.cell? ⟨f, 3, none⟩ = some (Value.int .i64 c.wa) := rf0.cell 3 rfl
    have ca4 : w1.drew.cell? ⟨f, 4, none⟩ = some (Value.int .i64 c.us) := rf0.cell 4 rfl
    have ca6 : w1.drew.cell? ⟨f, 6, none⟩ = some (Value.slice A2 ah.length c2) := rf0.cell 6 rfl
    have ca7 : w1.drew.cell? ⟨f, 7, none⟩ = some (Value.int .i64 ro) := rf0.cell 7 rfl
    have ca8 : w1.drew.cell? ⟨f, 8, none⟩ = some (Value.bool false) := rf0.cell 8 rfl
    have ca5 : w1.drew.cell? ⟨f, 5, none⟩ = some (Value.slice A1 se.length c1) := rf0.cell 5 rfl
    refine wp_region_held_drew (S := (fun w' => w'.cell? ⟨f, 0, none⟩ = some (Value.int .i64 c.wo) ∧ w'.cell? ⟨f, 1, none⟩ = some (Value.int .i64 c.sl) ∧ w'.cell? ⟨f, 2, none⟩ = some (Value.int .i64 c.st) ∧ w'.cell? ⟨f, 3, none⟩ = some (Value.int .i64 c.wa) ∧ w'.cell? ⟨f, 4, none⟩ = some (Value.int .i64 c.us) ∧ w'.cell? ⟨f, 6, none⟩ = some (Value.slice A2 ah.length c2) ∧ w'.cell? ⟨f, 7, none⟩ = some (Value.int .i64 ro) ∧ w'.cell? ⟨f, 8, none⟩ = some (Value.bool false))) (by kernel_rfl) ⟨ca0, ca1, ca2, ca3, ca4, ca6, ca7, ca8⟩ (fun hS => ?_)
    generalize w1.drew = u0 at *
    refine wpAnyH_take (i := 0) (oi := { dst := some 24, op := Op.move (Operand.tmp 0), type := 37, pos := "twice.go:39", after := #[], guard := none }) (v := ?v0_1) rfl (by kernel_rfl) (by kernel_rfl) (by kernel_rfl) (fun _ _ _ h => h) (Or.inl ⟨by rfl, ?hy0_1⟩) hS ?rest0_1
    case hy0_1 =>
      intro w hSw
      (try dsimp only at hSw)
      go_simp
      try with_reducible rfl
    try simp only [Act.put, List.setIfInBounds_toArray, List.set_cons_zero, List.set_cons_succ]
    refine wpAnyH_take (i := 1) (oi := { dst := some 25, op := Op.move (Operand.tmp 0), type := 37, pos := "twice.go:39", after := #[], guard := none }) (v := ?v1_2) rfl (by kernel_rfl) (by kernel_rfl) (by kernel_rfl) (fun _ _ _ h => h) (Or.inl ⟨by rfl, ?hy1_2⟩) hS ?rest1_2
    case hy1_2 =>
      intro w hSw
      (try dsimp only at hSw)
      go_simp
      try with_reducible rfl
    try simp only [Act.put, List.setIfInBounds_toArray, List.set_cons_zero, List.set_cons_succ]
    refine wpAnyH_take (i := 2) (oi := { dst := some 26, op := Op.nilCheck (Operand.tmp 25), type := 0, pos := "twice.go:39", after := #[{ on := 1, ground := Ground.data }], guard := none }) (v := ?v2_3) rfl (by kernel_rfl) (by kernel_rfl) (by kernel_rfl) (fun _ _ _ h => h) (Or.inl ⟨by rfl, ?hy2_3⟩) hS ?rest2_3
    case hy2_3 =>
      intro w hSw
      (try dsimp only at hSw)
      go_simp
      try with_reducible rfl
    try simp only [Act.put, List.setIfInBounds_toArray, List.set_cons_zero, List.set_cons_succ]
    refine wpAnyH_take (i := 3) (oi := { dst := some 27, op := Op.fieldAddr 71 (Operand.tmp 26) 1, type := 0, pos := "twice.go:39", after := #[{ on := 2, ground := Ground.data }], guard := none }) (v := ?v3_4) rfl (by kernel_rfl) (by kernel_rfl) (by kernel_rfl) (fun _ _ _ h => h) (Or.inl ⟨by rfl, ?hy3_4⟩) hS ?rest3_4
    case hy3_4 =>
      intro w hSw
      (try dsimp only at hSw)
      go_simp
      try with_reducible rfl
    try simp only [Act.put, List.setIfInBounds_toArray, List.set_cons_zero, List.set_cons_succ]
    refine wpAnyH_take (i := 5) (oi := { dst := some 29, op := Op.move (Operand.tmp 1), type := 35, pos := "twice.go:39", after := #[], guard := none }) (v := ?v5_5) rfl (by kernel_rfl) (by kernel_rfl) (by kernel_rfl) (fun _ _ _ h => h) (Or.inl ⟨by rfl, ?hy5_5⟩) hS ?rest5_5
    case hy5_5 =>
      intro w hSw
      (try dsimp only at hSw)
      go_simp
      try with_reducible rfl
    try simp only [Act.put, List.setIfInBounds_toArray, List.set_cons_zero, List.set_cons_succ]
    refine wpAnyH_take (i := 6) (oi := { dst := some 30, op := Op.move (Operand.tmp 5), type := 3, pos := "twice.go:39", after := #[], guard := none }) (v := ?v6_6) rfl (by kernel_rfl) (by kernel_rfl) (by kernel_rfl) (fun _ _ _ h => h) (Or.inl ⟨by rfl, ?hy6_6⟩) hS ?rest6_6
    case hy6_6 =>
      intro w hSw
      (try dsimp only at hSw)
      go_simp
      try with_reducible rfl
    try simp only [Act.put, List.setIfInBounds_toArray, List.set_cons_zero, List.set_cons_succ]
    refine wpAnyH_ready (rs := [4, 7]) (by kernel_rfl) (by simp) ?_
    refine AllReadyH.cons (o := { dst := some 28, op := Op.load 32 (Operand.tmp 27), type := 32, pos := "twice.go:39", after := #[{ on := 3, ground := Ground.data }], guard := none }) rfl (fun K hK => ?_) ?_
    ·
      go_simp
      refine hK.out _ _ ⟨ca0, ca1, ca2, ca3, ca4, ca6, ca7, ca8⟩ (fun hS => ?_)
      clear hK K
      try simp only [Act.put, List.setIfInBounds_toArray, List.set_cons_zero, List.set_cons_succ]
      refine wpAnyH_ready (rs := [7]) (by kernel_rfl) (by simp) ?_
      refine AllReadyH.cons (o := { dst := some 31, op := Op.call { callee := Callee.value (Operand.func 32), args := #[Operand.tmp 29, Operand.tmp 30], argTypes := #[35, 3] }, type := 3, pos := "twice.go:39", after := #[{ on := 5, ground := Ground.data }, { on := 6, ground := Ground.data }], guard := none }) rfl (fun K hK => ?_) AllReadyH.nil
      go_simp
      refine (load_in g gw c0 s KK _ HM0.out hK1 ht).mono ?_
      rw [hsv]
      rintro e u1 ⟨rfl, hm, hs⟩
      have rf1 := rf0.spx hs (by simp <;> omega)
      have HS1 := Lib.hid (HS0.out.spx hs (.inr (by simp <;> omega)))
      have HA1 := Lib.hid (HA0.out.spx hs (.inr (by simp <;> omega)))
      have HM1 := Lib.hid hm
      have hS1 := hS0.trans (hs.more (Y := [f, sb, g, gw]) (by simp <;> omega))
      clear hm hs
      obtain ⟨b9, cc, w9, hrun, HO, hX, hbb⟩ := HS1.out.run1 rf1.lt hn6 v u1.heap.size rfl
      have hS1s := hS1.size
      have cb0 : u1.cell? ⟨f, 0, none⟩ = some (Value.int .i64 c.wo) := rf1.cell 0 rfl
      have cb1 : u1.cell? ⟨f, 1, none⟩ = some (Value.int .i64 c.sl) := rf1.cell 1 rfl
      have cb2 : u1.cell? ⟨f, 2, none⟩ = some (Value.int .i64 c.st) := rf1.cell 2 rfl
      have cb3 : u1.cell? ⟨f, 3, none⟩ = some (Value.int .i64 c.wa) := rf1.cell 3 rfl
      have cb4 : u1.cell? ⟨f, 4, none⟩ = some (Value.int .i64 c.us) := rf1.cell 4 rfl
      have cb6 : u1.cell? ⟨f, 6, none⟩ = some (Value.slice A2 ah.length c2) := rf1.cell 6 rfl
      have cb7 : u1.cell? ⟨f, 7, none⟩ = some (Value.int .i64 ro) := rf1.cell 7 rfl
      have cb8 : u1.cell? ⟨f, 8, none⟩ = some (Value.bool false) := rf1.cell 8 rfl
      have cb5 : u1.cell? ⟨f, 5, none⟩ = some (Value.slice A1 se.length c1) := rf1.cell 5 rfl
      refine hK.out _ _ ⟨cb0, cb1, cb2, cb3, cb4, cb6, cb7, cb8⟩ (fun hS => ?_)
      clear hK K
      try simp only [Act.put, List.setIfInBounds_toArray, List.set_cons_zero, List.set_cons_succ]
      refine wpAnyH_ready (rs := [8]) (by kernel_rfl) (by simp) ?_
      refine AllReadyH.cons (o := { dst := some 32, op := Op.buildSlice 32 1 #[(0, Operand.tmp 31)], type := 32, pos := "twice.go:39", after := #[{ on := 7, ground := Ground.data }], guard := none }) rfl (fun K hK => ?_) AllReadyH.nil
      go_simp
      have rf2 := rf1.alloc (.cells #[Value.int .i64 v] 3)
      have cc_0 : (u1.alloc (.cells #[Value.int .i64 v] 3)).cell? ⟨f, 0, none⟩ = some (Value.int .i64 c.wo) := rf2.cell 0 rfl
      have cc_1 : (u1.alloc (.cells #[Value.int .i64 v] 3)).cell? ⟨f, 1, none⟩ = some (Value.int .i64 c.sl) := rf2.cell 1 rfl
      have cc_2 : (u1.alloc (.cells #[Value.int .i64 v] 3)).cell? ⟨f, 2, none⟩ = some (Value.int .i64 c.st) := rf2.cell 2 rfl
      have cc_3 : (u1.alloc (.cells #[Value.int .i64 v] 3)).cell? ⟨f, 3, none⟩ = some (Value.int .i64 c.wa) := rf2.cell 3 rfl
      have cc_4 : (u1.alloc (.cells #[Value.int .i64 v] 3)).cell? ⟨f, 4, none⟩ = some (Value.int .i64 c.us) := rf2.cell 4 rfl
      have cc_6 : (u1.alloc (.cells #[Value.int .i64 v] 3)).cell? ⟨f, 6, none⟩ = some (Value.slice A2 ah.length c2) := rf2.cell 6 rfl
      have cc_7 : (u1.alloc (.cells #[Value.int .i64 v] 3)).cell? ⟨f, 7, none⟩ = some (Value.int .i64 ro) := rf2.cell 7 rfl
      have cc_8 : (u1.alloc (.cells #[Value.int .i64 v] 3)).cell? ⟨f, 8, none⟩ = some (Value.bool false) := rf2.cell 8 rfl
      have cc_5 : (u1.alloc (.cells #[Value.int .i64 v] 3)).cell? ⟨f, 5, none⟩ = some (Value.slice A1 se.length c1) := rf2.cell 5 rfl
      refine hK.out _ _ ⟨cc_0, cc_1, cc_2, cc_3, cc_4, cc_6, cc_7, cc_8⟩ (fun hS => ?_)
      clear hK K
      try simp only [Act.put, List.setIfInBounds_toArray, List.set_cons_zero, List.set_cons_succ]
      refine wpAnyH_ready (rs := [9]) (by kernel_rfl) (by simp) ?_
      refine AllReadyH.cons (o := { dst := some 33, op := Op.call { callee := Callee.builtin Builtin.append, args := #[Operand.tmp 28, Operand.tmp 32], argTypes := #[32, 32] }, type := 32, pos := "twice.go:39", after := #[{ on := 4, ground := Ground.data }, { on := 8, ground := Ground.data }, { on := 7, ground := Ground.chain }], guard := none }) rfl (fun K hK => ?_) AllReadyH.nil
      (rw [if_pos (by kernel_rfl)]; refine wp_append_run (.tmp 28) (.tmp 32) 32 rfl _ _ rfl rfl _ _ hrun ?_)
      have hX2 := hX (Ow f sb) ow_in
      have rf9 := rf1.spx hX2 (ow_not f sb)
      have HA9 := Lib.hid (HA1.out.spx hX2 hAX)
      have HM9 := Lib.hid (HM1.out.spx hX2 (fun h => hsg (ow_only h).symm) (fun h => hsw (ow_only h).symm))
      have hne9 : b9 = ab → b9 = f := fun e => by have := Hne.out; have := HA1.out.lt; omega
      have hS9 := hS1.trans (hX2.more (Y := [f, sb, g, gw]) (fun k hk => by rw [ow_only hk]; simp))
      have HO9 := Lib.hid HO
      clear HO hX hX2
      have cd0 : w9.cell? ⟨f, 0, none⟩ = some (Value.int .i64 c.wo) := rf9.cell 0 rfl
      have cd1 : w9.cell? ⟨f, 1, none⟩ = some (Value.int .i64 c.sl) := rf9.cell 1 rfl
      have cd2 : w9.cell? ⟨f, 2, none⟩ = some (Value.int .i64 c.st) := rf9.cell 2 rfl
      have cd3 : w9.cell? ⟨f, 3, none⟩ = some (Value.int .i64 c.wa) := rf9.cell 3 rfl
      have cd4 : w9.cell? ⟨f, 4, none⟩ = some (Value.int .i64 c.us) := rf9.cell 4 rfl
      have cd6 : w9.cell? ⟨f, 6, none⟩ = some (Value.slice A2 ah.length c2) := rf9.cell 6 rfl
      have cd7 : w9.cell? ⟨f, 7, none⟩ = some (Value.int .i64 ro) := rf9.cell 7 rfl
      have cd8 : w9.cell? ⟨f, 8, none⟩ = some (Value.bool false) := rf9.cell 8 rfl
      have cd5 : w9.cell? ⟨f, 5, none⟩ = some (Value.slice A1 se.length c1) := rf9.cell 5 rfl
      have g95 := rf9.frozen 5
      refine hK.out _ _ ⟨cd0, cd1, cd2, cd3, cd4, cd6, cd7, cd8⟩ (fun hS => ?_)
      clear hK K
      try simp only [Act.put, List.setIfInBounds_toArray, List.set_cons_zero, List.set_cons_succ]
      refine wpAnyH_take (i := 10) (oi := { dst := some 34, op := Op.nilCheck (Operand.tmp 24), type := 0, pos := "twice.go:39", after := #[{ on := 0, ground := Ground.data }, { on := 0, ground := Ground.phase }, { on := 1, ground := Ground.phase }, { on := 2, ground := Ground.phase }, { on := 3, ground := Ground.phase }, { on := 4, ground := Ground.phase }, { on := 5, ground := Ground.phase }, { on := 6, ground := Ground.phase }, { on := 7, ground := Ground.phase }, { on := 8, ground := Ground.phase }, { on := 9, ground := Ground.phase }], guard := none }) (v := ?v10_7) rfl (by kernel_rfl) (by kernel_rfl) (by kernel_rfl) (fun _ _ _ h => h) (Or.inl ⟨by rfl, ?hy10_7⟩) hS ?rest10_7
      case hy10_7 =>
        intro w hSw
        (try dsimp only at hSw)
        go_simp
        try with_reducible rfl
      try simp only [Act.put, List.setIfInBounds_toArray, List.set_cons_zero, List.set_cons_succ]
      refine wpAnyH_take (i := 11) (oi := { dst := some 35, op := Op.fieldAddr 71 (Operand.tmp 34) 1, type := 0, pos := "twice.go:39", after := #[{ on := 10, ground := Ground.data }, { on := 0, ground := Ground.phase }, { on := 1, ground := Ground.phase }, { on := 2, ground := Ground.phase }, { on := 3, ground := Ground.phase }, { on := 4, ground := Ground.phase }, { on := 5, ground := Ground.phase }, { on := 6, ground := Ground.phase }, { on := 7, ground := Ground.phase }, { on := 8, ground := Ground.phase }, { on := 9, ground := Ground.phase }], guard := none }) (v := ?v11_8) rfl (by kernel_rfl) (by kernel_rfl) (by kernel_rfl) (fun _ _ _ h => h) (Or.inl ⟨by rfl, ?hy11_8⟩) hS ?rest11_8
      case hy11_8 =>
        intro w hSw
        (try dsimp only at hSw)
        go_simp
        try with_reducible rfl
      try simp only [Act.put, List.setIfInBounds_toArray, List.set_cons_zero, List.set_cons_succ]
      refine wpAnyH_ready (rs := [12]) (by kernel_rfl) (by simp) ?_
      refine AllReadyH.cons (o := { dst := none, op := Op.store 32 (Operand.tmp 35) (Operand.tmp 33), type := 0, pos := "twice.go:39", after := #[{ on := 11, ground := Ground.data }, { on := 9, ground := Ground.data }, { on := 9, ground := Ground.chain }, { on := 0, ground := Ground.phase }, { on := 1, ground := Ground.phase }, { on := 2, ground := Ground.phase }, { on := 3, ground := Ground.phase }, { on := 4, ground := Ground.phase }, { on := 5, ground := Ground.phase }, { on := 6, ground := Ground.phase }, { on := 7, ground := Ground.phase }, { on := 8, ground := Ground.phase }, { on := 9, ground := Ground.phase }], guard := none }) rfl (fun K hK => ?_) AllReadyH.nil
      go_simp
      have rfZ := rf9.put 5 (Value.slice (some ⟨b9, 0, none⟩) (se.length + 1) cc)
      have hss : SpX [f] w9 (w9.setCell ⟨f, 5, none⟩ (Value.slice (some ⟨b9, 0, none⟩) (se.length + 1) cc)) := sp_set
      have HOZ := Lib.hid (HO9.out.spx hss (.inr (by simp <;> omega)))
      have HAZ := Lib.hid (HA9.out.spx hss (hnA.imp id fun e => by simpa using e))
      have HMZ := Lib.hid (HM9.out.spx hss (by simp <;> omega) (by simp <;> omega))
      have hSZ := hS9.trans (hss.more (Y := [f, sb, g, gw]) (by simp <;> omega))
      clear hss
      have ce0 : (w9.setCell ⟨f, 5, none⟩ (Value.slice (some ⟨b9, 0, none⟩) (se.length + 1) cc)).cell? ⟨f, 0, none⟩ = some (Value.int .i64 c.wo) := rfZ.cell 0 rfl
      have ce1 : (w9.setCell ⟨f, 5, none⟩ (Value.slice (some ⟨b9, 0, none⟩) (se.length + 1) cc)).cell? ⟨f, 1, none⟩ = some (Value.int .i64 c.sl) := rfZ.cell 1 rfl
      have ce2 : (w9.setCell ⟨f, 5, none⟩ (Value.slice (some ⟨b9, 0, none⟩) (se.length + 1) cc)).cell? ⟨f, 2, none⟩ = some (Value.int .i64 c.st) := rfZ.cell 2 rfl
      have ce3 : (w9.setCell ⟨f, 5, none⟩ (Value.slice (some ⟨b9, 0, none⟩) (se.length + 1) cc)).cell? ⟨f, 3, none⟩ = some (Value.int .i64 c.wa) := rfZ.cell 3 rfl
      have ce4 : (w9.setCell ⟨f, 5, none⟩ (Value.slice (some ⟨b9, 0, none⟩) (se.length + 1) cc)).cell? ⟨f, 4, none⟩ = some (Value.int .i64 c.us) := rfZ.cell 4 rfl
      have ce6 : (w9.setCell ⟨f, 5, none⟩ (Value.slice (some ⟨b9, 0, none⟩) (se.length + 1) cc)).cell? ⟨f, 6, none⟩ = some (Value.slice A2 ah.length c2) := rfZ.cell 6 rfl
      have ce7 : (w9.setCell ⟨f, 5, none⟩ (Value.slice (some ⟨b9, 0, none⟩) (se.length + 1) cc)).cell? ⟨f, 7, none⟩ = some (Value.int .i64 ro) := rfZ.cell 7 rfl
      have ce8 : (w9.setCell ⟨f, 5, none⟩ (Value.slice (some ⟨b9, 0, none⟩) (se.length + 1) cc)).cell? ⟨f, 8, none⟩ = some (Value.bool false) := rfZ.cell 8 rfl
      refine hK.out _ _ ⟨ce0, ce1, ce2, ce3, ce4, ce6, ce7, ce8⟩ (fun hS => ?_)
      clear hK K
      try simp only [Act.put, List.setIfInBounds_toArray, List.set_cons_zero, List.set_cons_succ]
      refine wpAnyH_done (by kernel_rfl) ?_ _
      generalize (w9.setCell ⟨f, 5, none⟩ (Value.slice (some ⟨b9, 0, none⟩) (se.length + 1) cc)) = w5 at *
      go_wp2_with fail
      have rz0 : RowAt w5.drew f 71 #[Value.int .i64 c.wo, Value.int .i64 c.sl, Value.int .i64 c.st, Value.int .i64 c.wa, Value.int .i64 c.us, Value.slice (some ⟨b9, 0, none⟩) (se.length + 1) cc, Value.slice A2 ah.length c2, Value.int .i64 ro, Value.bool false] := rfZ
      have HOZ := Lib.hid HOZ.out.drew
      have HAZ := Lib.hid HAZ.out.drew
      have HMZ := Lib.hid HMZ.out.drew
      have hSZ := hSZ.drew
      clear rfZ ce0 ce1 ce2 ce3 ce4 ce6 ce7 ce8
      have cz0_0 : w5.drew.cell? ⟨f, 0, none⟩ = some (Value.int .i64 c.wo) := rz0.cell 0 rfl
      have cz0_1 : w5.drew.cell? ⟨f, 1, none⟩ = some (Value.int .i64 c.sl) := rz0.cell 1 rfl
      have cz0_2 : w5.drew.cell? ⟨f, 2, none⟩ = some (Value.int .i64 c.st) := rz0.cell 2 rfl
      have cz0_3 : w5.drew.cell? ⟨f, 3, none⟩ = some (Value.int .i64 c.wa) := rz0.cell 3 rfl
      have cz0_4 : w5.drew.cell? ⟨f, 4, none⟩ = some (Value.int .i64 c.us) := rz0.cell 4 rfl
      have cz0_5 : w5.drew.cell? ⟨f, 5, none⟩ = some (Value.slice (some ⟨b9, 0, none⟩) (se.length + 1) cc) := rz0.cell 5 rfl
      have cz0_6 : w5.drew.cell? ⟨f, 6, none⟩ = some (Value.slice A2 ah.length c2) := rz0.cell 6 rfl
      have cz0_7 : w5.drew.cell? ⟨f, 7, none⟩ = some (Value.int .i64 ro) := rz0.cell 7 rfl
      have cz0_8 : w5.drew.cell? ⟨f, 8, none⟩ = some (Value.bool false) := rz0.cell 8 rfl
      refine wp_region_held_drew (S := (fun w' => w'.cell? ⟨f, 0, none⟩ = some (Value.int .i64 c.wo) ∧ w'.cell? ⟨f, 1, none⟩ = some (Value.int .i64 c.sl) ∧ w'.cell? ⟨f, 2, none⟩ = some (Value.int .i64 c.st) ∧ w'.cell? ⟨f, 3, none⟩ = some (Value.int .i64 c.wa) ∧ w'.cell? ⟨f, 4, none⟩ = some (Value.int .i64 c.us) ∧ w'.cell? ⟨f, 5, none⟩ = some (Value.slice (some ⟨b9, 0, none⟩) (se.length + 1) cc) ∧ w'.cell? ⟨f, 6, none⟩ = some (Value.slice A2 ah.length c2) ∧ w'.cell? ⟨f, 7, none⟩ = some (Value.int .i64 ro) ∧ w'.cell? ⟨f, 8, none⟩ = some (Value.bool false))) (by kernel_rfl) ⟨cz0_0, cz0_1, cz0_2, cz0_3, cz0_4, cz0_5, cz0_6, cz0_7, cz0_8⟩ (fun hS => ?_)
      generalize w5.drew = u0 at *
      refine wpAnyH_take (i := 0) (oi := { dst := some 36, op := Op.move (Operand.tmp 0), type := 37, pos := "twice.go:40", after := #[], guard := none }) (v := ?v0_9) rfl (by kernel_rfl) (by kernel_rfl) (by kernel_rfl) (fun _ _ _ h => h) (Or.inl ⟨by rfl, ?hy0_9⟩) hS ?rest0_9
      case hy0_9 =>
        intro w hSw
        (try dsimp only at hSw)
        go_simp
        try with_reducible rfl
      try simp only [Act.put, List.setIfInBounds_toArray, List.set_cons_zero, List.set_cons_succ]
      refine wpAnyH_take (i := 1) (oi := { dst := some 37, op := Op.nilCheck (Operand.tmp 36), type := 0, pos := "twice.go:40", after := #[{ on := 0, ground := Ground.data }], guard := none }) (v := ?v1_10) rfl (by kernel_rfl) (by kernel_rfl) (by kernel_rfl) (fun _ _ _ h => h) (Or.inl ⟨by rfl, ?hy1_10⟩) hS ?rest1_10
      case hy1_10 =>
        intro w hSw
        (try dsimp only at hSw)
        go_simp
        try with_reducible rfl
      try simp only [Act.put, List.setIfInBounds_toArray, List.set_cons_zero, List.set_cons_succ]
      refine wpAnyH_take (i := 2) (oi := { dst := some 38, op := Op.fieldAddr 71 (Operand.tmp 37) 0, type := 0, pos := "twice.go:40", after := #[{ on := 1, ground := Ground.data }], guard := none }) (v := ?v2_11) rfl (by kernel_rfl) (by kernel_rfl) (by kernel_rfl) (fun _ _ _ h => h) (Or.inl ⟨by rfl, ?hy2_11⟩) hS ?rest2_11
      case hy2_11 =>
        intro w hSw
        (try dsimp only at hSw)
        go_simp
        try with_reducible rfl
      try simp only [Act.put, List.setIfInBounds_toArray, List.set_cons_zero, List.set_cons_succ]
      refine wpAnyH_take (i := 3) (oi := { dst := some 39, op := Op.load 31 (Operand.tmp 38), type := 31, pos := "twice.go:40", after := #[{ on := 2, ground := Ground.data }], guard := none }) (v := ?v3_12) rfl (by kernel_rfl) (by kernel_rfl) (by kernel_rfl) (fun _ _ _ h => h) (Or.inl ⟨by rfl, ?hy3_12⟩) hS ?rest3_12
      case hy3_12 =>
        intro w hSw
        (try dsimp only at hSw)
        go_simp
        try with_reducible rfl
      try simp only [Act.put, List.setIfInBounds_toArray, List.set_cons_zero, List.set_cons_succ]
      refine wpAnyH_take (i := 4) (oi := { dst := some 40, op := Op.move (Operand.tmp 0), type := 37, pos := "twice.go:40", after := #[], guard := none }) (v := ?v4_13) rfl (by kernel_rfl) (by kernel_rfl) (by kernel_rfl) (fun _ _ _ h => h) (Or.inl ⟨by rfl, ?hy4_13⟩) hS ?rest4_13
      case hy4_13 =>
        intro w hSw
        (try dsimp only at hSw)
        go_simp
        try with_reducible rfl
      try simp only [Act.put, List.setIfInBounds_toArray, List.set_cons_zero, List.set_cons_succ]
      refine wpAnyH_take (i := 5) (oi := { dst := some 41, op := Op.nilCheck (Operand.tmp 40), type := 0, pos := "twice.go:40", after := #[{ on := 4, ground := Ground.data }], guard := none }) (v := ?v5_14) rfl (by kernel_rfl) (by kernel_rfl) (by kernel_rfl) (fun _ _ _ h => h) (Or.inl ⟨by rfl, ?hy5_14⟩) hS ?rest5_14
      case hy5_14 =>
        intro w hSw
        (try dsimp only at hSw)
        go_simp
        try with_reducible rfl
      try simp only [Act.put, List.setIfInBounds_toArray, List.set_cons_zero, List.set_cons_succ]
      refine wpAnyH_take (i := 6) (oi := { dst := some 42, op := Op.fieldAddr 71 (Operand.tmp 41) 1, type := 0, pos := "twice.go:40", after := #[{ on := 5, ground := Ground.data }], guard := none }) (v := ?v6_15) rfl (by kernel_rfl) (by kernel_rfl) (by kernel_rfl) (fun _ _ _ h => h) (Or.inl ⟨by rfl, ?hy6_15⟩) hS ?rest6_15
      case hy6_15 =>
        intro w hSw
        (try dsimp only at hSw)
        go_simp
        try with_reducible rfl
      try simp only [Act.put, List.setIfInBounds_toArray, List.set_cons_zero, List.set_cons_succ]
      refine wpAnyH_take (i := 7) (oi := { dst := some 43, op := Op.load 32 (Operand.tmp 42), type := 32, pos := "twice.go:40", after := #[{ on := 6, ground := Ground.data }], guard := none }) (v := ?v7_16) rfl (by kernel_rfl) (by kernel_rfl) (by kernel_rfl) (fun _ _ _ h => h) (Or.inl ⟨by rfl, ?hy7_16⟩) hS ?rest7_16
      case hy7_16 =>
        intro w hSw
        (try dsimp only at hSw)
        go_simp
        try with_reducible rfl
      try simp only [Act.put, List.setIfInBounds_toArray, List.set_cons_zero, List.set_cons_succ]
      refine wpAnyH_take (i := 8) (oi := { dst := some 44, op := Op.call { callee := Callee.builtin Builtin.len, args := #[Operand.tmp 43], argTypes := #[32] }, type := 3, pos := "twice.go:40", after := #[{ on := 7, ground := Ground.data }], guard := none }) (v := ?v8_17) rfl (by kernel_rfl) (by kernel_rfl) (by kernel_rfl) (fun _ _ _ h => h) (Or.inl ⟨by rfl, ?hy8_17⟩) hS ?rest8_17
      case hy8_17 =>
        intro w hSw
        (try dsimp only at hSw)
        go_simp
        try with_reducible rfl
      try simp only [Act.put, List.setIfInBounds_toArray, List.set_cons_zero, List.set_cons_succ]
      refine wpAnyH_ready (rs := [9]) (by kernel_rfl) (by simp) ?_
      refine AllReadyH.cons (o := { dst := some 45, op := Op.call { callee := Callee.value (Operand.func 31), args := #[Operand.tmp 39, Operand.tmp 44], argTypes := #[31, 3] }, type := 3, pos := "twice.go:40", after := #[{ on := 3, ground := Ground.data }, { on := 8, ground := Ground.data }], guard := none }) rfl (fun K hK => ?_) AllReadyH.nil
      go_simp
      refine (slot_any c _ _ Hc.out).mono ?_
      rw [HK2.out]
      rintro e u1 ⟨rfl, hb⟩
      have rz1 := rz0.below hb rz0.lt
      have HO1 := Lib.hid (HOZ.out.on hb)
      have HA1 := Lib.hid (HAZ.out.on hb)
      have HM1 := Lib.hid (HMZ.out.on hb)
      have hS1 := hSZ.on hb
      clear hb
      have cz1_0 : u1.cell? ⟨f, 0, none⟩ = some (Value.int .i64 c.wo) := rz1.cell 0 rfl
      have cz1_1 : u1.cell? ⟨f, 1, none⟩ = some (Value.int .i64 c.sl) := rz1.cell 1 rfl
      have cz1_2 : u1.cell? ⟨f, 2, none⟩ = some (Value.int .i64 c.st) := rz1.cell 2 rfl
      have cz1_3 : u1.cell? ⟨f, 3, none⟩ = some (Value.int .i64 c.wa) := rz1.cell 3 rfl
      have cz1_4 : u1.cell? ⟨f, 4, none⟩ = some (Value.int .i64 c.us) := rz1.cell 4 rfl
      have cz1_5 : u1.cell? ⟨f, 5, none⟩ = some (Value.slice (some ⟨b9, 0, none⟩) (se.length + 1) cc) := rz1.cell 5 rfl
      have cz1_6 : u1.cell? ⟨f, 6, none⟩ = some (Value.slice A2 ah.length c2) := rz1.cell 6 rfl
      have cz1_7 : u1.cell? ⟨f, 7, none⟩ = some (Value.int .i64 ro) := rz1.cell 7 rfl
      have cz1_8 : u1.cell? ⟨f, 8, none⟩ = some (Value.bool false) := rz1.cell 8 rfl
      refine hK.out _ _ ⟨cz1_0, cz1_1, cz1_2, cz1_3, cz1_4, cz1_5, cz1_6, cz1_7, cz1_8⟩ (fun hS => ?_)
      clear hK K
      try simp only [Act.put, List.setIfInBounds_toArray, List.set_cons_zero, List.set_cons_succ]
      refine wpAnyH_take (i := 10) (oi := { dst := some 46, op := Op.binOp BinOp.lss 3 (Operand.tmp 45) (Operand.const (Value.int IntKind.i64 0)) 3, type := 4, pos := "twice.go:40", after := #[{ on := 9, ground := Ground.data }], guard := none }) (v := ?v10_18) rfl (by kernel_rfl) (by kernel_rfl) (by kernel_rfl) (fun _ _ _ h => h) (Or.inl ⟨by rfl, ?hy10_18⟩) hS ?rest10_18
      case hy10_18 =>
        intro w hSw
        (try dsimp only at hSw)
        go_simp
        try with_reducible rfl
      try simp only [Act.put, List.setIfInBounds_toArray, List.set_cons_zero, List.set_cons_succ]
      refine wpAnyH_done (by kernel_rfl) ?_ _
      go_wp2_with fail
      refine (end_any f b9 ab c ⟨se ++ [v], ah, ro, false⟩ _ ⟨⟨_, cc, A2, c2, HRZ.out _ rz1, HOL.out _ HO1.out, HA1.out⟩, hne9⟩ (by simp) (by simp; omega) hro).mono ?_
      rintro e u2 ⟨rfl, ab2, hT2, hs, hab⟩
      have hne2 : b9 ≠ g ∧ b9 ≠ gw := by omega
      have HM2 := HM1.out.spx hs (by simp <;> omega) (by simp <;> omega)
      have hS2 := hS1.trans (hs.more (Y := [f, sb, g, gw]) (by simp <;> omega))
      have hT3 := hT2
      obtain ⟨⟨A3, c3, A4, c4, k1, _⟩, _⟩ := hT2
      have k8 := k1.cell 8 rfl
      simp only at k8
      have habs : w.heap.size ≤ ab2 := by have := hS1.size; omega
      clear k1 hs cz0_0 cz0_1 cz0_2 cz0_3 cz0_4 cz0_5 cz0_6 cz0_7 cz0_8 cz1_0 cz1_1 cz1_2 cz1_3 cz1_4 cz1_5 cz1_6 cz1_7 cz1_8
      go_wp2
      go_ret
      exact HFIN.out _ b9 ab2 hT3 HM2 hS2 (by omega) (.inr habs)
    refine AllReadyH.cons (o := { dst := some 31, op := Op.call { callee := Callee.value (Operand.func 32), args := #[Operand.tmp 29, Operand.tmp 30], argTypes := #[35, 3] }, type := 3, pos := "twice.go:39", after := #[{ on := 5, ground := Ground.data }, { on := 6, ground := Ground.data }], guard := none }) rfl (fun K hK => ?_) AllReadyH.nil
    go_simp
    refine (load_in g gw c0 s KK _ HM0.out hK1 ht).mono ?_
    rw [hsv]
    rintro e u1 ⟨rfl, hm, hs⟩
    have rf1 := rf0.spx hs (by simp <;> omega)
    have HS1 := Lib.hid (HS0.out.spx hs (.inr (by simp <;> omega)))
    have HA1 := Lib.hid (HA0.out.spx hs (.inr (by simp <;> omega)))
    have HM1 := Lib.hid hm
    have hS1 := hS0.trans (hs.more (Y := [f, sb, g, gw]) (by simp <;> omega))
    clear hm hs
    obtain ⟨b9, cc, w9, hrun, HO, hX, hbb⟩ := HS1.out.run1 rf1.lt hn6 v u1.heap.size rfl
    have hS1s := hS1.size
    have cb0 : u1.cell? ⟨f, 0, none⟩ = some (Value.int .i64 c.wo) := rf1.cell 0 rfl
    have cb1 : u1.cell? ⟨f, 1, none⟩ = some (Value.int .i64 c.sl) := rf1.cell 1 rfl
    have cb2 : u1.cell? ⟨f, 2, none⟩ = some (Value.int .i64 c.st) := rf1.cell 2 rfl
    have cb3 : u1.cell? ⟨f, 3, none⟩ = some (Value.int .i64 c.wa) := rf1.cell 3 rfl
    have cb4 : u1.cell? ⟨f, 4, none⟩ = some (Value.int .i64 c.us) := rf1.cell 4 rfl
    have cb6 : u1.cell? ⟨f, 6, none⟩ = some (Value.slice A2 ah.length c2) := rf1.cell 6 rfl
    have cb7 : u1.cell? ⟨f, 7, none⟩ = some (Value.int .i64 ro) := rf1.cell 7 rfl
    have cb8 : u1.cell? ⟨f, 8, none⟩ = some (Value.bool false) := rf1.cell 8 rfl
    have cb5 : u1.cell? ⟨f, 5, none⟩ = some (Value.slice A1 se.length c1) := rf1.cell 5 rfl
    refine hK.out _ _ ⟨cb0, cb1, cb2, cb3, cb4, cb6, cb7, cb8⟩ (fun hS => ?_)
    clear hK K
    try simp only [Act.put, List.setIfInBounds_toArray, List.set_cons_zero, List.set_cons_succ]
    refine wpAnyH_ready (rs := [4, 8]) (by kernel_rfl) (by simp) ?_
    refine AllReadyH.cons (o := { dst := some 28, op := Op.load 32 (Operand.tmp 27), type := 32, pos := "twice.go:39", after := #[{ on := 3, ground := Ground.data }], guard := none }) rfl (fun K hK => ?_) ?_
    ·
      go_simp
      refine hK.out _ _ ⟨cb0, cb1, cb2, cb3, cb4, cb6, cb7, cb8⟩ (fun hS => ?_)
      clear hK K
      try simp only [Act.put, List.setIfInBounds_toArray, List.set_cons_zero, List.set_cons_succ]
      refine wpAnyH_ready (rs := [8]) (by kernel_rfl) (by simp) ?_
      refine AllReadyH.cons (o := { dst := some 32, op := Op.buildSlice 32 1 #[(0, Operand.tmp 31)], type := 32, pos := "twice.go:39", after := #[{ on := 7, ground := Ground.data }], guard := none }) rfl (fun K hK => ?_) AllReadyH.nil
      go_simp
      have rf2 := rf1.alloc (.cells #[Value.int .i64 v] 3)
      have cc_0 : (u1.alloc (.cells #[Value.int .i64 v] 3)).cell? ⟨f, 0, none⟩ = some (Value.int .i64 c.wo) := rf2.cell 0 rfl
      have cc_1 : (u1.alloc (.cells #[Value.int .i64 v] 3)).cell? ⟨f, 1, none⟩ = some (Value.int .i64 c.sl) := rf2.cell 1 rfl
      have cc_2 : (u1.alloc (.cells #[Value.int .i64 v] 3)).cell? ⟨f, 2, none⟩ = some (Value.int .i64 c.st) := rf2.cell 2 rfl
      have cc_3 : (u1.alloc (.cells #[Value.int .i64 v] 3)).cell? ⟨f, 3, none⟩ = some (Value.int .i64 c.wa) := rf2.cell 3 rfl
      have cc_4 : (u1.alloc (.cells #[Value.int .i64 v] 3)).cell? ⟨f, 4, none⟩ = some (Value.int .i64 c.us) := rf2.cell 4 rfl
      have cc_6 : (u1.alloc (.cells #[Value.int .i64 v] 3)).cell? ⟨f, 6, none⟩ = some (Value.slice A2 ah.length c2) := rf2.cell 6 rfl
      have cc_7 : (u1.alloc (.cells #[Value.int .i64 v] 3)).cell? ⟨f, 7, none⟩ = some (Value.int .i64 ro) := rf2.cell 7 rfl
      have cc_8 : (u1.alloc (.cells #[Value.int .i64 v] 3)).cell? ⟨f, 8, none⟩ = some (Value.bool false) := rf2.cell 8 rfl
      have cc_5 : (u1.alloc (.cells #[Value.int .i64 v] 3)).cell? ⟨f, 5, none⟩ = some (Value.slice A1 se.length c1) := rf2.cell 5 rfl
      refine hK.out _ _ ⟨cc_0, cc_1, cc_2, cc_3, cc_4, cc_6, cc_7, cc_8⟩ (fun hS => ?_)
      clear hK K
      try simp only [Act.put, List.setIfInBounds_toArray, List.set_cons_zero, List.set_cons_succ]
      refine wpAnyH_ready (rs := [9]) (by kernel_rfl) (by simp) ?_
      refine AllReadyH.cons (o := { dst := some 33, op := Op.call { callee := Callee.builtin Builtin.append, args := #[Operand.tmp 28, Operand.tmp 32], argTypes := #[32, 32] }, type := 32, pos := "twice.go:39", after := #[{ on := 4, ground := Ground.data }, { on := 8, ground := Ground.data }, { on := 7, ground := Ground.chain }], guard := none }) rfl (fun K hK => ?_) AllReadyH.nil
      (rw [if_pos (by kernel_rfl)]; refine wp_append_run (.tmp 28) (.tmp 32) 32 rfl _ _ rfl rfl _ _ hrun ?_)
      have hX2 := hX (Ow f sb) ow_in
      have rf9 := rf1.spx hX2 (ow_not f sb)
      have HA9 := Lib.hid (HA1.out.spx hX2 hAX)
      have HM9 := Lib.hid (HM1.out.spx hX2 (fun h => hsg (ow_only h).symm) (fun h => hsw (ow_only h).symm))
      have hne9 : b9 = ab → b9 = f := fun e => by have := Hne.out; have := HA1.out.lt; omega
      have hS9 := hS1.trans (hX2.more (Y := [f, sb, g, gw]) (fun k hk => by rw [ow_only hk]; simp))
      have HO9 := Lib.hid HO
      clear HO hX hX2
      have cd0 : w9.cell? ⟨f, 0, none⟩ = some (Value.int .i64 c.wo) := rf9.cell 0 rfl
      have cd1 : w9.cell? ⟨f, 1, none⟩ = some (Value.int .i64 c.sl) := rf9.cell 1 rfl
      have cd2 : w9.cell? ⟨f, 2, none⟩ = some (Value.int .i64 c.st) := rf9.cell 2 rfl
      have cd3 : w9.cell? ⟨f, 3, none⟩ = some (Value.int .i64 c.wa) := rf9.cell 3 rfl
      have cd4 : w9.cell? ⟨f, 4, none⟩ = some (Value.int .i64 c.us) := rf9.cell 4 rfl
      have cd6 : w9.cell? ⟨f, 6, none⟩ = some (Value.slice A2 ah.length c2) := rf9.cell 6 rfl
      have cd7 : w9.cell? ⟨f, 7, none⟩ = some (Value.int .i64 ro) := rf9.cell 7 rfl
      have cd8 : w9.cell? ⟨f, 8, none⟩ = some (Value.bool false) := rf9.cell 8 rfl
      have cd5 : w9.cell? ⟨f, 5, none⟩ = some (Value.slice A1 se.length c1) := rf9.cell 5 rfl
      have g95 := rf9.frozen 5
      refine hK.out _ _ ⟨cd0, cd1, cd2, cd3, cd4, cd6, cd7, cd8⟩ (fun hS => ?_)
      clear hK K
      try simp only [Act.put, List.setIfInBounds_toArray, List.set_cons_zero, List.set_cons_succ]
      refine wpAnyH_take (i := 10) (oi := { dst := some 34, op := Op.nilCheck (Operand.tmp 24), type := 0, pos := "twice.go:39", after := #[{ on := 0, ground := Ground.data }, { on := 0, ground := Ground.phase }, { on := 1, ground := Ground.phase }, { on := 2, ground := Ground.phase }, { on := 3, ground := Ground.phase }, { on := 4, ground := Ground.phase }, { on := 5, ground := Ground.phase }, { on := 6, ground := Ground.phase }, { on := 7, ground := Ground.phase }, { on := 8, ground := Ground.phase }, { on := 9, ground := Ground.phase }], guard := none }) (v := ?v10_19) rfl (by kernel_rfl) (by kernel_rfl) (by kernel_rfl) (fun _ _ _ h => h) (Or.inl ⟨by rfl, ?hy10_19⟩) hS ?rest10_19
      case hy10_19 =>
        intro w hSw
        (try dsimp only at hSw)
        go_simp
        try with_reducible rfl
      try simp only [Act.put, List.setIfInBounds_toArray, List.set_cons_zero, List.set_cons_succ]
      refine wpAnyH_take (i := 11) (oi := { dst := some 35, op := Op.fieldAddr 71 (Operand.tmp 34) 1, type := 0, pos := "twice.go:39", after := #[{ on := 10, ground := Ground.data }, { on := 0, ground := Ground.phase }, { on := 1, ground := Ground.phase }, { on := 2, ground := Ground.phase }, { on := 3, ground := Ground.phase }, { on := 4, ground := Ground.phase }, { on := 5, ground := Ground.phase }, { on := 6, ground := Ground.phase }, { on := 7, ground := Ground.phase }, { on := 8, ground := Ground.phase }, { on := 9, ground := Ground.phase }], guard := none }) (v := ?v11_20) rfl (by kernel_rfl) (by kernel_rfl) (by kernel_rfl) (fun _ _ _ h => h) (Or.inl ⟨by rfl, ?hy11_20⟩) hS ?rest11_20
      case hy11_20 =>
        intro w hSw
        (try dsimp only at hSw)
        go_simp
        try with_reducible rfl
      try simp only [Act.put, List.setIfInBounds_toArray, List.set_cons_zero, List.set_cons_succ]
      refine wpAnyH_ready (rs := [12]) (by kernel_rfl) (by simp) ?_
      refine AllReadyH.cons (o := { dst := none, op := Op.store 32 (Operand.tmp 35) (Operand.tmp 33), type := 0, pos := "twice.go:39", after := #[{ on := 11, ground := Ground.data }, { on := 9, ground := Ground.data }, { on := 9, ground := Ground.chain }, { on := 0, ground := Ground.phase }, { on := 1, ground := Ground.phase }, { on := 2, ground := Ground.phase }, { on := 3, ground := Ground.phase }, { on := 4, ground := Ground.phase }, { on := 5, ground := Ground.phase }, { on := 6, ground := Ground.phase }, { on := 7, ground := Ground.phase }, { on := 8, ground := Ground.phase }, { on := 9, ground := Ground.phase }], guard := none }) rfl (fun K hK => ?_) AllReadyH.nil
      go_simp
      have rfZ := rf9.put 5 (Value.slice (some ⟨b9, 0, none⟩) (se.length + 1) cc)
      have hss : SpX [f] w9 (w9.setCell ⟨f, 5, none⟩ (Value.slice (some ⟨b9, 0, none⟩) (se.length + 1) cc)) := sp_set
      have HOZ := Lib.hid (HO9.out.spx hss (.inr (by simp <;> omega)))
      have HAZ := Lib.hid (HA9.out.spx hss (hnA.imp id fun e => by simpa using e))
      have HMZ := Lib.hid (HM9.out.spx hss (by simp <;> omega) (by simp <;> omega))
      have hSZ := hS9.trans (hss.more (Y := [f, sb, g, gw]) (by simp <;> omega))
      clear hss
      have ce0 : (w9.setCell ⟨f, 5, none⟩ (Value.slice (some ⟨b9, 0, none⟩) (se.length + 1) cc)).cell? ⟨f, 0, none⟩ = some (Value.int .i64 c.wo) := rfZ.cell 0 rfl
      have ce1 : (w9.setCell ⟨f, 5, none⟩ (Value.slice (some ⟨b9, 0, none⟩) (se.length + 1) cc)).cell? ⟨f, 1, none⟩ = some (Value.int .i64 c.sl) := rfZ.cell 1 rfl
      have ce2 : (w9.setCell ⟨f, 5, none⟩ (Value.slice (some ⟨b9, 0, none⟩) (se.length + 1) cc)).cell? ⟨f, 2, none⟩ = some (Value.int .i64 c.st) := rfZ.cell 2 rfl
      have ce3 : (w9.setCell ⟨f, 5, none⟩ (Value.slice (some ⟨b9, 0, none⟩) (se.length + 1) cc)).cell? ⟨f, 3, none⟩ = some (Value.int .i64 c.wa) := rfZ.cell 3 rfl
      have ce4 : (w9.setCell ⟨f, 5, none⟩ (Value.slice (some ⟨b9, 0, none⟩) (se.length + 1) cc)).cell? ⟨f, 4, none⟩ = some (Value.int .i64 c.us) := rfZ.cell 4 rfl
      have ce6 : (w9.setCell ⟨f, 5, none⟩ (Value.slice (some ⟨b9, 0, none⟩) (se.length + 1) cc)).cell? ⟨f, 6, none⟩ = some (Value.slice A2 ah.length c2) := rfZ.cell 6 rfl
      have ce7 : (w9.setCell ⟨f, 5, none⟩ (Value.slice (some ⟨b9, 0, none⟩) (se.length + 1) cc)).cell? ⟨f, 7, none⟩ = some (Value.int .i64 ro) := rfZ.cell 7 rfl
      have ce8 : (w9.setCell ⟨f, 5, none⟩ (Value.slice (some ⟨b9, 0, none⟩) (se.length + 1) cc)).cell? ⟨f, 8, none⟩ = some (Value.bool false) := rfZ.cell 8 rfl
      refine hK.out _ _ ⟨ce0, ce1, ce2, ce3, ce4, ce6, ce7, ce8⟩ (fun hS => ?_)
      clear hK K
      try simp only [Act.put, List.setIfInBounds_toArray, List.set_cons_zero, List.set_cons_succ]
      refine wpAnyH_done (by kernel_rfl) ?_ _
      generalize (w9.setCell ⟨f, 5, none⟩ (Value.slice (some ⟨b9, 0, none⟩) (se.length + 1) cc)) = w5 at *
      go_wp2_with fail
      have rz0 : RowAt w5.drew f 71 #[Value.int .i64 c.wo, Value.int .i64 c.sl, Value.int .i64 c.st, Value.int .i64 c.wa, Value.int .i64 c.us, Value.slice (some ⟨b9, 0, none⟩) (se.length + 1) cc, Value.slice A2 ah.length c2, Value.int .i64 ro, Value.bool false] := rfZ
      have HOZ := Lib.hid HOZ.out.drew
      have HAZ := Lib.hid HAZ.out.drew
      have HMZ := Lib.hid HMZ.out.drew
      have hSZ := hSZ.drew
      clear rfZ ce0 ce1 ce2 ce3 ce4 ce6 ce7 ce8
      have cz0_0 : w5.drew.cell? ⟨f, 0, none⟩ = some (Value.int .i64 c.wo) := rz0.cell 0 rfl
      have cz0_1 : w5.drew.cell? ⟨f, 1, none⟩ = some (Value.int .i64 c.sl) := rz0.cell 1 rfl
      have cz0_2 : w5.drew.cell? ⟨f, 2, none⟩ = some (Value.int .i64 c.st) := rz0.cell 2 rfl
      have cz0_3 : w5.drew.cell? ⟨f, 3, none⟩ = some (Value.int .i64 c.wa) := rz0.cell 3 rfl
      have cz0_4 : w5.drew.cell? ⟨f, 4, none⟩ = some (Value.int .i64 c.us) := rz0.cell 4 rfl
      have cz0_5 : w5.drew.cell? ⟨f, 5, none⟩ = some (Value.slice (some ⟨b9, 0, none⟩) (se.length + 1) cc) := rz0.cell 5 rfl
      have cz0_6 : w5.drew.cell? ⟨f, 6, none⟩ = some (Value.slice A2 ah.length c2) := rz0.cell 6 rfl
      have cz0_7 : w5.drew.cell? ⟨f, 7, none⟩ = some (Value.int .i64 ro) := rz0.cell 7 rfl
      have cz0_8 : w5.drew.cell? ⟨f, 8, none⟩ = some (Value.bool false) := rz0.cell 8 rfl
      refine wp_region_held_drew (S := (fun w' => w'.cell? ⟨f, 0, none⟩ = some (Value.int .i64 c.wo) ∧ w'.cell? ⟨f, 1, none⟩ = some (Value.int .i64 c.sl) ∧ w'.cell? ⟨f, 2, none⟩ = some (Value.int .i64 c.st) ∧ w'.cell? ⟨f, 3, none⟩ = some (Value.int .i64 c.wa) ∧ w'.cell? ⟨f, 4, none⟩ = some (Value.int .i64 c.us) ∧ w'.cell? ⟨f, 5, none⟩ = some (Value.slice (some ⟨b9, 0, none⟩) (se.length + 1) cc) ∧ w'.cell? ⟨f, 6, none⟩ = some (Value.slice A2 ah.length c2) ∧ w'.cell? ⟨f, 7, none⟩ = some (Value.int .i64 ro) ∧ w'.cell? ⟨f, 8, none⟩ = some (Value.bool false))) (by kernel_rfl) ⟨cz0_0, cz0_1, cz0_2, cz0_3, cz0_4, cz0_5, cz0_6, cz0_7, cz0_8⟩ (fun hS => ?_)
      generalize w5.drew = u0 at *
      refine wpAnyH_take (i := 0) (oi := { dst := some 36, op := Op.move (Operand.tmp 0), type := 37, pos := "twice.go:40", after := #[], guard := none }) (v := ?v0_21) rfl (by kernel_rfl) (by kernel_rfl) (by kernel_rfl) (fun _ _ _ h => h) (Or.inl ⟨by rfl, ?hy0_21⟩) hS ?rest0_21
      case hy0_21 =>
        intro w hSw
        (try dsimp only at hSw)
        go_simp
        try with_reducible rfl
      try simp only [Act.put, List.setIfInBounds_toArray, List.set_cons_zero, List.set_cons_succ]
      refine wpAnyH_take (i := 1) (oi := { dst := some 37, op := Op.nilCheck (Operand.tmp 36), type := 0, pos := "twice.go:40", after := #[{ on := 0, ground := Ground.data }], guard := none }) (v := ?v1_22) rfl (by kernel_rfl) (by kernel_rfl) (by kernel_rfl) (fun _ _ _ h => h) (Or.inl ⟨by rfl, ?hy1_22⟩) hS ?rest1_22
      case hy1_22 =>
        intro w hSw
        (try dsimp only at hSw)
        go_simp
        try with_reducible rfl
      try simp only [Act.put, List.setIfInBounds_toArray, List.set_cons_zero, List.set_cons_succ]
      refine wpAnyH_take (i := 2) (oi := { dst := some 38, op := Op.fieldAddr 71 (Operand.tmp 37) 0, type := 0, pos := "twice.go:40", after := #[{ on := 1, ground := Ground.data }], guard := none }) (v := ?v2_23) rfl (by kernel_rfl) (by kernel_rfl) (by kernel_rfl) (fun _ _ _ h => h) (Or.inl ⟨by rfl, ?hy2_23⟩) hS ?rest2_23
      case hy2_23 =>
        intro w hSw
        (try dsimp only at hSw)
        go_simp
        try with_reducible rfl
      try simp only [Act.put, List.setIfInBounds_toArray, List.set_cons_zero, List.set_cons_succ]
      refine wpAnyH_take (i := 3) (oi := { dst := some 39, op := Op.load 31 (Operand.tmp 38), type := 31, pos := "twice.go:40", after := #[{ on := 2, ground := Ground.data }], guard := none }) (v := ?v3_24) rfl (by kernel_rfl) (by kernel_rfl) (by kernel_rfl) (fun _ _ _ h => h) (Or.inl ⟨by rfl, ?hy3_24⟩) hS ?rest3_24
      case hy3_24 =>
        intro w hSw
        (try dsimp only at hSw)
        go_simp
        try with_reducible rfl
      try simp only [Act.put, List.setIfInBounds_toArray, List.set_cons_zero, List.set_cons_succ]
      refine wpAnyH_take (i := 4) (oi := { dst := some 40, op := Op.move (Operand.tmp 0), type := 37, pos := "twice.go:40", after := #[], guard := none }) (v := ?v4_25) rfl (by kernel_rfl) (by kernel_rfl) (by kernel_rfl) (fun _ _ _ h => h) (Or.inl ⟨by rfl, ?hy4_25⟩) hS ?rest4_25
      case hy4_25 =>
        intro w hSw
        (try dsimp only at hSw)
        go_simp
        try with_reducible rfl
      try simp only [Act.put, List.setIfInBounds_toArray, List.set_cons_zero, List.set_cons_succ]
      refine wpAnyH_take (i := 5) (oi := { dst := some 41, op := Op.nilCheck (Operand.tmp 40), type := 0, pos := "twice.go:40", after := #[{ on := 4, ground := Ground.data }], guard := none }) (v := ?v5_26) rfl (by kernel_rfl) (by kernel_rfl) (by kernel_rfl) (fun _ _ _ h => h) (Or.inl ⟨by rfl, ?hy5_26⟩) hS ?rest5_26
      case hy5_26 =>
        intro w hSw
        (try dsimp only at hSw)
        go_simp
        try with_reducible rfl
      try simp only [Act.put, List.setIfInBounds_toArray, List.set_cons_zero, List.set_cons_succ]
      refine wpAnyH_take (i := 6) (oi := { dst := some 42, op := Op.fieldAddr 71 (Operand.tmp 41) 1, type := 0, pos := "twice.go:40", after := #[{ on := 5, ground := Ground.data }], guard := none }) (v := ?v6_27) rfl (by kernel_rfl) (by kernel_rfl) (by kernel_rfl) (fun _ _ _ h => h) (Or.inl ⟨by rfl, ?hy6_27⟩) hS ?rest6_27
      case hy6_27 =>
        intro w hSw
        (try dsimp only at hSw)
        go_simp
        try with_reducible rfl
      try simp only [Act.put, List.setIfInBounds_toArray, List.set_cons_zero, List.set_cons_succ]
      refine wpAnyH_take (i := 7) (oi := { dst := some 43, op := Op.load 32 (Operand.tmp 42), type := 32, pos := "twice.go:40", after := #[{ on := 6, ground := Ground.data }], guard := none }) (v := ?v7_28) rfl (by kernel_rfl) (by kernel_rfl) (by kernel_rfl) (fun _ _ _ h => h) (Or.inl ⟨by rfl, ?hy7_28⟩) hS ?rest7_28
      case hy7_28 =>
        intro w hSw
        (try dsimp only at hSw)
        go_simp
        try with_reducible rfl
      try simp only [Act.put, List.setIfInBounds_toArray, List.set_cons_zero, List.set_cons_succ]
      refine wpAnyH_take (i := 8) (oi := { dst := some 44, op := Op.call { callee := Callee.builtin Builtin.len, args := #[Operand.tmp 43], argTypes := #[32] }, type := 3, pos := "twice.go:40", after := #[{ on := 7, ground := Ground.data }], guard := none }) (v := ?v8_29) rfl (by kernel_rfl) (by kernel_rfl) (by kernel_rfl) (fun _ _ _ h => h) (Or.inl ⟨by rfl, ?hy8_29⟩) hS ?rest8_29
      case hy8_29 =>
        intro w hSw
        (try dsimp only at hSw)
        go_simp
        try with_reducible rfl
      try simp only [Act.put, List.setIfInBounds_toArray, List.set_cons_zero, List.set_cons_succ]
      refine wpAnyH_ready (rs := [9]) (by kernel_rfl) (by simp) ?_
      refine AllReadyH.cons (o := { dst := some 45, op := Op.call { callee := Callee.value (Operand.func 31), args := #[Operand.tmp 39, Operand.tmp 44], argTypes := #[31, 3] }, type := 3, pos := "twice.go:40", after := #[{ on := 3, ground := Ground.data }, { on := 8, ground := Ground.data }], guard := none }) rfl (fun K hK => ?_) AllReadyH.nil
      go_simp
      refine (slot_any c _ _ Hc.out).mono ?_
      rw [HK2.out]
      rintro e u1 ⟨rfl, hb⟩
      have rz1 := rz0.below hb rz0.lt
      have HO1 := Lib.hid (HOZ.out.on hb)
      have HA1 := Lib.hid (HAZ.out.on hb)
      have HM1 := Lib.hid (HMZ.out.on hb)
      have hS1 := hSZ.on hb
      clear hb
      have cz1_0 : u1.cell? ⟨f, 0, none⟩ = some (Value.int .i64 c.wo) := rz1.cell 0 rfl
      have cz1_1 : u1.cell? ⟨f, 1, none⟩ = some (Value.int .i64 c.sl) := rz1.cell 1 rfl
      have cz1_2 : u1.cell? ⟨f, 2, none⟩ = some (Value.int .i64 c.st) := rz1.cell 2 rfl
      have cz1_3 : u1.cell? ⟨f, 3, none⟩ = some (Value.int .i64 c.wa) := rz1.cell 3 rfl
      have cz1_4 : u1.cell? ⟨f, 4, none⟩ = some (Value.int .i64 c.us) := rz1.cell 4 rfl
      have cz1_5 : u1.cell? ⟨f, 5, none⟩ = some (Value.slice (some ⟨b9, 0, none⟩) (se.length + 1) cc) := rz1.cell 5 rfl
      have cz1_6 : u1.cell? ⟨f, 6, none⟩ = some (Value.slice A2 ah.length c2) := rz1.cell 6 rfl
      have cz1_7 : u1.cell? ⟨f, 7, none⟩ = some (Value.int .i64 ro) := rz1.cell 7 rfl
      have cz1_8 : u1.cell? ⟨f, 8, none⟩ = some (Value.bool false) := rz1.cell 8 rfl
      refine hK.out _ _ ⟨cz1_0, cz1_1, cz1_2, cz1_3, cz1_4, cz1_5, cz1_6, cz1_7, cz1_8⟩ (fun hS => ?_)
      clear hK K
      try simp only [Act.put, List.setIfInBounds_toArray, List.set_cons_zero, List.set_cons_succ]
      refine wpAnyH_take (i := 10) (oi := { dst := some 46, op := Op.binOp BinOp.lss 3 (Operand.tmp 45) (Operand.const (Value.int IntKind.i64 0)) 3, type := 4, pos := "twice.go:40", after := #[{ on := 9, ground := Ground.data }], guard := none }) (v := ?v10_30) rfl (by kernel_rfl) (by kernel_rfl) (by kernel_rfl) (fun _ _ _ h => h) (Or.inl ⟨by rfl, ?hy10_30⟩) hS ?rest10_30
      case hy10_30 =>
        intro w hSw
        (try dsimp only at hSw)
        go_simp
        try with_reducible rfl
      try simp only [Act.put, List.setIfInBounds_toArray, List.set_cons_zero, List.set_cons_succ]
      refine wpAnyH_done (by kernel_rfl) ?_ _
      go_wp2_with fail
      refine (end_any f b9 ab c ⟨se ++ [v], ah, ro, false⟩ _ ⟨⟨_, cc, A2, c2, HRZ.out _ rz1, HOL.out _ HO1.out, HA1.out⟩, hne9⟩ (by simp) (by simp; omega) hro).mono ?_
      rintro e u2 ⟨rfl, ab2, hT2, hs, hab⟩
      have hne2 : b9 ≠ g ∧ b9 ≠ gw := by omega
      have HM2 := HM1.out.spx hs (by simp <;> omega) (by simp <;> omega)
      have hS2 := hS1.trans (hs.more (Y := [f, sb, g, gw]) (by simp <;> omega))
      have hT3 := hT2
      obtain ⟨⟨A3, c3, A4, c4, k1, _⟩, _⟩ := hT2
      have k8 := k1.cell 8 rfl
      simp only at k8
      have habs : w.heap.size ≤ ab2 := by have := hS1.size; omega
      clear k1 hs cz0_0 cz0_1 cz0_2 cz0_3 cz0_4 cz0_5 cz0_6 cz0_7 cz0_8 cz1_0 cz1_1 cz1_2 cz1_3 cz1_4 cz1_5 cz1_6 cz1_7 cz1_8
      go_wp2
      go_ret
      exact HFIN.out _ b9 ab2 hT3 HM2 hS2 (by omega) (.inr habs)
    refine AllReadyH.cons (o := { dst := some 32, op := Op.buildSlice 32 1 #[(0, Operand.tmp 31)], type := 32, pos := "twice.go:39", after := #[{ on := 7, ground := Ground.data }], guard := none }) rfl (fun K hK => ?_) AllReadyH.nil
    go_simp
    have rf2 := rf1.alloc (.cells #[Value.int .i64 v] 3)
    have cc_0 : (u1.alloc (.cells #[Value.int .i64 v] 3)).cell? ⟨f, 0, none⟩ = some (Value.int .i64 c.wo) := rf2.cell 0 rfl
    have cc_1 : (u1.alloc (.cells #[Value.int .i64 v] 3)).cell? ⟨f, 1, none⟩ = some (Value.int .i64 c.sl) := rf2.cell 1 rfl
    have cc_2 : (u1.alloc (.cells #[Value.int .i64 v] 3)).cell? ⟨f, 2, none⟩ = some (Value.int .i64 c.st) := rf2.cell 2 rfl
    have cc_3 : (u1.alloc (.cells #[Value.int .i64 v] 3)).cell? ⟨f, 3, none⟩ = some (Value.int .i64 c.wa) := rf2.cell 3 rfl
    have cc_4 : (u1.alloc (.cells #[Value.int .i64 v] 3)).cell? ⟨f, 4, none⟩ = some (Value.int .i64 c.us) := rf2.cell 4 rfl
    have cc_6 : (u1.alloc (.cells #[Value.int .i64 v] 3)).cell? ⟨f, 6, none⟩ = some (Value.slice A2 ah.length c2) := rf2.cell 6 rfl
    have cc_7 : (u1.alloc (.cells #[Value.int .i64 v] 3)).cell? ⟨f, 7, none⟩ = some (Value.int .i64 ro) := rf2.cell 7 rfl
    have cc_8 : (u1.alloc (.cells #[Value.int .i64 v] 3)).cell? ⟨f, 8, none⟩ = some (Value.bool false) := rf2.cell 8 rfl
    have cc_5 : (u1.alloc (.cells #[Value.int .i64 v] 3)).cell? ⟨f, 5, none⟩ = some (Value.slice A1 se.length c1) := rf2.cell 5 rfl
    refine hK.out _ _ ⟨cc_0, cc_1, cc_2, cc_3, cc_4, cc_6, cc_7, cc_8⟩ (fun hS => ?_)
    clear hK K
    try simp only [Act.put, List.setIfInBounds_toArray, List.set_cons_zero, List.set_cons_succ]
    refine wpAnyH_ready (rs := [4]) (by kernel_rfl) (by simp) ?_
    refine AllReadyH.cons (o := { dst := some 28, op := Op.load 32 (Operand.tmp 27), type := 32, pos := "twice.go:39", after := #[{ on := 3, ground := Ground.data }], guard := none }) rfl (fun K hK => ?_) AllReadyH.nil
    go_simp
    refine hK.out _ _ ⟨cc_0, cc_1, cc_2, cc_3, cc_4, cc_6, cc_7, cc_8⟩ (fun hS => ?_)
    clear hK K
    try simp only [Act.put, List.setIfInBounds_toArray, List.set_cons_zero, List.set_cons_succ]
    refine wpAnyH_ready (rs := [9]) (by kernel_rfl) (by simp) ?_
    refine AllReadyH.cons (o := { dst := some 33, op := Op.call { callee := Callee.builtin Builtin.append, args := #[Operand.tmp 28, Operand.tmp 32], argTypes := #[32, 32] }, type := 32, pos := "twice.go:39", after := #[{ on := 4, ground := Ground.data }, { on := 8, ground := Ground.data }, { on := 7, ground := Ground.chain }], guard := none }) rfl (fun K hK => ?_) AllReadyH.nil
    (rw [if_pos (by kernel_rfl)]; refine wp_append_run (.tmp 28) (.tmp 32) 32 rfl _ _ rfl rfl _ _ hrun ?_)
    have hX2 := hX (Ow f sb) ow_in
    have rf9 := rf1.spx hX2 (ow_not f sb)
    have HA9 := Lib.hid (HA1.out.spx hX2 hAX)
    have HM9 := Lib.hid (HM1.out.spx hX2 (fun h => hsg (ow_only h).symm) (fun h => hsw (ow_only h).symm))
    have hne9 : b9 = ab → b9 = f := fun e => by have := Hne.out; have := HA1.out.lt; omega
    have hS9 := hS1.trans (hX2.more (Y := [f, sb, g, gw]) (fun k hk => by rw [ow_only hk]; simp))
    have HO9 := Lib.hid HO
    clear HO hX hX2
    have cd0 : w9.cell? ⟨f, 0, none⟩ = some (Value.int .i64 c.wo) := rf9.cell 0 rfl
    have cd1 : w9.cell? ⟨f, 1, none⟩ = some (Value.int .i64 c.sl) := rf9.cell 1 rfl
    have cd2 : w9.cell? ⟨f, 2, none⟩ = some (Value.int .i64 c.st) := rf9.cell 2 rfl
    have cd3 : w9.cell? ⟨f, 3, none⟩ = some (Value.int .i64 c.wa) := rf9.cell 3 rfl
    have cd4 : w9.cell? ⟨f, 4, none⟩ = some (Value.int .i64 c.us) := rf9.cell 4 rfl
    have cd6 : w9.cell? ⟨f, 6, none⟩ = some (Value.slice A2 ah.length c2) := rf9.cell 6 rfl
    have cd7 : w9.cell? ⟨f, 7, none⟩ = some (Value.int .i64 ro) := rf9.cell 7 rfl
    have cd8 : w9.cell? ⟨f, 8, none⟩ = some (Value.bool false) := rf9.cell 8 rfl
    have cd5 : w9.cell? ⟨f, 5, none⟩ = some (Value.slice A1 se.length c1) := rf9.cell 5 rfl
    have g95 := rf9.frozen 5
    refine hK.out _ _ ⟨cd0, cd1, cd2, cd3, cd4, cd6, cd7, cd8⟩ (fun hS => ?_)
    clear hK K
    try simp only [Act.put, List.setIfInBounds_toArray, List.set_cons_zero, List.set_cons_succ]
    refine wpAnyH_take (i := 10) (oi := { dst := some 34, op := Op.nilCheck (Operand.tmp 24), type := 0, pos := "twice.go:39", after := #[{ on := 0, ground := Ground.data }, { on := 0, ground := Ground.phase }, { on := 1, ground := Ground.phase }, { on := 2, ground := Ground.phase }, { on := 3, ground := Ground.phase }, { on := 4, ground := Ground.phase }, { on := 5, ground := Ground.phase }, { on := 6, ground := Ground.phase }, { on := 7, ground := Ground.phase }, { on := 8, ground := Ground.phase }, { on := 9, ground := Ground.phase }], guard := none }) (v := ?v10_31) rfl (by kernel_rfl) (by kernel_rfl) (by kernel_rfl) (fun _ _ _ h => h) (Or.inl ⟨by rfl, ?hy10_31⟩) hS ?rest10_31
    case hy10_31 =>
      intro w hSw
      (try dsimp only at hSw)
      go_simp
      try with_reducible rfl
    try simp only [Act.put, List.setIfInBounds_toArray, List.set_cons_zero, List.set_cons_succ]
    refine wpAnyH_take (i := 11) (oi := { dst := some 35, op := Op.fieldAddr 71 (Operand.tmp 34) 1, type := 0, pos := "twice.go:39", after := #[{ on := 10, ground := Ground.data }, { on := 0, ground := Ground.phase }, { on := 1, ground := Ground.phase }, { on := 2, ground := Ground.phase }, { on := 3, ground := Ground.phase }, { on := 4, ground := Ground.phase }, { on := 5, ground := Ground.phase }, { on := 6, ground := Ground.phase }, { on := 7, ground := Ground.phase }, { on := 8, ground := Ground.phase }, { on := 9, ground := Ground.phase }], guard := none }) (v := ?v11_32) rfl (by kernel_rfl) (by kernel_rfl) (by kernel_rfl) (fun _ _ _ h => h) (Or.inl ⟨by rfl, ?hy11_32⟩) hS ?rest11_32
    case hy11_32 =>
      intro w hSw
      (try dsimp only at hSw)
      go_simp
      try with_reducible rfl
    try simp only [Act.put, List.setIfInBounds_toArray, List.set_cons_zero, List.set_cons_succ]
    refine wpAnyH_ready (rs := [12]) (by kernel_rfl) (by simp) ?_
    refine AllReadyH.cons (o := { dst := none, op := Op.store 32 (Operand.tmp 35) (Operand.tmp 33), type := 0, pos := "twice.go:39", after := #[{ on := 11, ground := Ground.data }, { on := 9, ground := Ground.data }, { on := 9, ground := Ground.chain }, { on := 0, ground := Ground.phase }, { on := 1, ground := Ground.phase }, { on := 2, ground := Ground.phase }, { on := 3, ground := Ground.phase }, { on := 4, ground := Ground.phase }, { on := 5, ground := Ground.phase }, { on := 6, ground := Ground.phase }, { on := 7, ground := Ground.phase }, { on := 8, ground := Ground.phase }, { on := 9, ground := Ground.phase }], guard := none }) rfl (fun K hK => ?_) AllReadyH.nil
    go_simp
    have rfZ := rf9.put 5 (Value.slice (some ⟨b9, 0, none⟩) (se.length + 1) cc)
    have hss : SpX [f] w9 (w9.setCell ⟨f, 5, none⟩ (Value.slice (some ⟨b9, 0, none⟩) (se.length + 1) cc)) := sp_set
    have HOZ := Lib.hid (HO9.out.spx hss (.inr (by simp <;> omega)))
    have HAZ := Lib.hid (HA9.out.spx hss (hnA.imp id fun e => by simpa using e))
    have HMZ := Lib.hid (HM9.out.spx hss (by simp <;> omega) (by simp <;> omega))
    have hSZ := hS9.trans (hss.more (Y := [f, sb, g, gw]) (by simp <;> omega))
    clear hss
    have ce0 : (w9.setCell ⟨f, 5, none⟩ (Value.slice (some ⟨b9, 0, none⟩) (se.length + 1) cc)).cell? ⟨f, 0, none⟩ = some (Value.int .i64 c.wo) := rfZ.cell 0 rfl
    have ce1 : (w9.setCell ⟨f, 5, none⟩ (Value.slice (some ⟨b9, 0, none⟩) (se.length + 1) cc)).cell? ⟨f, 1, none⟩ = some (Value.int .i64 c.sl) := rfZ.cell 1 rfl
    have ce2 : (w9.setCell ⟨f, 5, none⟩ (Value.slice (some ⟨b9, 0, none⟩) (se.length + 1) cc)).cell? ⟨f, 2, none⟩ = some (Value.int .i64 c.st) := rfZ.cell 2 rfl
    have ce3 : (w9.setCell ⟨f, 5, none⟩ (Value.slice (some ⟨b9, 0, none⟩) (se.length + 1) cc)).cell? ⟨f, 3, none⟩ = some (Value.int .i64 c.wa) := rfZ.cell 3 rfl
    have ce4 : (w9.setCell ⟨f, 5, none⟩ (Value.slice (some ⟨b9, 0, none⟩) (se.length + 1) cc)).cell? ⟨f, 4, none⟩ = some (Value.int .i64 c.us) := rfZ.cell 4 rfl
    have ce6 : (w9.setCell ⟨f, 5, none⟩ (Value.slice (some ⟨b9, 0, none⟩) (se.length + 1) cc)).cell? ⟨f, 6, none⟩ = some (Value.slice A2 ah.length c2) := rfZ.cell 6 rfl
    have ce7 : (w9.setCell ⟨f, 5, none⟩ (Value.slice (some ⟨b9, 0, none⟩) (se.length + 1) cc)).cell? ⟨f, 7, none⟩ = some (Value.int .i64 ro) := rfZ.cell 7 rfl
    have ce8 : (w9.setCell ⟨f, 5, none⟩ (Value.slice (some ⟨b9, 0, none⟩) (se.length + 1) cc)).cell? ⟨f, 8, none⟩ = some (Value.bool false) := rfZ.cell 8 rfl
    refine hK.out _ _ ⟨ce0, ce1, ce2, ce3, ce4, ce6, ce7, ce8⟩ (fun hS => ?_)
    clear hK K
    try simp only [Act.put, List.setIfInBounds_toArray, List.set_cons_zero, List.set_cons_succ]
    refine wpAnyH_done (by kernel_rfl) ?_ _
    generalize (w9.setCell ⟨f, 5, none⟩ (Value.slice (some ⟨b9, 0, none⟩) (se.length + 1) cc)) = w5 at *
    go_wp2_with fail
    have rz0 : RowAt w5.drew f 71 #[Value.int .i64 c.wo, Value.int .i64 c.sl, Value.int .i64 c.st, Value.int .i64 c.wa, Value.int .i64 c.us, Value.slice (some ⟨b9, 0, none⟩) (se.length + 1) cc, Value.slice A2 ah.length c2, Value.int .i64 ro, Value.bool false] := rfZ
    have HOZ := Lib.hid HOZ.out.drew
    have HAZ := Lib.hid HAZ.out.drew
    have HMZ := Lib.hid HMZ.out.drew
    have hSZ := hSZ.drew
    clear rfZ ce0 ce1 ce2 ce3 ce4 ce6 ce7 ce8
    have cz0_0 : w5.drew.cell? ⟨f, 0, none⟩ = some (Value.int .i64 c.wo) := rz0.cell 0 rfl
    have cz0_1 : w5.drew.cell? ⟨f, 1, none⟩ = some (Value.int .i64 c.sl) := rz0.cell 1 rfl
    have cz0_2 : w5.drew.cell? ⟨f, 2, none⟩ = some (Value.int .i64 c.st) := rz0.cell 2 rfl
    have cz0_3 : w5.drew.cell? ⟨f, 3, none⟩ = some (Value.int .i64 c.wa) := rz0.cell 3 rfl
    have cz0_4 : w5.drew.cell? ⟨f, 4, none⟩ = some (Value.int .i64 c.us) := rz0.cell 4 rfl
    have cz0_5 : w5.drew.cell? ⟨f, 5, none⟩ = some (Value.slice (some ⟨b9, 0, none⟩) (se.length + 1) cc) := rz0.cell 5 rfl
    have cz0_6 : w5.drew.cell? ⟨f, 6, none⟩ = some (Value.slice A2 ah.length c2) := rz0.cell 6 rfl
    have cz0_7 : w5.drew.cell? ⟨f, 7, none⟩ = some (Value.int .i64 ro) := rz0.cell 7 rfl
    have cz0_8 : w5.drew.cell? ⟨f, 8, none⟩ = some (Value.bool false) := rz0.cell 8 rfl
    refine wp_region_held_drew (S := (fun w' => w'.cell? ⟨f, 0, none⟩ = some (Value.int .i64 c.wo) ∧ w'.cell? ⟨f, 1, none⟩ = some (Value.int .i64 c.sl) ∧ w'.cell? ⟨f, 2, none⟩ = some (Value.int .i64 c.st) ∧ w'.cell? ⟨f, 3, none⟩ = some (Value.int .i64 c.wa) ∧ w'.cell? ⟨f, 4, none⟩ = some (Value.int .i64 c.us) ∧ w'.cell? ⟨f, 5, none⟩ = some (Value.slice (some ⟨b9, 0, none⟩) (se.length + 1) cc) ∧ w'.cell? ⟨f, 6, none⟩ = some (Value.slice A2 ah.length c2) ∧ w'.cell? ⟨f, 7, none⟩ = some (Value.int .i64 ro) ∧ w'.cell? ⟨f, 8, none⟩ = some (Value.bool false))) (by kernel_rfl) ⟨cz0_0, cz0_1, cz0_2, cz0_3, cz0_4, cz0_5, cz0_6, cz0_7, cz0_8⟩ (fun hS => ?_)
    generalize w5.drew = u0 at *
    refine wpAnyH_take (i := 0) (oi := { dst := some 36, op := Op.move (Operand.tmp 0), type := 37, pos := "twice.go:40", after := #[], guard := none }) (v := ?v0_33) rfl (by kernel_rfl) (by kernel_rfl) (by kernel_rfl) (fun _ _ _ h => h) (Or.inl ⟨by rfl, ?hy0_33⟩) hS ?rest0_33
    case hy0_33 =>
      intro w hSw
      (try dsimp only at hSw)
      go_simp
      try with_reducible rfl
    try simp only [Act.put, List.setIfInBounds_toArray, List.set_cons_zero, List.set_cons_succ]
    refine wpAnyH_take (i := 1) (oi := { dst := some 37, op := Op.nilCheck (Operand.tmp 36), type := 0, pos := "twice.go:40", after := #[{ on := 0, ground := Ground.data }], guard := none }) (v := ?v1_34) rfl (by kernel_rfl) (by kernel_rfl) (by kernel_rfl) (fun _ _ _ h => h) (Or.inl ⟨by rfl, ?hy1_34⟩) hS ?rest1_34
    case hy1_34 =>
      intro w hSw
      (try dsimp only at hSw)
      go_simp
      try with_reducible rfl
    try simp only [Act.put, List.setIfInBounds_toArray, List.set_cons_zero, List.set_cons_succ]
    refine wpAnyH_take (i := 2) (oi := { dst := some 38, op := Op.fieldAddr 71 (Operand.tmp 37) 0, type := 0, pos := "twice.go:40", after := #[{ on := 1, ground := Ground.data }], guard := none }) (v := ?v2_35) rfl (by kernel_rfl) (by kernel_rfl) (by kernel_rfl) (fun _ _ _ h => h) (Or.inl ⟨by rfl, ?hy2_35⟩) hS ?rest2_35
    case hy2_35 =>
      intro w hSw
      (try dsimp only at hSw)
      go_simp
      try with_reducible rfl
    try simp only [Act.put, List.setIfInBounds_toArray, List.set_cons_zero, List.set_cons_succ]
    refine wpAnyH_take (i := 3) (oi := { dst := some 39, op := Op.load 31 (Operand.tmp 38), type := 31, pos := "twice.go:40", after := #[{ on := 2, ground := Ground.data }], guard := none }) (v := ?v3_36) rfl (by kernel_rfl) (by kernel_rfl) (by kernel_rfl) (fun _ _ _ h => h) (Or.inl ⟨by rfl, ?hy3_36⟩) hS ?rest3_36
    case hy3_36 =>
      intro w hSw
      (try dsimp only at hSw)
      go_simp
      try with_reducible rfl
    try simp only [Act.put, List.setIfInBounds_toArray, List.set_cons_zero, List.set_cons_succ]
    refine wpAnyH_take (i := 4) (oi := { dst := some 40, op := Op.move (Operand.tmp 0), type := 37, pos := "twice.go:40", after := #[], guard := none }) (v := ?v4_37) rfl (by kernel_rfl) (by kernel_rfl) (by kernel_rfl) (fun _ _ _ h => h) (Or.inl ⟨by rfl, ?hy4_37⟩) hS ?rest4_37
    case hy4_37 =>
      intro w hSw
      (try dsimp only at hSw)
      go_simp
      try with_reducible rfl
    try simp only [Act.put, List.setIfInBounds_toArray, List.set_cons_zero, List.set_cons_succ]
    refine wpAnyH_take (i := 5) (oi := { dst := some 41, op := Op.nilCheck (Operand.tmp 40), type := 0, pos := "twice.go:40", after := #[{ on := 4, ground := Ground.data }], guard := none }) (v := ?v5_38) rfl (by kernel_rfl) (by kernel_rfl) (by kernel_rfl) (fun _ _ _ h => h) (Or.inl ⟨by rfl, ?hy5_38⟩) hS ?rest5_38
    case hy5_38 =>
      intro w hSw
      (try dsimp only at hSw)
      go_simp
      try with_reducible rfl
    try simp only [Act.put, List.setIfInBounds_toArray, List.set_cons_zero, List.set_cons_succ]
    refine wpAnyH_take (i := 6) (oi := { dst := some 42, op := Op.fieldAddr 71 (Operand.tmp 41) 1, type := 0, pos := "twice.go:40", after := #[{ on := 5, ground := Ground.data }], guard := none }) (v := ?v6_39) rfl (by kernel_rfl) (by kernel_rfl) (by kernel_rfl) (fun _ _ _ h => h) (Or.inl ⟨by rfl, ?hy6_39⟩) hS ?rest6_39
    case hy6_39 =>
      intro w hSw
      (try dsimp only at hSw)
      go_simp
      try with_reducible rfl
    try simp only [Act.put, List.setIfInBounds_toArray, List.set_cons_zero, List.set_cons_succ]
    refine wpAnyH_take (i := 7) (oi := { dst := some 43, op := Op.load 32 (Operand.tmp 42), type := 32, pos := "twice.go:40", after := #[{ on := 6, ground := Ground.data }], guard := none }) (v := ?v7_40) rfl (by kernel_rfl) (by kernel_rfl) (by kernel_rfl) (fun _ _ _ h => h) (Or.inl ⟨by rfl, ?hy7_40⟩) hS ?rest7_40
    case hy7_40 =>
      intro w hSw
      (try dsimp only at hSw)
      go_simp
      try with_reducible rfl
    try simp only [Act.put, List.setIfInBounds_toArray, List.set_cons_zero, List.set_cons_succ]
    refine wpAnyH_take (i := 8) (oi := { dst := some 44, op := Op.call { callee := Callee.builtin Builtin.len, args := #[Operand.tmp 43], argTypes := #[32] }, type := 3, pos := "twice.go:40", after := #[{ on := 7, ground := Ground.data }], guard := none }) (v := ?v8_41) rfl (by kernel_rfl) (by kernel_rfl) (by kernel_rfl) (fun _ _ _ h => h) (Or.inl ⟨by rfl, ?hy8_41⟩) hS ?rest8_41
    case hy8_41 =>
      intro w hSw
      (try dsimp only at hSw)
      go_simp
      try with_reducible rfl
    try simp only [Act.put, List.setIfInBounds_toArray, List.set_cons_zero, List.set_cons_succ]
    refine wpAnyH_ready (rs := [9]) (by kernel_rfl) (by simp) ?_
    refine AllReadyH.cons (o := { dst := some 45, op := Op.call { callee := Callee.value (Operand.func 31), args := #[Operand.tmp 39, Operand.tmp 44], argTypes := #[31, 3] }, type := 3, pos := "twice.go:40", after := #[{ on := 3, ground := Ground.data }, { on := 8, ground := Ground.data }], guard := none }) rfl (fun K hK => ?_) AllReadyH.nil
    go_simp
    refine (slot_any c _ _ Hc.out).mono ?_
    rw [HK2.out]
    rintro e u1 ⟨rfl, hb⟩
    have rz1 := rz0.below hb rz0.lt
    have HO1 := Lib.hid (HOZ.out.on hb)
    have HA1 := Lib.hid (HAZ.out.on hb)
    have HM1 := Lib.hid (HMZ.out.on hb)
    have hS1 := hSZ.on hb
    clear hb
    have cz1_0 : u1.cell? ⟨f, 0, none⟩ = some (Value.int .i64 c.wo) := rz1.cell 0 rfl
    have cz1_1 : u1.cell? ⟨f, 1, none⟩ = some (Value.int .i64 c.sl) := rz1.cell 1 rfl
    have cz1_2 : u1.cell? ⟨f, 2, none⟩ = some (Value.int .i64 c.st) := rz1.cell 2 rfl
    have cz1_3 : u1.cell? ⟨f, 3, none⟩ = some (Value.int .i64 c.wa) := rz1.cell 3 rfl
    have cz1_4 : u1.cell? ⟨f, 4, none⟩ = some (Value.int .i64 c.us) := rz1.cell 4 rfl
    have cz1_5 : u1.cell? ⟨f, 5, none⟩ = some (Value.slice (some ⟨b9, 0, none⟩) (se.length + 1) cc) := rz1.cell 5 rfl
    have cz1_6 : u1.cell? ⟨f, 6, none⟩ = some (Value.slice A2 ah.length c2) := rz1.cell 6 rfl
    have cz1_7 : u1.cell? ⟨f, 7, none⟩ = some (Value.int .i64 ro) := rz1.cell 7 rfl
    have cz1_8 : u1.cell? ⟨f, 8, none⟩ = some (Value.bool false) := rz1.cell 8 rfl
    refine hK.out _ _ ⟨cz1_0, cz1_1, cz1_2, cz1_3, cz1_4, cz1_5, cz1_6, cz1_7, cz1_8⟩ (fun hS => ?_)
    clear hK K
    try simp only [Act.put, List.setIfInBounds_toArray, List.set_cons_zero, List.set_cons_succ]
    refine wpAnyH_take (i := 10) (oi := { dst := some 46, op := Op.binOp BinOp.lss 3 (Operand.tmp 45) (Operand.const (Value.int IntKind.i64 0)) 3, type := 4, pos := "twice.go:40", after := #[{ on := 9, ground := Ground.data }], guard := none }) (v := ?v10_42) rfl (by kernel_rfl) (by kernel_rfl) (by kernel_rfl) (fun _ _ _ h => h) (Or.inl ⟨by rfl, ?hy10_42⟩) hS ?rest10_42
    case hy10_42 =>
      intro w hSw
      (try dsimp only at hSw)
      go_simp
      try with_reducible rfl
    try simp only [Act.put, List.setIfInBounds_toArray, List.set_cons_zero, List.set_cons_succ]
    refine wpAnyH_done (by kernel_rfl) ?_ _
    go_wp2_with fail
    refine (end_any f b9 ab c ⟨se ++ [v], ah, ro, false⟩ _ ⟨⟨_, cc, A2, c2, HRZ.out _ rz1, HOL.out _ HO1.out, HA1.out⟩, hne9⟩ (by simp) (by simp; omega) hro).mono ?_
    rintro e u2 ⟨rfl, ab2, hT2, hs, hab⟩
    have hne2 : b9 ≠ g ∧ b9 ≠ gw := by omega
    have HM2 := HM1.out.spx hs (by simp <;> omega) (by simp <;> omega)
    have hS2 := hS1.trans (hs.more (Y := [f, sb, g, gw]) (by simp <;> omega))
    have hT3 := hT2
    obtain ⟨⟨A3, c3, A4, c4, k1, _⟩, _⟩ := hT2
    have k8 := k1.cell 8 rfl
    simp only at k8
    have habs : w.heap.size ≤ ab2 := by have := hS1.size; omega
    clear k1 hs cz0_0 cz0_1 cz0_2 cz0_3 cz0_4 cz0_5 cz0_6 cz0_7 cz0_8 cz1_0 cz1_1 cz1_2 cz1_3 cz1_4 cz1_5 cz1_6 cz1_7 cz1_8
    go_wp2
    go_ret
    exact HFIN.out _ b9 ab2 hT3 HM2 hS2 (by omega) (.inr habs)
  · have HK2 : Hid (slotI c ((se.length : Int) + 1) = ((F + (se.length + 1) : Nat) : Int)) := Lib.hid (by have := HFn.out (se.length + 1) (by omega); rwa [Int.natCast_add] at this)
    have HFIN : Hid (∀ (w' : World) (sb' ab' : Nat), TwAt w' f sb' ab' c ⟨se ++ [v], ah, ro, false⟩ → MemAt w' g gw c0 ⟨s.ws, s.t + 1⟩ → SpX [f, sb, g, gw] w w' → (sb' = sb ∨ w.heap.size ≤ sb') → (ab' = ab ∨ w.heap.size ≤ ab') → RetStep f sb ab g gw c0 c n ⟨se, ah, ro, false⟩ s v w (.returned (.bool false)) w') := Lib.hid fun w' sb' ab' k1 k2 k3 k4 k5 => by
      have e := step_mid (x := ⟨se, ah, ro, false⟩) (v := v) rfl hend
      exact ⟨sb', ab', by rw [e], by rw [e]; exact k1, k2, k3, k4, k5⟩
    have HRZ : Hid (∀ {b9 cc : Nat} (w' : World), RowAt w' f 71 #[Value.int .i64 c.wo, Value.int .i64 c.sl, Value.int .i64 c.st, Value.int .i64 c.wa, Value.int .i64 c.us, Value.slice (some ⟨b9, 0, none⟩) (se.length + 1) cc, Value.slice A2 ah.length c2, Value.int .i64 ro, Value.bool false] → RowAt w' f 71 #[Value.int .i64 c.wo, Value.int .i64 c.sl, Value.int .i64 c.st, Value.int .i64 c.wa, Value.int .i64 c.us, Value.slice ((some ⟨b9, 0, none⟩)) ((⟨se ++ [v], ah, ro, false⟩ : Tw)).se.length cc, Value.slice A2 ((⟨se ++ [v], ah, ro, false⟩ : Tw)).ah.length c2, Value.int .i64 ((⟨se ++ [v], ah, ro, false⟩ : Tw)).ro, Value.bool ((⟨se ++ [v], ah, ro, false⟩ : Tw)).dn]) := Lib.hid fun w' h => by
      simp only [List.length_append, List.length_cons, List.length_nil, Nat.zero_add]
      exact h
    have HOL : Hid (∀ {b9 cc : Nat} (w' : World), Own w' f b9 (some ⟨b9, 0, none⟩) (se.length + 1) cc (se ++ [v]) → Own w' f b9 (some ⟨b9, 0, none⟩) (se ++ [v]).length cc (se ++ [v])) := Lib.hid fun w' h => by
      simp only [List.length_append, List.length_cons, List.length_nil, Nat.zero_add]
      exact h
    clear HFn hend
    go_wp2_with fail
    have rf0 : RowAt w1.drew f 71 #[Value.int .i64 c.wo, Value.int .i64 c.sl, Value.int .i64 c.st, Value.int .i64 c.wa, Value.int .i64 c.us, Value.slice A1 se.length c1, Value.slice A2 ah.length c2, Value.int .i64 ro, Value.bool false] := rf1
    have HS0 := Lib.hid HS1.out.drew
    have HA0 := Lib.hid HA1.out.drew
    have HM0 := Lib.hid HM1.out.drew
    have hS0 := hS1.drew
    clear HS1 HA1 HM1 hS1 rf1
    have ca0 : w1.drew.cell? ⟨f, 0, none⟩ = some (Value.int .i64 c.wo) := rf0.cell 0 rfl
    have ca1 : w1.drew.cell? ⟨f, 1, none⟩ = some (Value.int .i64 c.sl) := rf0.cell 1 rfl
    have ca2 : w1.drew.cell? ⟨f, 2, none⟩ = some (Value.int .i64 c.st) := rf0.cell 2 rfl
    have ca3 : w1.drew.cell? ⟨f, 3, none⟩ = some (Value.int .i64 c.wa) := rf0.cell 3 rfl
    have ca4 : w1.drew.cell? ⟨f, 4, none⟩ = some (Value.int .i64 c.us) := rf0.cell 4 rfl
    have ca6 : w1.drew.cell? ⟨f, 6, none⟩ = some (Value.slice A2 ah.length c2) := rf0.cell 6 rfl
    have ca7 : w1.drew.cell? ⟨f, 7, none⟩ = some (Value.int .i64 ro) := rf0.cell 7 rfl
    have ca8 : w1.drew.cell? ⟨f, 8, none⟩ = some (Value.bool false) := rf0.cell 8 rfl
    have ca5 : w1.drew.cell? ⟨f, 5, none⟩ = some (Value.slice A1 se.length c1) := rf0.cell 5 rfl
    refine wp_region_held_drew (S := (fun w' => w'.cell? ⟨f, 0, none⟩ = some (Value.int .i64 c.wo) ∧ w'.cell? ⟨f, 1, none⟩ = some (Value.int .i64 c.sl) ∧ w'.cell? ⟨f, 2, none⟩ = some (Value.int .i64 c.st) ∧ w'.cell? ⟨f, 3, none⟩ = some (Value.int .i64 c.wa) ∧ w'.cell? ⟨f, 4, none⟩ = some (Value.int .i64 c.us) ∧ w'.cell? ⟨f, 6, none⟩ = some (Value.slice A2 ah.length c2) ∧ w'.cell? ⟨f, 7, none⟩ = some (Value.int .i64 ro) ∧ w'.cell? ⟨f, 8, none⟩ = some (Value.bool false))) (by kernel_rfl) ⟨ca0, ca1, ca2, ca3, ca4, ca6, ca7, ca8⟩ (fun hS => ?_)
    generalize w1.drew = u0 at *
    refine wpAnyH_take (i := 0) (oi := { dst := some 24, op := Op.move (Operand.tmp 0), type := 37, pos := "twice.go:39", after := #[], guard := none }) (v := ?v0_43) rfl (by kernel_rfl) (by kernel_rfl) (by kernel_rfl) (fun _ _ _ h => h) (Or.inl ⟨by rfl, ?hy0_43⟩) hS ?rest0_43
    case hy0_43 =>
      intro w hSw
      (try dsimp only at hSw)
      go_simp
      try with_reducible rfl
    try simp only [Act.put, List.setIfInBounds_toArray, List.set_cons_zero, List.set_cons_succ]
    refine wpAnyH_take (i := 1) (oi := { dst := some 25, op := Op.move (Operand.tmp 0), type := 37, pos := "twice.go:39", after := #[], guard := none }) (v := ?v1_44) rfl (by kernel_rfl) (by kernel_rfl) (by kernel_rfl) (fun _ _ _ h => h) (Or.inl ⟨by rfl, ?hy1_44⟩) hS ?rest1_44
    case hy1_44 =>
      intro w hSw
      (try dsimp only at hSw)
      go_simp
      try with_reducible rfl
    try simp only [Act.put, List.setIfInBounds_toArray, List.set_cons_zero, List.set_cons_succ]
    refine wpAnyH_take (i := 2) (oi := { dst := some 26, op := Op.nilCheck (Operand.tmp 25), type := 0, pos := "twice.go:39", after := #[{ on := 1, ground := Ground.data }], guard := none }) (v := ?v2_45) rfl (by kernel_rfl) (by kernel_rfl) (by kernel_rfl) (fun _ _ _ h => h) (Or.inl ⟨by rfl, ?hy2_45⟩) hS ?rest2_45
    case hy2_45 =>
      intro w hSw
      (try dsimp only at hSw)
      go_simp
      try with_reducible rfl
    try simp only [Act.put, List.setIfInBounds_toArray, List.set_cons_zero, List.set_cons_succ]
    refine wpAnyH_take (i := 3) (oi := { dst := some 27, op := Op.fieldAddr 71 (Operand.tmp 26) 1, type := 0, pos := "twice.go:39", after := #[{ on := 2, ground := Ground.data }], guard := none }) (v := ?v3_46) rfl (by kernel_rfl) (by kernel_rfl) (by kernel_rfl) (fun _ _ _ h => h) (Or.inl ⟨by rfl, ?hy3_46⟩) hS ?rest3_46
    case hy3_46 =>
      intro w hSw
      (try dsimp only at hSw)
      go_simp
      try with_reducible rfl
    try simp only [Act.put, List.setIfInBounds_toArray, List.set_cons_zero, List.set_cons_succ]
    refine wpAnyH_take (i := 5) (oi := { dst := some 29, op := Op.move (Operand.tmp 1), type := 35, pos := "twice.go:39", after := #[], guard := none }) (v := ?v5_47) rfl (by kernel_rfl) (by kernel_rfl) (by kernel_rfl) (fun _ _ _ h => h) (Or.inl ⟨by rfl, ?hy5_47⟩) hS ?rest5_47
    case hy5_47 =>
      intro w hSw
      (try dsimp only at hSw)
      go_simp
      try with_reducible rfl
    try simp only [Act.put, List.setIfInBounds_toArray, List.set_cons_zero, List.set_cons_succ]
    refine wpAnyH_take (i := 6) (oi := { dst := some 30, op := Op.move (Operand.tmp 5), type := 3, pos := "twice.go:39", after := #[], guard := none }) (v := ?v6_48) rfl (by kernel_rfl) (by kernel_rfl) (by kernel_rfl) (fun _ _ _ h => h) (Or.inl ⟨by rfl, ?hy6_48⟩) hS ?rest6_48
    case hy6_48 =>
      intro w hSw
      (try dsimp only at hSw)
      go_simp
      try with_reducible rfl
    try simp only [Act.put, List.setIfInBounds_toArray, List.set_cons_zero, List.set_cons_succ]
    refine wpAnyH_ready (rs := [4, 7]) (by kernel_rfl) (by simp) ?_
    refine AllReadyH.cons (o := { dst := some 28, op := Op.load 32 (Operand.tmp 27), type := 32, pos := "twice.go:39", after := #[{ on := 3, ground := Ground.data }], guard := none }) rfl (fun K hK => ?_) ?_
    ·
      go_simp
      refine hK.out _ _ ⟨ca0, ca1, ca2, ca3, ca4, ca6, ca7, ca8⟩ (fun hS => ?_)
      clear hK K
      try simp only [Act.put, List.setIfInBounds_toArray, List.set_cons_zero, List.set_cons_succ]
      refine wpAnyH_ready (rs := [7]) (by kernel_rfl) (by simp) ?_
      refine AllReadyH.cons (o := { dst := some 31, op := Op.call { callee := Callee.value (Operand.func 32), args := #[Operand.tmp 29, Operand.tmp 30], argTypes := #[35, 3] }, type := 3, pos := "twice.go:39", after := #[{ on := 5, ground := Ground.data }, { on := 6, ground := Ground.data }], guard := none }) rfl (fun K hK => ?_) AllReadyH.nil
      go_simp
      refine (load_in g gw c0 s KK _ HM0.out hK1 ht).mono ?_
      rw [hsv]
      rintro e u1 ⟨rfl, hm, hs⟩
      have rf1 := rf0.spx hs (by simp <;> omega)
      have HS1 := Lib.hid (HS0.out.spx hs (.inr (by simp <;> omega)))
      have HA1 := Lib.hid (HA0.out.spx hs (.inr (by simp <;> omega)))
      have HM1 := Lib.hid hm
      have hS1 := hS0.trans (hs.more (Y := [f, sb, g, gw]) (by simp <;> omega))
      clear hm hs
      obtain ⟨b9, cc, w9, hrun, HO, hX, hbb⟩ := HS1.out.run1 rf1.lt hn6 v u1.heap.size rfl
      have hS1s := hS1.size
      have cb0 : u1.cell? ⟨f, 0, none⟩ = some (Value.int .i64 c.wo) := rf1.cell 0 rfl
      have cb1 : u1.cell? ⟨f, 1, none⟩ = some (Value.int .i64 c.sl) := rf1.cell 1 rfl
      have cb2 : u1.cell? ⟨f, 2, none⟩ = some (Value.int .i64 c.st) := rf1.cell 2 rfl
      have cb3 : u1.cell? ⟨f, 3, none⟩ = some (Value.int .i64 c.wa) := rf1.cell 3 rfl
      have cb4 : u1.cell? ⟨f, 4, none⟩ = some (Value.int .i64 c.us) := rf1.cell 4 rfl
      have cb6 : u1.cell? ⟨f, 6, none⟩ = some (Value.slice A2 ah.length c2) := rf1.cell 6 rfl
      have cb7 : u1.cell? ⟨f, 7, none⟩ = some (Value.int .i64 ro) := rf1.cell 7 rfl
      have cb8 : u1.cell? ⟨f, 8, none⟩ = some (Value.bool false) := rf1.cell 8 rfl
      have cb5 : u1.cell? ⟨f, 5, none⟩ = some (Value.slice A1 se.length c1) := rf1.cell 5 rfl
      refine hK.out _ _ ⟨cb0, cb1, cb2, cb3, cb4, cb6, cb7, cb8⟩ (fun hS => ?_)
      clear hK K
      try simp only [Act.put, List.setIfInBounds_toArray, List.set_cons_zero, List.set_cons_succ]
      refine wpAnyH_ready (rs := [8]) (by kernel_rfl) (by simp) ?_
      refine AllReadyH.cons (o := { dst := some 32, op := Op.buildSlice 32 1 #[(0, Operand.tmp 31)], type := 32, pos := "twice.go:39", after := #[{ on := 7, ground := Ground.data }], guard := none }) rfl (fun K hK => ?_) AllReadyH.nil
      go_simp
      have rf2 := rf1.alloc (.cells #[Value.int .i64 v] 3)
      have cc_0 : (u1.alloc (.cells #[Value.int .i64 v] 3)).cell? ⟨f, 0, none⟩ = some (Value.int .i64 c.wo) := rf2.cell 0 rfl
      have cc_1 : (u1.alloc (.cells #[Value.int .i64 v] 3)).cell? ⟨f, 1, none⟩ = some (Value.int .i64 c.sl) := rf2.cell 1 rfl
      have cc_2 : (u1.alloc (.cells #[Value.int .i64 v] 3)).cell? ⟨f, 2, none⟩ = some (Value.int .i64 c.st) := rf2.cell 2 rfl
      have cc_3 : (u1.alloc (.cells #[Value.int .i64 v] 3)).cell? ⟨f, 3, none⟩ = some (Value.int .i64 c.wa) := rf2.cell 3 rfl
      have cc_4 : (u1.alloc (.cells #[Value.int .i64 v] 3)).cell? ⟨f, 4, none⟩ = some (Value.int .i64 c.us) := rf2.cell 4 rfl
      have cc_6 : (u1.alloc (.cells #[Value.int .i64 v] 3)).cell? ⟨f, 6, none⟩ = some (Value.slice A2 ah.length c2) := rf2.cell 6 rfl
      have cc_7 : (u1.alloc (.cells #[Value.int .i64 v] 3)).cell? ⟨f, 7, none⟩ = some (Value.int .i64 ro) := rf2.cell 7 rfl
      have cc_8 : (u1.alloc (.cells #[Value.int .i64 v] 3)).cell? ⟨f, 8, none⟩ = some (Value.bool false) := rf2.cell 8 rfl
      have cc_5 : (u1.alloc (.cells #[Value.int .i64 v] 3)).cell? ⟨f, 5, none⟩ = some (Value.slice A1 se.length c1) := rf2.cell 5 rfl
      refine hK.out _ _ ⟨cc_0, cc_1, cc_2, cc_3, cc_4, cc_6, cc_7, cc_8⟩ (fun hS => ?_)
      clear hK K
      try simp only [Act.put, List.setIfInBounds_toArray, List.set_cons_zero, List.set_cons_succ]
      refine wpAnyH_ready (rs := [9]) (by kernel_rfl) (by simp) ?_
      refine AllReadyH.cons (o := { dst := some 33, op := Op.call { callee := Callee.builtin Builtin.append, args := #[Operand.tmp 28, Operand.tmp 32], argTypes := #[32, 32] }, type := 32, pos := "twice.go:39", after := #[{ on := 4, ground := Ground.data }, { on := 8, ground := Ground.data }, { on := 7, ground := Ground.chain }], guard := none }) rfl (fun K hK => ?_) AllReadyH.nil
      (rw [if_pos (by kernel_rfl)]; refine wp_append_run (.tmp 28) (.tmp 32) 32 rfl _ _ rfl rfl _ _ hrun ?_)
      have hX2 := hX (Ow f sb) ow_in
      have rf9 := rf1.spx hX2 (ow_not f sb)
      have HA9 := Lib.hid (HA1.out.spx hX2 hAX)
      have HM9 := Lib.hid (HM1.out.spx hX2 (fun h => hsg (ow_only h).symm) (fun h => hsw (ow_only h).symm))
      have hne9 : b9 = ab → b9 = f := fun e => by have := Hne.out; have := HA1.out.lt; omega
      have hS9 := hS1.trans (hX2.more (Y := [f, sb, g, gw]) (fun k hk => by rw [ow_only hk]; simp))
      have HO9 := Lib.hid HO
      clear HO hX hX2
      have cd0 : w9.cell? ⟨f, 0, none⟩ = some (Value.int .i64 c.wo) := rf9.cell 0 rfl
      have cd1 : w9.cell? ⟨f, 1, none⟩ = some (Value.int .i64 c.sl) := rf9.cell 1 rfl
      have cd2 : w9.cell? ⟨f, 2, none⟩ = some (Value.int .i64 c.st) := rf9.cell 2 rfl
      have cd3 : w9.cell? ⟨f, 3, none⟩ = some (Value.int .i64 c.wa) := rf9.cell 3 rfl
      have cd4 : w9.cell? ⟨f, 4, none⟩ = some (Value.int .i64 c.us) := rf9.cell 4 rfl
      have cd6 : w9.cell? ⟨f, 6, none⟩ = some (Value.slice A2 ah.length c2) := rf9.cell 6 rfl
      have cd7 : w9.cell? ⟨f, 7, none⟩ = some (Value.int .i64 ro) := rf9.cell 7 rfl
      have cd8 : w9.cell? ⟨f, 8, none⟩ = some (Value.bool false) := rf9.cell 8 rfl
      have cd5 : w9.cell? ⟨f, 5, none⟩ = some (Value.slice A1 se.length c1) := rf9.cell 5 rfl
      have g95 := rf9.frozen 5
      refine hK.out _ _ ⟨cd0, cd1, cd2, cd3, cd4, cd6, cd7, cd8⟩ (fun hS => ?_)
      clear hK K
      try simp only [Act.put, List.setIfInBounds_toArray, List.set_cons_zero, List.set_cons_succ]
      refine wpAnyH_take (i := 10) (oi := { dst := some 34, op := Op.nilCheck (Operand.tmp 24), type := 0, pos := "twice.go:39", after := #[{ on := 0, ground := Ground.data }, { on := 0, ground := Ground.phase }, { on := 1, ground := Ground.phase }, { on := 2, ground := Ground.phase }, { on := 3, ground := Ground.phase }, { on := 4, ground := Ground.phase }, { on := 5, ground := Ground.phase }, { on := 6, ground := Ground.phase }, { on := 7, ground := Ground.phase }, { on := 8, ground := Ground.phase }, { on := 9, ground := Ground.phase }], guard := none }) (v := ?v10_49) rfl (by kernel_rfl) (by kernel_rfl) (by kernel_rfl) (fun _ _ _ h => h) (Or.inl ⟨by rfl, ?hy10_49⟩) hS ?rest10_49
      case hy10_49 =>
        intro w hSw
        (try dsimp only at hSw)
        go_simp
        try with_reducible rfl
      try simp only [Act.put, List.setIfInBounds_toArray, List.set_cons_zero, List.set_cons_succ]
      refine wpAnyH_take (i := 11) (oi := { dst := some 35, op := Op.fieldAddr 71 (Operand.tmp 34) 1, type := 0, pos := "twice.go:39", after := #[{ on := 10, ground := Ground.data }, { on := 0, ground := Ground.phase }, { on := 1, ground := Ground.phase }, { on := 2, ground := Ground.phase }, { on := 3, ground := Ground.phase }, { on := 4, ground := Ground.phase }, { on := 5, ground := Ground.phase }, { on := 6, ground := Ground.phase }, { on := 7, ground := Ground.phase }, { on := 8, ground := Ground.phase }, { on := 9, ground := Ground.phase }], guard := none }) (v := ?v11_50) rfl (by kernel_rfl) (by kernel_rfl) (by kernel_rfl) (fun _ _ _ h => h) (Or.inl ⟨by rfl, ?hy11_50⟩) hS ?rest11_50
      case hy11_50 =>
        intro w hSw
        (try dsimp only at hSw)
        go_simp
        try with_reducible rfl
      try simp only [Act.put, List.setIfInBounds_toArray, List.set_cons_zero, List.set_cons_succ]
      refine wpAnyH_ready (rs := [12]) (by kernel_rfl) (by simp) ?_
      refine AllReadyH.cons (o := { dst := none, op := Op.store 32 (Operand.tmp 35) (Operand.tmp 33), type := 0, pos := "twice.go:39", after := #[{ on := 11, ground := Ground.data }, { on := 9, ground := Ground.data }, { on := 9, ground := Ground.chain }, { on := 0, ground := Ground.phase }, { on := 1, ground := Ground.phase }, { on := 2, ground := Ground.phase }, { on := 3, ground := Ground.phase }, { on := 4, ground := Ground.phase }, { on := 5, ground := Ground.phase }, { on := 6, ground := Ground.phase }, { on := 7, ground := Ground.phase }, { on := 8, ground := Ground.phase }, { on := 9, ground := Ground.phase }], guard := none }) rfl (fun K hK => ?_) AllReadyH.nil
      go_simp
      have rfZ := rf9.put 5 (Value.slice (some ⟨b9, 0, none⟩) (se.length + 1) cc)
      have hss : SpX [f] w9 (w9.setCell ⟨f, 5, none⟩ (Value.slice (some ⟨b9, 0, none⟩) (se.length + 1) cc)) := sp_set
      have HOZ := Lib.hid (HO9.out.spx hss (.inr (by simp <;> omega)))
      have HAZ := Lib.hid (HA9.out.spx hss (hnA.imp id fun e => by simpa using e))
      have HMZ := Lib.hid (HM9.out.spx hss (by simp <;> omega) (by simp <;> omega))
      have hSZ := hS9.trans (hss.more (Y := [f, sb, g, gw]) (by simp <;> omega))
      clear hss
      have ce0 : (w9.setCell ⟨f, 5, none⟩ (Value.slice (some ⟨b9, 0, none⟩) (se.length + 1) cc)).cell? ⟨f, 0, none⟩ = some (Value.int .i64 c.wo) := rfZ.cell 0 rfl
      have ce1 : (w9.setCell ⟨f, 5, none⟩ (Value.slice (some ⟨b9, 0, none⟩) (se.length + 1) cc)).cell? ⟨f, 1, none⟩ = some (Value.int .i64 c.sl) := rfZ.cell 1 rfl
      have ce2 : (w9.setCell ⟨f, 5, none⟩ (Value.slice (some ⟨b9, 0, none⟩) (se.length + 1) cc)).cell? ⟨f, 2, none⟩ = some (Value.int .i64 c.st) := rfZ.cell 2 rfl
      have ce3 : (w9.setCell ⟨f, 5, none⟩ (Value.slice (some ⟨b9, 0, none⟩) (se.length + 1) cc)).cell? ⟨f, 3, none⟩ = some (Value.int .i64 c.wa) := rfZ.cell 3 rfl
      have ce4 : (w9.setCell ⟨f, 5, none⟩ (Value.slice (some ⟨b9, 0, none⟩) (se.length + 1) cc)).cell? ⟨f, 4, none⟩ = some (Value.int .i64 c.us) := rfZ.cell 4 rfl
      have ce6 : (w9.setCell ⟨f, 5, none⟩ (Value.slice (some ⟨b9, 0, none⟩) (se.length + 1) cc)).cell? ⟨f, 6, none⟩ = some (Value.slice A2 ah.length c2) := rfZ.cell 6 rfl
      have ce7 : (w9.setCell ⟨f, 5, none⟩ (Value.slice (some ⟨b9, 0, none⟩) (se.length + 1) cc)).cell? ⟨f, 7, none⟩ = some (Value.int .i64 ro) := rfZ.cell 7 rfl
      have ce8 : (w9.setCell ⟨f, 5, none⟩ (Value.slice (some ⟨b9, 0, none⟩) (se.length + 1) cc)).cell? ⟨f, 8, none⟩ = some (Value.bool false) := rfZ.cell 8 rfl
      refine hK.out _ _ ⟨ce0, ce1, ce2, ce3, ce4, ce6, ce7, ce8⟩ (fun hS => ?_)
      clear hK K
      try simp only [Act.put, List.setIfInBounds_toArray, List.set_cons_zero, List.set_cons_succ]
      refine wpAnyH_done (by kernel_rfl) ?_ _
      generalize (w9.setCell ⟨f, 5, none⟩ (Value.slice (some ⟨b9, 0, none⟩) (se.length + 1) cc)) = w5 at *
      go_wp2_with fail
      have rz0 : RowAt w5.drew f 71 #[Value.int .i64 c.wo, Value.int .i64 c.sl, Value.int .i64 c.st, Value.int .i64 c.wa, Value.int .i64 c.us, Value.slice (some ⟨b9, 0, none⟩) (se.length + 1) cc, Value.slice A2 ah.length c2, Value.int .i64 ro, Value.bool false] := rfZ
      have HOZ := Lib.hid HOZ.out.drew
      have HAZ := Lib.hid HAZ.out.drew
      have HMZ := Lib.hid HMZ.out.drew
      have hSZ := hSZ.drew
      clear rfZ ce0 ce1 ce2 ce3 ce4 ce6 ce7 ce8
      have cz0_0 : w5.drew.cell? ⟨f, 0, none⟩ = some (Value.int .i64 c.wo) := rz0.cell 0 rfl
      have cz0_1 : w5.drew.cell? ⟨f, 1, none⟩ = some (Value.int .i64 c.sl) := rz0.cell 1 rfl
      have cz0_2 : w5.drew.cell? ⟨f, 2, none⟩ = some (Value.int .i64 c.st) := rz0.cell 2 rfl
      have cz0_3 : w5.drew.cell? ⟨f, 3, none⟩ = some (Value.int .i64 c.wa) := rz0.cell 3 rfl
      have cz0_4 : w5.drew.cell? ⟨f, 4, none⟩ = some (Value.int .i64 c.us) := rz0.cell 4 rfl
      have cz0_5 : w5.drew.cell? ⟨f, 5, none⟩ = some (Value.slice (some ⟨b9, 0, none⟩) (se.length + 1) cc) := rz0.cell 5 rfl
      have cz0_6 : w5.drew.cell? ⟨f, 6, none⟩ = some (Value.slice A2 ah.length c2) := rz0.cell 6 rfl
      have cz0_7 : w5.drew.cell? ⟨f, 7, none⟩ = some (Value.int .i64 ro) := rz0.cell 7 rfl
      have cz0_8 : w5.drew.cell? ⟨f, 8, none⟩ = some (Value.bool false) := rz0.cell 8 rfl
      refine wp_region_held_drew (S := (fun w' => w'.cell? ⟨f, 0, none⟩ = some (Value.int .i64 c.wo) ∧ w'.cell? ⟨f, 1, none⟩ = some (Value.int .i64 c.sl) ∧ w'.cell? ⟨f, 2, none⟩ = some (Value.int .i64 c.st) ∧ w'.cell? ⟨f, 3, none⟩ = some (Value.int .i64 c.wa) ∧ w'.cell? ⟨f, 4, none⟩ = some (Value.int .i64 c.us) ∧ w'.cell? ⟨f, 5, none⟩ = some (Value.slice (some ⟨b9, 0, none⟩) (se.length + 1) cc) ∧ w'.cell? ⟨f, 6, none⟩ = some (Value.slice A2 ah.length c2) ∧ w'.cell? ⟨f, 7, none⟩ = some (Value.int .i64 ro) ∧ w'.cell? ⟨f, 8, none⟩ = some (Value.bool false))) (by kernel_rfl) ⟨cz0_0, cz0_1, cz0_2, cz0_3, cz0_4, cz0_5, cz0_6, cz0_7, cz0_8⟩ (fun hS => ?_)
      generalize w5.drew = u0 at *
      refine wpAnyH_take (i := 0) (oi := { dst := some 36, op := Op.move (Operand.tmp 0), type := 37, pos := "twice.go:40", after := #[], guard := none }) (v := ?v0_51) rfl (by kernel_rfl) (by kernel_rfl) (by kernel_rfl) (fun _ _ _ h => h) (Or.inl ⟨by rfl, ?hy0_51⟩) hS ?rest0_51
      case hy0_51 =>
        intro w hSw
        (try dsimp only at hSw)
        go_simp
        try with_reducible rfl
      try simp only [Act.put, List.setIfInBounds_toArray, List.set_cons_zero, List.set_cons_succ]
      refine wpAnyH_take (i := 1) (oi := { dst := some 37, op := Op.nilCheck (Operand.tmp 36), type := 0, pos := "twice.go:40", after := #[{ on := 0, ground := Ground.data }], guard := none }) (v := ?v1_52) rfl (by kernel_rfl) (by kernel_rfl) (by kernel_rfl) (fun _ _ _ h => h) (Or.inl ⟨by rfl, ?hy1_52⟩) hS ?rest1_52
      case hy1_52 =>
        intro w hSw
        (try dsimp only at hSw)
        go_simp
        try with_reducible rfl
      try simp only [Act.put, List.setIfInBounds_toArray, List.set_cons_zero, List.set_cons_succ]
      refine wpAnyH_take (i := 2) (oi := { dst := some 38, op := Op.fieldAddr 71 (Operand.tmp 37) 0, type := 0, pos := "twice.go:40", after := #[{ on := 1, ground := Ground.data }], guard := none }) (v := ?v2_53) rfl (by kernel_rfl) (by kernel_rfl) (by kernel_rfl) (fun _ _ _ h => h) (Or.inl ⟨by rfl, ?hy2_53⟩) hS ?rest2_53
      case hy2_53 =>
        intro w hSw
        (try dsimp only at hSw)
        go_simp
        try with_reducible rfl
      try simp only [Act.put, List.setIfInBounds_toArray, List.set_cons_zero, List.set_cons_succ]
      refine wpAnyH_take (i := 3) (oi := { dst := some 39, op := Op.load 31 (Operand.tmp 38), type := 31, pos := "twice.go:40", after := #[{ on := 2, ground := Ground.data }], guard := none }) (v := ?v3_54) rfl (by kernel_rfl) (by kernel_rfl) (by kernel_rfl) (fun _ _ _ h => h) (Or.inl ⟨by rfl, ?hy3_54⟩) hS ?rest3_54
      case hy3_54 =>
        intro w hSw
        (try dsimp only at hSw)
        go_simp
        try with_reducible rfl
      try simp only [Act.put, List.setIfInBounds_toArray, List.set_cons_zero, List.set_cons_succ]
      refine wpAnyH_take (i := 4) (oi := { dst := some 40, op := Op.move (Operand.tmp 0), type := 37, pos := "twice.go:40", after := #[], guard := none }) (v := ?v4_55) rfl (by kernel_rfl) (by kernel_rfl) (by kernel_rfl) (fun _ _ _ h => h) (Or.inl ⟨by rfl, ?hy4_55⟩) hS ?rest4_55
      case hy4_55 =>
        intro w hSw
        (try dsimp only at hSw)
        go_simp
        try with_reducible rfl
      try simp only [Act.put, List.setIfInBounds_toArray, List.set_cons_zero, List.set_cons_succ]
      refine wpAnyH_take (i := 5) (oi := { dst := some 41, op := Op.nilCheck (Operand.tmp 40), type := 0, pos := "twice.go:40", after := #[{ on := 4, ground := Ground.data }], guard := none }) (v := ?v5_56) rfl (by kernel_rfl) (by kernel_rfl) (by kernel_rfl) (fun _ _ _ h => h) (Or.inl ⟨by rfl, ?hy5_56⟩) hS ?rest5_56
      case hy5_56 =>
        intro w hSw
        (try dsimp only at hSw)
        go_simp
        try with_reducible rfl
      try simp only [Act.put, List.setIfInBounds_toArray, List.set_cons_zero, List.set_cons_succ]
      refine wpAnyH_take (i := 6) (oi := { dst := some 42, op := Op.fieldAddr 71 (Operand.tmp 41) 1, type := 0, pos := "twice.go:40", after := #[{ on := 5, ground := Ground.data }], guard := none }) (v := ?v6_57) rfl (by kernel_rfl) (by kernel_rfl) (by kernel_rfl) (fun _ _ _ h => h) (Or.inl ⟨by rfl, ?hy6_57⟩) hS ?rest6_57
      case hy6_57 =>
        intro w hSw
        (try dsimp only at hSw)
        go_simp
        try with_reducible rfl
      try simp only [Act.put, List.setIfInBounds_toArray, List.set_cons_zero, List.set_cons_succ]
      refine wpAnyH_take (i := 7) (oi := { dst := some 43, op := Op.load 32 (Operand.tmp 42), type := 32, pos := "twice.go:40", after := #[{ on := 6, ground := Ground.data }], guard := none }) (v := ?v7_58) rfl (by kernel_rfl) (by kernel_rfl) (by kernel_rfl) (fun _ _ _ h => h) (Or.inl ⟨by rfl, ?hy7_58⟩) hS ?rest7_58
      case hy7_58 =>
        intro w hSw
        (try dsimp only at hSw)
        go_simp
        try with_reducible rfl
      try simp only [Act.put, List.setIfInBounds_toArray, List.set_cons_zero, List.set_cons_succ]
      refine wpAnyH_take (i := 8) (oi := { dst := some 44, op := Op.call { callee := Callee.builtin Builtin.len, args := #[Operand.tmp 43], argTypes := #[32] }, type := 3, pos := "twice.go:40", after := #[{ on := 7, ground := Ground.data }], guard := none }) (v := ?v8_59) rfl (by kernel_rfl) (by kernel_rfl) (by kernel_rfl) (fun _ _ _ h => h) (Or.inl ⟨by rfl, ?hy8_59⟩) hS ?rest8_59
      case hy8_59 =>
        intro w hSw
        (try dsimp only at hSw)
        go_simp
        try with_reducible rfl
      try simp only [Act.put, List.setIfInBounds_toArray, List.set_cons_zero, List.set_cons_succ]
      refine wpAnyH_ready (rs := [9]) (by kernel_rfl) (by simp) ?_
      refine AllReadyH.cons (o := { dst := some 45, op := Op.call { callee := Callee.value (Operand.func 31), args := #[Operand.tmp 39, Operand.tmp 44], argTypes := #[31, 3] }, type := 3, pos := "twice.go:40", after := #[{ on := 3, ground := Ground.data }, { on := 8, ground := Ground.data }], guard := none }) rfl (fun K hK => ?_) AllReadyH.nil
      go_simp
      refine (slot_any c _ _ Hc.out).mono ?_
      rw [HK2.out]
      rintro e u1 ⟨rfl, hb⟩
      have rz1 := rz0.below hb rz0.lt
      have HO1 := Lib.hid (HOZ.out.on hb)
      have HA1 := Lib.hid (HAZ.out.on hb)
      have HM1 := Lib.hid (HMZ.out.on hb)
      have hS1 := hSZ.on hb
      clear hb
      have cz1_0 : u1.cell? ⟨f, 0, none⟩ = some (Value.int .i64 c.wo) := rz1.cell 0 rfl
      have cz1_1 : u1.cell? ⟨f, 1, none⟩ = some (Value.int .i64 c.sl) := rz1.cell 1 rfl
      have cz1_2 : u1.cell? ⟨f, 2, none⟩ = some (Value.int .i64 c.st) := rz1.cell 2 rfl
      have cz1_3 : u1.cell? ⟨f, 3, none⟩ = some (Value.int .i64 c.wa) := rz1.cell 3 rfl
      have cz1_4 : u1.cell? ⟨f, 4, none⟩ = some (Value.int .i64 c.us) := rz1.cell 4 rfl
      have cz1_5 : u1.cell? ⟨f, 5, none⟩ = some (Value.slice (some ⟨b9, 0, none⟩) (se.length + 1) cc) := rz1.cell 5 rfl
      have cz1_6 : u1.cell? ⟨f, 6, none⟩ = some (Value.slice A2 ah.length c2) := rz1.cell 6 rfl
      have cz1_7 : u1.cell? ⟨f, 7, none⟩ = some (Value.int .i64 ro) := rz1.cell 7 rfl
      have cz1_8 : u1.cell? ⟨f, 8, none⟩ = some (Value.bool false) := rz1.cell 8 rfl
      refine hK.out _ _ ⟨cz1_0, cz1_1, cz1_2, cz1_3, cz1_4, cz1_5, cz1_6, cz1_7, cz1_8⟩ (fun hS => ?_)
      clear hK K
      try simp only [Act.put, List.setIfInBounds_toArray, List.set_cons_zero, List.set_cons_succ]
      refine wpAnyH_take (i := 10) (oi := { dst := some 46, op := Op.binOp BinOp.lss 3 (Operand.tmp 45) (Operand.const (Value.int IntKind.i64 0)) 3, type := 4, pos := "twice.go:40", after := #[{ on := 9, ground := Ground.data }], guard := none }) (v := ?v10_60) rfl (by kernel_rfl) (by kernel_rfl) (by kernel_rfl) (fun _ _ _ h => h) (Or.inl ⟨by rfl, ?hy10_60⟩) hS ?rest10_60
      case hy10_60 =>
        intro w hSw
        (try dsimp only at hSw)
        go_simp
        try with_reducible rfl
      try simp only [Act.put, List.setIfInBounds_toArray, List.set_cons_zero, List.set_cons_succ]
      refine wpAnyH_done (by kernel_rfl) ?_ _
      go_wp2
      go_ret
      exact HFIN.out _ b9 ab ⟨⟨_, cc, A2, c2, HRZ.out _ rz1, HOL.out _ HO1.out, HA1.out⟩, hne9⟩ HM1.out hS1 (by omega) (.inl rfl)
    refine AllReadyH.cons (o := { dst := some 31, op := Op.call { callee := Callee.value (Operand.func 32), args := #[Operand.tmp 29, Operand.tmp 30], argTypes := #[35, 3] }, type := 3, pos := "twice.go:39", after := #[{ on := 5, ground := Ground.data }, { on := 6, ground := Ground.data }], guard := none }) rfl (fun K hK => ?_) AllReadyH.nil
    go_simp
    refine (load_in g gw c0 s KK _ HM0.out hK1 ht).mono ?_
    rw [hsv]
    rintro e u1 ⟨rfl, hm, hs⟩
    have rf1 := rf0.spx hs (by simp <;> omega)
    have HS1 := Lib.hid (HS0.out.spx hs (.inr (by simp <;> omega)))
    have HA1 := Lib.hid (HA0.out.spx hs (.inr (by simp <;> omega)))
    have HM1 := Lib.hid hm
    have hS1 := hS0.trans (hs.more (Y := [f, sb, g, gw]) (by simp <;> omega))
    clear hm hs
    obtain ⟨b9, cc, w9, hrun, HO, hX, hbb⟩ := HS1.out.run1 rf1.lt hn6 v u1.heap.size rfl
    have hS1s := hS1.size
    have cb0 : u1.cell? ⟨f, 0, none⟩ = some (Value.int .i64 c.wo) := rf1.cell 0 rfl
    have cb1 : u1.cell? ⟨f, 1, none⟩ = some (Value.int .i64 c.sl) := rf1.cell 1 rfl
    have cb2 : u1.cell? ⟨f, 2, none⟩ = some (Value.int .i64 c.st) := rf1.cell 2 rfl
    have cb3 : u1.cell? ⟨f, 3, none⟩ = some (Value.int .i64 c.wa) := rf1.cell 3 rfl
    have cb4 : u1.cell? ⟨f, 4, none⟩ = some (Value.int .i64 c.us) := rf1.cell 4 rfl
    have cb6 : u1.cell? ⟨f, 6, none⟩ = some (Value.slice A2 ah.length c2) := rf1.cell 6 rfl
    have cb7 : u1.cell? ⟨f, 7, none⟩ = some (Value.int .i64 ro) := rf1.cell 7 rfl
    have cb8 : u1.cell? ⟨f, 8, none⟩ = some (Value.bool false) := rf1.cell 8 rfl
    have cb5 : u1.cell? ⟨f, 5, none⟩ = some (Value.slice A1 se.length c1) := rf1.cell 5 rfl
    refine hK.out _ _ ⟨cb0, cb1, cb2, cb3, cb4, cb6, cb7, cb8⟩ (fun hS => ?_)
    clear hK K
    try simp only [Act.put, List.setIfInBounds_toArray, List.set_cons_zero, List.set_cons_succ]
    refine wpAnyH_ready (rs := [4, 8]) (by kernel_rfl) (by simp) ?_
    refine AllReadyH.cons (o := { dst := some 28, op := Op.load 32 (Operand.tmp 27), type := 32, pos := "twice.go:39", after := #[{ on := 3, ground := Ground.data }], guard := none }) rfl (fun K hK => ?_) ?_
    ·
      go_simp
      refine hK.out _ _ ⟨cb0, cb1, cb2, cb3, cb4, cb6, cb7, cb8⟩ (fun hS => ?_)
      clear hK K
      try simp only [Act.put, List.setIfInBounds_toArray, List.set_cons_zero, List.set_cons_succ]
      refine wpAnyH_ready (rs := [8]) (by kernel_rfl) (by simp) ?_
      refine AllReadyH.cons (o := { dst := some 32, op := Op.buildSlice 32 1 #[(0, Operand.tmp 31)], type := 32, pos := "twice.go:39", after := #[{ on := 7, ground := Ground.data }], guard := none }) rfl (fun K hK => ?_) AllReadyH.nil
      go_simp
      have rf2 := rf1.alloc (.cells #[Value.int .i64 v] 3)
      have cc_0 : (u1.alloc (.cells #[Value.int .i64 v] 3)).cell? ⟨f, 0, none⟩ = some (Value.int .i64 c.wo) := rf2.cell 0 rfl
      have cc_1 : (u1.alloc (.cells #[Value.int .i64 v] 3)).cell? ⟨f, 1, none⟩ = some (Value.int .i64 c.sl) := rf2.cell 1 rfl
      have cc_2 : (u1.alloc (.cells #[Value.int .i64 v] 3)).cell? ⟨f, 2, none⟩ = some (Value.int .i64 c.st) := rf2.cell 2 rfl
      have cc_3 : (u1.alloc (.cells #[Value.int .i64 v] 3)).cell? ⟨f, 3, none⟩ = some (Value.int .i64 c.wa) := rf2.cell 3 rfl
      have cc_4 : (u1.alloc (.cells #[Value.int .i64 v] 3)).cell? ⟨f, 4, none⟩ = some (Value.int .i64 c.us) := rf2.cell 4 rfl
      have cc_6 : (u1.alloc (.cells #[Value.int .i64 v] 3)).cell? ⟨f, 6, none⟩ = some (Value.slice A2 ah.length c2) := rf2.cell 6 rfl
      have cc_7 : (u1.alloc (.cells #[Value.int .i64 v] 3)).cell? ⟨f, 7, none⟩ = some (Value.int .i64 ro) := rf2.cell 7 rfl
      have cc_8 : (u1.alloc (.cells #[Value.int .i64 v] 3)).cell? ⟨f, 8, none⟩ = some (Value.bool false) := rf2.cell 8 rfl
      have cc_5 : (u1.alloc (.cells #[Value.int .i64 v] 3)).cell? ⟨f, 5, none⟩ = some (Value.slice A1 se.length c1) := rf2.cell 5 rfl
      refine hK.out _ _ ⟨cc_0, cc_1, cc_2, cc_3, cc_4, cc_6, cc_7, cc_8⟩ (fun hS => ?_)
      clear hK K
      try simp only [Act.put, List.setIfInBounds_toArray, List.set_cons_zero, List.set_cons_succ]
      refine wpAnyH_ready (rs := [9]) (by kernel_rfl) (by simp) ?_
      refine AllReadyH.cons (o := { dst := some 33, op := Op.call { callee := Callee.builtin Builtin.append, args := #[Operand.tmp 28, Operand.tmp 32], argTypes := #[32, 32] }, type := 32, pos := "twice.go:39", after := #[{ on := 4, ground := Ground.data }, { on := 8, ground := Ground.data }, { on := 7, ground := Ground.chain }], guard := none }) rfl (fun K hK => ?_) AllReadyH.nil
      (rw [if_pos (by kernel_rfl)]; refine wp_append_run (.tmp 28) (.tmp 32) 32 rfl _ _ rfl rfl _ _ hrun ?_)
      have hX2 := hX (Ow f sb) ow_in
      have rf9 := rf1.spx hX2 (ow_not f sb)
      have HA9 := Lib.hid (HA1.out.spx hX2 hAX)
      have HM9 := Lib.hid (HM1.out.spx hX2 (fun h => hsg (ow_only h).symm) (fun h => hsw (ow_only h).symm))
      have hne9 : b9 = ab → b9 = f := fun e => by have := Hne.out; have := HA1.out.lt; omega
      have hS9 := hS1.trans (hX2.more (Y := [f, sb, g, gw]) (fun k hk => by rw [ow_only hk]; simp))
      have HO9 := Lib.hid HO
      clear HO hX hX2
      have cd0 : w9.cell? ⟨f, 0, none⟩ = some (Value.int .i64 c.wo) := rf9.cell 0 rfl
      have cd1 : w9.cell? ⟨f, 1, none⟩ = some (Value.int .i64 c.sl) := rf9.cell 1 rfl
      have cd2 : w9.cell? ⟨f, 2, none⟩ = some (Value.int .i64 c.st) := rf9.cell 2 rfl
      have cd3 : w9.cell? ⟨f, 3, none⟩ = some (Value.int .i64 c.wa) := rf9.cell 3 rfl
      have cd4 : w9.cell? ⟨f, 4, none⟩ = some (Value.int .i64 c.us) := rf9.cell 4 rfl
      have cd6 : w9.cell? ⟨f, 6, none⟩ = some (Value.slice A2 ah.length c2) := rf9.cell 6 rfl
      have cd7 : w9.cell? ⟨f, 7, none⟩ = some (Value.int .i64 ro) := rf9.cell 7 rfl
      have cd8 : w9.cell? ⟨f, 8, none⟩ = some (Value.bool false) := rf9.cell 8 rfl
      have cd5 : w9.cell? ⟨f, 5, none⟩ = some (Value.slice A1 se.length c1) := rf9.cell 5 rfl
      have g95 := rf9.frozen 5
      refine hK.out _ _ ⟨cd0, cd1, cd2, cd3, cd4, cd6, cd7, cd8⟩ (fun hS => ?_)
      clear hK K
      try simp only [Act.put, List.setIfInBounds_toArray, List.set_cons_zero, List.set_cons_succ]
      refine wpAnyH_take (i := 10) (oi := { dst := some 34, op := Op.nilCheck (Operand.tmp 24), type := 0, pos := "twice.go:39", after := #[{ on := 0, ground := Ground.data }, { on := 0, ground := Ground.phase }, { on := 1, ground := Ground.phase }, { on := 2, ground := Ground.phase }, { on := 3, ground := Ground.phase }, { on := 4, ground := Ground.phase }, { on := 5, ground := Ground.phase }, { on := 6, ground := Ground.phase }, { on := 7, ground := Ground.phase }, { on := 8, ground := Ground.phase }, { on := 9, ground := Ground.phase }], guard := none }) (v := ?v10_61) rfl (by kernel_rfl) (by kernel_rfl) (by kernel_rfl) (fun _ _ _ h => h) (Or.inl ⟨by rfl, ?hy10_61⟩) hS ?rest10_61
      case hy10_61 =>
        intro w hSw
        (try dsimp only at hSw)
        go_simp
        try with_reducible rfl
      try simp only [Act.put, List.setIfInBounds_toArray, List.set_cons_zero, List.set_cons_succ]
      refine wpAnyH_take (i := 11) (oi := { dst := some 35, op := Op.fieldAddr 71 (Operand.tmp 34) 1, type := 0, pos := "twice.go:39", after := #[{ on := 10, ground := Ground.data }, { on := 0, ground := Ground.phase }, { on := 1, ground := Ground.phase }, { on := 2, ground := Ground.phase }, { on := 3, ground := Ground.phase }, { on := 4, ground := Ground.phase }, { on := 5, ground := Ground.phase }, { on := 6, ground := Ground.phase }, { on := 7, ground := Ground.phase }, { on := 8, ground := Ground.phase }, { on := 9, ground := Ground.phase }], guard := none }) (v := ?v11_62) rfl (by kernel_rfl) (by kernel_rfl) (by kernel_rfl) (fun _ _ _ h => h) (Or.inl ⟨by rfl, ?hy11_62⟩) hS ?rest11_62
      case hy11_62 =>
        intro w hSw
        (try dsimp only at hSw)
        go_simp
        try with_reducible rfl
      try simp only [Act.put, List.setIfInBounds_toArray, List.set_cons_zero, List.set_cons_succ]
      refine wpAnyH_ready (rs := [12]) (by kernel_rfl) (by simp) ?_
      refine AllReadyH.cons (o := { dst := none, op := Op.store 32 (Operand.tmp 35) (Operand.tmp 33), type := 0, pos := "twice.go:39", after := #[{ on := 11, ground := Ground.data }, { on := 9, ground := Ground.data }, { on := 9, ground := Ground.chain }, { on := 0, ground := Ground.phase }, { on := 1, ground := Ground.phase }, { on := 2, ground := Ground.phase }, { on := 3, ground := Ground.phase }, { on := 4, ground := Ground.phase }, { on := 5, ground := Ground.phase }, { on := 6, ground := Ground.phase }, { on := 7, ground := Ground.phase }, { on := 8, ground := Ground.phase }, { on := 9, ground := Ground.phase }], guard := none }) rfl (fun K hK => ?_) AllReadyH.nil
      go_simp
      have rfZ := rf9.put 5 (Value.slice (some ⟨b9, 0, none⟩) (se.length + 1) cc)
      have hss : SpX [f] w9 (w9.setCell ⟨f, 5, none⟩ (Value.slice (some ⟨b9, 0, none⟩) (se.length + 1) cc)) := sp_set
      have HOZ := Lib.hid (HO9.out.spx hss (.inr (by simp <;> omega)))
      have HAZ := Lib.hid (HA9.out.spx hss (hnA.imp id fun e => by simpa using e))
      have HMZ := Lib.hid (HM9.out.spx hss (by simp <;> omega) (by simp <;> omega))
      have hSZ := hS9.trans (hss.more (Y := [f, sb, g, gw]) (by simp <;> omega))
      clear hss
      have ce0 : (w9.setCell ⟨f, 5, none⟩ (Value.slice (some ⟨b9, 0, none⟩) (se.length + 1) cc)).cell? ⟨f, 0, none⟩ = some (Value.int .i64 c.wo) := rfZ.cell 0 rfl
      have ce1 : (w9.setCell ⟨f, 5, none⟩ (Value.slice (some ⟨b9, 0, none⟩) (se.length + 1) cc)).cell? ⟨f, 1, none⟩ = some (Value.int .i64 c.sl) := rfZ.cell 1 rfl
      have ce2 : (w9.setCell ⟨f, 5, none⟩ (Value.slice (some ⟨b9, 0, none⟩) (se.length + 1) cc)).cell? ⟨f, 2, none⟩ = some (Value.int .i64 c.st) := rfZ.cell 2 rfl
      have ce3 : (w9.setCell ⟨f, 5, none⟩ (Value.slice (some ⟨b9, 0, none⟩) (se.length + 1) cc)).cell? ⟨f, 3, none⟩ = some (Value.int .i64 c.wa) := rfZ.cell 3 rfl
      have ce4 : (w9.setCell ⟨f, 5, none⟩ (Value.slice (some ⟨b9, 0, none⟩) (se.length + 1) cc)).cell? ⟨f, 4, none⟩ = some (Value.int .i64 c.us) := rfZ.cell 4 rfl
      have ce6 : (w9.setCell ⟨f, 5, none⟩ (Value.slice (some ⟨b9, 0, none⟩) (se.length + 1) cc)).cell? ⟨f, 6, none⟩ = some (Value.slice A2 ah.length c2) := rfZ.cell 6 rfl
      have ce7 : (w9.setCell ⟨f, 5, none⟩ (Value.slice (some ⟨b9, 0, none⟩) (se.length + 1) cc)).cell? ⟨f, 7, none⟩ = some (Value.int .i64 ro) := rfZ.cell 7 rfl
      have ce8 : (w9.setCell ⟨f, 5, none⟩ (Value.slice (some ⟨b9, 0, none⟩) (se.length + 1) cc)).cell? ⟨f, 8, none⟩ = some (Value.bool false) := rfZ.cell 8 rfl
      refine hK.out _ _ ⟨ce0, ce1, ce2, ce3, ce4, ce6, ce7, ce8⟩ (fun hS => ?_)
      clear hK K
      try simp only [Act.put, List.setIfInBounds_toArray, List.set_cons_zero, List.set_cons_succ]
      refine wpAnyH_done (by kernel_rfl) ?_ _
      generalize (w9.setCell ⟨f, 5, none⟩ (Value.slice (some ⟨b9, 0, none⟩) (se.length + 1) cc)) = w5 at *
      go_wp2_with fail
      have rz0 : RowAt w5.drew f 71 #[Value.int .i64 c.wo, Value.int .i64 c.sl, Value.int .i64 c.st, Value.int .i64 c.wa, Value.int .i64 c.us, Value.slice (some ⟨b9, 0, none⟩) (se.length + 1) cc, Value.slice A2 ah.length c2, Value.int .i64 ro, Value.bool false] := rfZ
      have HOZ := Lib.hid HOZ.out.drew
      have HAZ := Lib.hid HAZ.out.drew
      have HMZ := Lib.hid HMZ.out.drew
      have hSZ := hSZ.drew
      clear rfZ ce0 ce1 ce2 ce3 ce4 ce6 ce7 ce8
      have cz0_0 : w5.drew.cell? ⟨f, 0, none⟩ = some (Value.int .i64 c.wo) := rz0.cell 0 rfl
      have cz0_1 : w5.drew.cell? ⟨f, 1, none⟩ = some (Value.int .i64 c.sl) := rz0.cell 1 rfl
      have cz0_2 : w5.drew.cell? ⟨f, 2, none⟩ = some (Value.int .i64 c.st) := rz0.cell 2 rfl
      have cz0_3 : w5.drew.cell? ⟨f, 3, none⟩ = some (Value.int .i64 c.wa) := rz0.cell 3 rfl
      have cz0_4 : w5.drew.cell? ⟨f, 4, none⟩ = some (Value.int .i64 c.us) := rz0.cell 4 rfl
      have cz0_5 : w5.drew.cell? ⟨f, 5, none⟩ = some (Value.slice (some ⟨b9, 0, none⟩) (se.length + 1) cc) := rz0.cell 5 rfl
      have cz0_6 : w5.drew.cell? ⟨f, 6, none⟩ = some (Value.slice A2 ah.length c2) := rz0.cell 6 rfl
      have cz0_7 : w5.drew.cell? ⟨f, 7, none⟩ = some (Value.int .i64 ro) := rz0.cell 7 rfl
      have cz0_8 : w5.drew.cell? ⟨f, 8, none⟩ = some (Value.bool false) := rz0.cell 8 rfl
      refine wp_region_held_drew (S := (fun w' => w'.cell? ⟨f, 0, none⟩ = some (Value.int .i64 c.wo) ∧ w'.cell? ⟨f, 1, none⟩ = some (Value.int .i64 c.sl) ∧ w'.cell? ⟨f, 2, none⟩ = some (Value.int .i64 c.st) ∧ w'.cell? ⟨f, 3, none⟩ = some (Value.int .i64 c.wa) ∧ w'.cell? ⟨f, 4, none⟩ = some (Value.int .i64 c.us) ∧ w'.cell? ⟨f, 5, none⟩ = some (Value.slice (some ⟨b9, 0, none⟩) (se.length + 1) cc) ∧ w'.cell? ⟨f, 6, none⟩ = some (Value.slice A2 ah.length c2) ∧ w'.cell? ⟨f, 7, none⟩ = some (Value.int .i64 ro) ∧ w'.cell? ⟨f, 8, none⟩ = some (Value.bool false))) (by kernel_rfl) ⟨cz0_0, cz0_1, cz0_2, cz0_3, cz0_4, cz0_5, cz0_6, cz0_7, cz0_8⟩ (fun hS => ?_)
      generalize w5.drew = u0 at *
      refine wpAnyH_take (i := 0) (oi := { dst := some 36, op := Op.move (Operand.tmp 0), type := 37, pos := "twice.go:40", after := #[], guard := none }) (v := ?v0_63) rfl (by kernel_rfl) (by kernel_rfl) (by kernel_rfl) (fun _ _ _ h => h) (Or.inl ⟨by rfl, ?hy0_63⟩) hS ?rest0_63
      case hy0_63 =>
        intro w hSw
        (try dsimp only at hSw)
        go_simp
        try with_reducible rfl
      try simp only [Act.put, List.setIfInBounds_toArray, List.set_cons_zero, List.set_cons_succ]
      refine wpAnyH_take (i := 1) (oi := { dst := some 37, op := Op.nilCheck (Operand.tmp 36), type := 0, pos := "twice.go:40", after := #[{ on := 0, ground := Ground.data }], guard := none }) (v := ?v1_64) rfl (by kernel_rfl) (by kernel_rfl) (by kernel_rfl) (fun _ _ _ h => h) (Or.inl ⟨by rfl, ?hy1_64⟩) hS ?rest1_64
      case hy1_64 =>
        intro w hSw
        (try dsimp only at hSw)
        go_simp
        try with_reducible rfl
      try simp only [Act.put, List.setIfInBounds_toArray, List.set_cons_zero, List.set_cons_succ]
      refine wpAnyH_take (i := 2) (oi := { dst := some 38, op := Op.fieldAddr 71 (Operand.tmp 37) 0, type := 0, pos := "twice.go:40", after := #[{ on := 1, ground := Ground.data }], guard := none }) (v := ?v2_65) rfl (by kernel_rfl) (by kernel_rfl) (by kernel_rfl) (fun _ _ _ h => h) (Or.inl ⟨by rfl, ?hy2_65⟩) hS ?rest2_65
      case hy2_65 =>
        intro w hSw
        (try dsimp only at hSw)
        go_simp
        try with_reducible rfl
      try simp only [Act.put, List.setIfInBounds_toArray, List.set_cons_zero, List.set_cons_succ]
      refine wpAnyH_take (i := 3) (oi := { dst := some 39, op := Op.load 31 (Operand.tmp 38), type := 31, pos := "twice.go:40", after := #[{ on := 2, ground := Ground.data }], guard := none }) (v := ?v3_66) rfl (by kernel_rfl) (by kernel_rfl) (by kernel_rfl) (fun _ _ _ h => h) (Or.inl ⟨by rfl, ?hy3_66⟩) hS ?rest3_66
      case hy3_66 =>
        intro w hSw
        (try dsimp only at hSw)
        go_simp
        try with_reducible rfl
      try simp only [Act.put, List.setIfInBounds_toArray, List.set_cons_zero, List.set_cons_succ]
      refine wpAnyH_take (i := 4) (oi := { dst := some 40, op := Op.move (Operand.tmp 0), type := 37, pos := "twice.go:40", after := #[], guard := none }) (v := ?v4_67) rfl (by kernel_rfl) (by kernel_rfl) (by kernel_rfl) (fun _ _ _ h => h) (Or.inl ⟨by rfl, ?hy4_67⟩) hS ?rest4_67
      case hy4_67 =>
        intro w hSw
        (try dsimp only at hSw)
        go_simp
        try with_reducible rfl
      try simp only [Act.put, List.setIfInBounds_toArray, List.set_cons_zero, List.set_cons_succ]
      refine wpAnyH_take (i := 5) (oi := { dst := some 41, op := Op.nilCheck (Operand.tmp 40), type := 0, pos := "twice.go:40", after := #[{ on := 4, ground := Ground.data }], guard := none }) (v := ?v5_68) rfl (by kernel_rfl) (by kernel_rfl) (by kernel_rfl) (fun _ _ _ h => h) (Or.inl ⟨by rfl, ?hy5_68⟩) hS ?rest5_68
      case hy5_68 =>
        intro w hSw
        (try dsimp only at hSw)
        go_simp
        try with_reducible rfl
      try simp only [Act.put, List.setIfInBounds_toArray, List.set_cons_zero, List.set_cons_succ]
      refine wpAnyH_take (i := 6) (oi := { dst := some 42, op := Op.fieldAddr 71 (Operand.tmp 41) 1, type := 0, pos := "twice.go:40", after := #[{ on := 5, ground := Ground.data }], guard := none }) (v := ?v6_69) rfl (by kernel_rfl) (by kernel_rfl) (by kernel_rfl) (fun _ _ _ h => h) (Or.inl ⟨by rfl, ?hy6_69⟩) hS ?rest6_69
      case hy6_69 =>
        intro w hSw
        (try dsimp only at hSw)
        go_simp
        try with_reducible rfl
      try simp only [Act.put, List.setIfInBounds_toArray, List.set_cons_zero, List.set_cons_succ]
      refine wpAnyH_take (i := 7) (oi := { dst := some 43, op := Op.load 32 (Operand.tmp 42), type := 32, pos := "twice.go:40", after := #[{ on := 6, ground := Ground.data }], guard := none }) (v := ?v7_70) rfl (by kernel_rfl) (by kernel_rfl) (by kernel_rfl) (fun _ _ _ h => h) (Or.inl ⟨by rfl, ?hy7_70⟩) hS ?rest7_70
      case hy7_70 =>
        intro w hSw
        (try dsimp only at hSw)
        go_simp
        try with_reducible rfl
      try simp only [Act.put, List.setIfInBounds_toArray, List.set_cons_zero, List.set_cons_succ]
      refine wpAnyH_take (i := 8) (oi := { dst := some 44, op := Op.call { callee := Callee.builtin Builtin.len, args := #[Operand.tmp 43], argTypes := #[32] }, type := 3, pos := "twice.go:40", after := #[{ on := 7, ground := Ground.data }], guard := none }) (v := ?v8_71) rfl (by kernel_rfl) (by kernel_rfl) (by kernel_rfl) (fun _ _ _ h => h) (Or.inl ⟨by rfl, ?hy8_71⟩) hS ?rest8_71
      case hy8_71 =>
        intro w hSw
        (try dsimp only at hSw)
        go_simp
        try with_reducible rfl
      try simp only [Act.put, List.setIfInBounds_toArray, List.set_cons_zero, List.set_cons_succ]
      refine wpAnyH_ready (rs := [9]) (by kernel_rfl) (by simp) ?_
      refine AllReadyH.cons (o := { dst := some 45, op := Op.call { callee := Callee.value (Operand.func 31), args := #[Operand.tmp 39, Operand.tmp 44], argTypes := #[31, 3] }, type := 3, pos := "twice.go:40", after := #[{ on := 3, ground := Ground.data }, { on := 8, ground := Ground.data }], guard := none }) rfl (fun K hK => ?_) AllReadyH.nil
      go_simp
      refine (slot_any c _ _ Hc.out).mono ?_
      rw [HK2.out]
      rintro e u1 ⟨rfl, hb⟩
      have rz1 := rz0.below hb rz0.lt
      have HO1 := Lib.hid (HOZ.out.on hb)
      have HA1 := Lib.hid (HAZ.out.on hb)
      have HM1 := Lib.hid (HMZ.out.on hb)
      have hS1 := hSZ.on hb
      clear hb
      have cz1_0 : u1.cell? ⟨f, 0, none⟩ = some (Value.int .i64 c.wo) := rz1.cell 0 rfl
      have cz1_1 : u1.cell? ⟨f, 1, none⟩ = some (Value.int .i64 c.sl) := rz1.cell 1 rfl
      have cz1_2 : u1.cell? ⟨f, 2, none⟩ = some (Value.int .i64 c.st) := rz1.cell 2 rfl
      have cz1_3 : u1.cell? ⟨f, 3, none⟩ = some (Value.int .i64 c.wa) := rz1.cell 3 rfl
      have cz1_4 : u1.cell? ⟨f, 4, none⟩ = some (Value.int .i64 c.us) := rz1.cell 4 rfl
      have cz1_5 : u1.cell? ⟨f, 5, none⟩ = some (Value.slice (some ⟨b9, 0, none⟩) (se.length + 1) cc) := rz1.cell 5 rfl
      have cz1_6 : u1.cell? ⟨f, 6, none⟩ = some (Value.slice A2 ah.length c2) := rz1.cell 6 rfl
      have cz1_7 : u1.cell? ⟨f, 7, none⟩ = some (Value.int .i64 ro) := rz1.cell 7 rfl
      have cz1_8 : u1.cell? ⟨f, 8, none⟩ = some (Value.bool false) := rz1.cell 8 rfl
      refine hK.out _ _ ⟨cz1_0, cz1_1, cz1_2, cz1_3, cz1_4, cz1_5, cz1_6, cz1_7, cz1_8⟩ (fun hS => ?_)
      clear hK K
      try simp only [Act.put, List.setIfInBounds_toArray, List.set_cons_zero, List.set_cons_succ]
      refine wpAnyH_take (i := 10) (oi := { dst := some 46, op := Op.binOp BinOp.lss 3 (Operand.tmp 45) (Operand.const (Value.int IntKind.i64 0)) 3, type := 4, pos := "twice.go:40", after := #[{ on := 9, ground := Ground.data }], guard := none }) (v := ?v10_72) rfl (by kernel_rfl) (by kernel_rfl) (by kernel_rfl) (fun _ _ _ h => h) (Or.inl ⟨by rfl, ?hy10_72⟩) hS ?rest10_72
      case hy10_72 =>
        intro w hSw
        (try dsimp only at hSw)
        go_simp
        try with_reducible rfl
      try simp only [Act.put, List.setIfInBounds_toArray, List.set_cons_zero, List.set_cons_succ]
      refine wpAnyH_done (by kernel_rfl) ?_ _
      go_wp2
      go_ret
      exact HFIN.out _ b9 ab ⟨⟨_, cc, A2, c2, HRZ.out _ rz1, HOL.out _ HO1.out, HA1.out⟩, hne9⟩ HM1.out hS1 (by omega) (.inl rfl)
    refine AllReadyH.cons (o := { dst := some 32, op := Op.buildSlice 32 1 #[(0, Operand.tmp 31)], type := 32, pos := "twice.go:39", after := #[{ on := 7, ground := Ground.data }], guard := none }) rfl (fun K hK => ?_) AllReadyH.nil
    go_simp
    have rf2 := rf1.alloc (.cells #[Value.int .i64 v] 3)
    have cc_0 : (u1.alloc (.cells #[Value.int .i64 v] 3)).cell? ⟨f, 0, none⟩ = some (Value.int .i64 c.wo) := rf2.cell 0 rfl
    have cc_1 : (u1.alloc (.cells #[Value.int .i64 v] 3)).cell? ⟨f, 1, none⟩ = some (Value.int .i64 c.sl) := rf2.cell 1 rfl
    have cc_2 : (u1.alloc (.cells #[Value.int .i64 v] 3)).cell? ⟨f, 2, none⟩ = some (Value.int .i64 c.st) := rf2.cell 2 rfl
    have cc_3 : (u1.alloc (.cells #[Value.int .i64 v] 3)).cell? ⟨f, 3, none⟩ = some (Value.int .i64 c.wa) := rf2.cell 3 rfl
    have cc_4 : (u1.alloc (.cells #[Value.int .i64 v] 3)).cell? ⟨f, 4, none⟩ = some (Value.int .i64 c.us) := rf2.cell 4 rfl
    have cc_6 : (u1.alloc (.cells #[Value.int .i64 v] 3)).cell? ⟨f, 6, none⟩ = some (Value.slice A2 ah.length c2) := rf2.cell 6 rfl
    have cc_7 : (u1.alloc (.cells #[Value.int .i64 v] 3)).cell? ⟨f, 7, none⟩ = some (Value.int .i64 ro) := rf2.cell 7 rfl
    have cc_8 : (u1.alloc (.cells #[Value.int .i64 v] 3)).cell? ⟨f, 8, none⟩ = some (Value.bool false) := rf2.cell 8 rfl
    have cc_5 : (u1.alloc (.cells #[Value.int .i64 v] 3)).cell? ⟨f, 5, none⟩ = some (Value.slice A1 se.length c1) := rf2.cell 5 rfl
    refine hK.out _ _ ⟨cc_0, cc_1, cc_2, cc_3, cc_4, cc_6, cc_7, cc_8⟩ (fun hS => ?_)
    clear hK K
    try simp only [Act.put, List.setIfInBounds_toArray, List.set_cons_zero, List.set_cons_succ]
    refine wpAnyH_ready (rs := [4]) (by kernel_rfl) (by simp) ?_
    refine AllReadyH.cons (o := { dst := some 28, op := Op.load 32 (Operand.tmp 27), type := 32, pos := "twice.go:39", after := #[{ on := 3, ground := Ground.data }], guard := none }) rfl (fun K hK => ?_) AllReadyH.nil
    go_simp
    refine hK.out _ _ ⟨cc_0, cc_1, cc_2, cc_3, cc_4, cc_6, cc_7, cc_8⟩ (fun hS => ?_)
    clear hK K
    try simp only [Act.put, List.setIfInBounds_toArray, List.set_cons_zero, List.set_cons_succ]
    refine wpAnyH_ready (rs := [9]) (by kernel_rfl) (by simp) ?_
    refine AllReadyH.cons (o := { dst := some 33, op := Op.call { callee := Callee.builtin Builtin.append, args := #[Operand.tmp 28, Operand.tmp 32], argTypes := #[32, 32] }, type := 32, pos := "twice.go:39", after := #[{ on := 4, ground := Ground.data }, { on := 8, ground := Ground.data }, { on := 7, ground := Ground.chain }], guard := none }) rfl (fun K hK => ?_) AllReadyH.nil
    (rw [if_pos (by kernel_rfl)]; refine wp_append_run (.tmp 28) (.tmp 32) 32 rfl _ _ rfl rfl _ _ hrun ?_)
    have hX2 := hX (Ow f sb) ow_in
    have rf9 := rf1.spx hX2 (ow_not f sb)
    have HA9 := Lib.hid (HA1.out.spx hX2 hAX)
    have HM9 := Lib.hid (HM1.out.spx hX2 (fun h => hsg (ow_only h).symm) (fun h => hsw (ow_only h).symm))
    have hne9 : b9 = ab → b9 = f := fun e => by have := Hne.out; have := HA1.out.lt; omega
    have hS9 := hS1.trans (hX2.more (Y := [f, sb, g, gw]) (fun k hk => by rw [ow_only hk]; simp))
    have HO9 := Lib.hid HO
    clear HO hX hX2
    have cd0 : w9.cell? ⟨f, 0, none⟩ = some (Value.int .i64 c.wo) := rf9.cell 0 rfl
    have cd1 : w9.cell? ⟨f, 1, none⟩ = some (Value.int .i64 c.sl) := rf9.cell 1 rfl
    have cd2 : w9.cell? ⟨f, 2, none⟩ = some (Value.int .i64 c.st) := rf9.cell 2 rfl
    have cd3 : w9.cell? ⟨f, 3, none⟩ = some (Value.int .i64 c.wa) := rf9.cell 3 rfl
    have cd4 : w9.cell? ⟨f, 4, none⟩ = some (Value.int .i64 c.us) := rf9.cell 4 rfl
    have cd6 : w9.cell? ⟨f, 6, none⟩ = some (Value.slice A2 ah.length c2) := rf9.cell 6 rfl
    have cd7 : w9.cell? ⟨f, 7, none⟩ = some (Value.int .i64 ro) := rf9.cell 7 rfl
    have cd8 : w9.cell? ⟨f, 8, none⟩ = some (Value.bool false) := rf9.cell 8 rfl
    have cd5 : w9.cell? ⟨f, 5, none⟩ = some (Value.slice A1 se.length c1) := rf9.cell 5 rfl
    have g95 := rf9.frozen 5
    refine hK.out _ _ ⟨cd0, cd1, cd2, cd3, cd4, cd6, cd7, cd8⟩ (fun hS => ?_)
    clear hK K
    try simp only [Act.put, List.setIfInBounds_toArray, List.set_cons_zero, List.set_cons_succ]
    refine wpAnyH_take (i := 10) (oi := { dst := some 34, op := Op.nilCheck (Operand.tmp 24), type := 0, pos := "twice.go:39", after := #[{ on := 0, ground := Ground.data }, { on := 0, ground := Ground.phase }, { on := 1, ground := Ground.phase }, { on := 2, ground := Ground.phase }, { on := 3, ground := Ground.phase }, { on := 4, ground := Ground.phase }, { on := 5, ground := Ground.phase }, { on := 6, ground := Ground.phase }, { on := 7, ground := Ground.phase }, { on := 8, ground := Ground.phase }, { on := 9, ground := Ground.phase }], guard := none }) (v := ?v10_73) rfl (by kernel_rfl) (by kernel_rfl) (by kernel_rfl) (fun _ _ _ h => h) (Or.inl ⟨by rfl, ?hy10_73⟩) hS ?rest10_73
    case hy10_73 =>
      intro w hSw
      (try dsimp only at hSw)
      go_simp
      try with_reducible rfl
    try simp only [Act.put, List.setIfInBounds_toArray, List.set_cons_zero, List.set_cons_succ]
    refine wpAnyH_take (i := 11) (oi := { dst := some 35, op := Op.fieldAddr 71 (Operand.tmp 34) 1, type := 0, pos := "twice.go:39", after := #[{ on := 10, ground := Ground.data }, { on := 0, ground := Ground.phase }, { on := 1, ground := Ground.phase }, { on := 2, ground := Ground.phase }, { on := 3, ground := Ground.phase }, { on := 4, ground := Ground.phase }, { on := 5, ground := Ground.phase }, { on := 6, ground := Ground.phase }, { on := 7, ground := Ground.phase }, { on := 8, ground := Ground.phase }, { on := 9, ground := Ground.phase }], guard := none }) (v := ?v11_74) rfl (by kernel_rfl) (by kernel_rfl) (by kernel_rfl) (fun _ _ _ h => h) (Or.inl ⟨by rfl, ?hy11_74⟩) hS ?rest11_74
    case hy11_74 =>
      intro w hSw
      (try dsimp only at hSw)
      go_simp
      try with_reducible rfl
    try simp only [Act.put, List.setIfInBounds_toArray, List.set_cons_zero, List.set_cons_succ]
    refine wpAnyH_ready (rs := [12]) (by kernel_rfl) (by simp) ?_
    refine AllReadyH.cons (o := { dst := none, op := Op.store 32 (Operand.tmp 35) (Operand.tmp 33), type := 0, pos := "twice.go:39", after := #[{ on := 11, ground := Ground.data }, { on := 9, ground := Ground.data }, { on := 9, ground := Ground.chain }, { on := 0, ground := Ground.phase }, { on := 1, ground := Ground.phase }, { on := 2, ground := Ground.phase }, { on := 3, ground := Ground.phase }, { on := 4, ground := Ground.phase }, { on := 5, ground := Ground.phase }, { on := 6, ground := Ground.phase }, { on := 7, ground := Ground.phase }, { on := 8, ground := Ground.phase }, { on := 9, ground := Ground.phase }], guard := none }) rfl (fun K hK => ?_) AllReadyH.nil
    go_simp
    have rfZ := rf9.put 5 (Value.slice (some ⟨b9, 0, none⟩) (se.length + 1) cc)
    have hss : SpX [f] w9 (w9.setCell ⟨f, 5, none⟩ (Value.slice (some ⟨b9, 0, none⟩) (se.length + 1) cc)) := sp_set
    have HOZ := Lib.hid (HO9.out.spx hss (.inr (by simp <;> omega)))
    have HAZ := Lib.hid (HA9.out.spx hss (hnA.imp id fun e => by simpa using e))
    have HMZ := Lib.hid (HM9.out.spx hss (by simp <;> omega) (by simp <;> omega))
    have hSZ := hS9.trans (hss.more (Y := [f, sb, g, gw]) (by simp <;> omega))
    clear hss
    have ce0 : (w9.setCell ⟨f, 5, none⟩ (Value.slice (some ⟨b9, 0, none⟩) (se.length + 1) cc)).cell? ⟨f, 0, none⟩ = some (Value.int .i64 c.wo) := rfZ.cell 0 rfl
    have ce1 : (w9.setCell ⟨f, 5, none⟩ (Value.slice (some ⟨b9, 0, none⟩) (se.length + 1) cc)).cell? ⟨f, 1, none⟩ = some (Value.int .i64 c.sl) := rfZ.cell 1 rfl
    have ce2 : (w9.setCell ⟨f, 5, none⟩ (Value.slice (some ⟨b9, 0, none⟩) (se.length + 1) cc)).cell? ⟨f, 2, none⟩ = some (Value.int .i64 c.st) := rfZ.cell 2 rfl
    have ce3 : (w9.setCell ⟨f, 5, none⟩ (Value.slice (some ⟨b9, 0, none⟩) (se.length + 1) cc)).cell? ⟨f, 3, none⟩ = some (Value.int .i64 c.wa) := rfZ.cell 3 rfl
    have ce4 : (w9.setCell ⟨f, 5, none⟩ (Value.slice (some ⟨b9, 0, none⟩) (se.length + 1) cc)).cell? ⟨f, 4, none⟩ = some (Value.int .i64 c.us) := rfZ.cell 4 rfl
    have ce6 : (w9.setCell ⟨f, 5, none⟩ (Value.slice (some ⟨b9, 0, none⟩) (se.length + 1) cc)).cell? ⟨f, 6, none⟩ = some (Value.slice A2 ah.length c2) := rfZ.cell 6 rfl
    have ce7 : (w9.setCell ⟨f, 5, none⟩ (Value.slice (some ⟨b9, 0, none⟩) (se.length + 1) cc)).cell? ⟨f, 7, none⟩ = some (Value.int .i64 ro) := rfZ.cell 7 rfl
    have ce8 : (w9.setCell ⟨f, 5, none⟩ (Value.slice (some ⟨b9, 0, none⟩) (se.length + 1) cc)).cell? ⟨f, 8, none⟩ = some (Value.bool false) := rfZ.cell 8 rfl
    refine hK.out _ _ ⟨ce0, ce1, ce2, ce3, ce4, ce6, ce7, ce8⟩ (fun hS => ?_)
    clear hK K
    try simp only [Act.put, List.setIfInBounds_toArray, List.set_cons_zero, List.set_cons_succ]
    refine wpAnyH_done (by kernel_rfl) ?_ _
    generalize (w9.setCell ⟨f, 5, none⟩ (Value.slice (some ⟨b9, 0, none⟩) (se.length + 1) cc)) = w5 at *
    go_wp2_with fail
    have rz0 : RowAt w5.drew f 71 #[Value.int .i64 c.wo, Value.int .i64 c.sl, Value.int .i64 c.st, Value.int .i64 c.wa, Value.int .i64 c.us, Value.slice (some ⟨b9, 0, none⟩) (se.length + 1) cc, Value.slice A2 ah.length c2, Value.int .i64 ro, Value.bool false] := rfZ
    have HOZ := Lib.hid HOZ.out.drew
    have HAZ := Lib.hid HAZ.out.drew
    have HMZ := Lib.hid HMZ.out.drew
    have hSZ := hSZ.drew
    clear rfZ ce0 ce1 ce2 ce3 ce4 ce6 ce7 ce8
    have cz0_0 : w5.drew.cell? ⟨f, 0, none⟩ = some (Value.int .i64 c.wo) := rz0.cell 0 rfl
    have cz0_1 : w5.drew.cell? ⟨f, 1, none⟩ = some (Value.int .i64 c.sl) := rz0.cell 1 rfl
    have cz0_2 : w5.drew.cell? ⟨f, 2, none⟩ = some (Value.int .i64 c.st) := rz0.cell 2 rfl
    have cz0_3 : w5.drew.cell? ⟨f, 3, none⟩ = some (Value.int .i64 c.wa) := rz0.cell 3 rfl
    have cz0_4 : w5.drew.cell? ⟨f, 4, none⟩ = some (Value.int .i64 c.us) := rz0.cell 4 rfl
    have cz0_5 : w5.drew.cell? ⟨f, 5, none⟩ = some (Value.slice (some ⟨b9, 0, none⟩) (se.length + 1) cc) := rz0.cell 5 rfl
    have cz0_6 : w5.drew.cell? ⟨f, 6, none⟩ = some (Value.slice A2 ah.length c2) := rz0.cell 6 rfl
    have cz0_7 : w5.drew.cell? ⟨f, 7, none⟩ = some (Value.int .i64 ro) := rz0.cell 7 rfl
    have cz0_8 : w5.drew.cell? ⟨f, 8, none⟩ = some (Value.bool false) := rz0.cell 8 rfl
    refine wp_region_held_drew (S := (fun w' => w'.cell? ⟨f, 0, none⟩ = some (Value.int .i64 c.wo) ∧ w'.cell? ⟨f, 1, none⟩ = some (Value.int .i64 c.sl) ∧ w'.cell? ⟨f, 2, none⟩ = some (Value.int .i64 c.st) ∧ w'.cell? ⟨f, 3, none⟩ = some (Value.int .i64 c.wa) ∧ w'.cell? ⟨f, 4, none⟩ = some (Value.int .i64 c.us) ∧ w'.cell? ⟨f, 5, none⟩ = some (Value.slice (some ⟨b9, 0, none⟩) (se.length + 1) cc) ∧ w'.cell? ⟨f, 6, none⟩ = some (Value.slice A2 ah.length c2) ∧ w'.cell? ⟨f, 7, none⟩ = some (Value.int .i64 ro) ∧ w'.cell? ⟨f, 8, none⟩ = some (Value.bool false))) (by kernel_rfl) ⟨cz0_0, cz0_1, cz0_2, cz0_3, cz0_4, cz0_5, cz0_6, cz0_7, cz0_8⟩ (fun hS => ?_)
    generalize w5.drew = u0 at *
    refine wpAnyH_take (i := 0) (oi := { dst := some 36, op := Op.move (Operand.tmp 0), type := 37, pos := "twice.go:40", after := #[], guard := none }) (v := ?v0_75) rfl (by kernel_rfl) (by kernel_rfl) (by kernel_rfl) (fun _ _ _ h => h) (Or.inl ⟨by rfl, ?hy0_75⟩) hS ?rest0_75
    case hy0_75 =>
      intro w hSw
      (try dsimp only at hSw)
      go_simp
      try with_reducible rfl
    try simp only [Act.put, List.setIfInBounds_toArray, List.set_cons_zero, List.set_cons_succ]
    refine wpAnyH_take (i := 1) (oi := { dst := some 37, op := Op.nilCheck (Operand.tmp 36), type := 0, pos := "twice.go:40", after := #[{ on := 0, ground := Ground.data }], guard := none }) (v := ?v1_76) rfl (by kernel_rfl) (by kernel_rfl) (by kernel_rfl) (fun _ _ _ h => h) (Or.inl ⟨by rfl, ?hy1_76⟩) hS ?rest1_76
    case hy1_76 =>
      intro w hSw
      (try dsimp only at hSw)
      go_simp
      try with_reducible rfl
    try simp only [Act.put, List.setIfInBounds_toArray, List.set_cons_zero, List.set_cons_succ]
    refine wpAnyH_take (i := 2) (oi := { dst := some 38, op := Op.fieldAddr 71 (Operand.tmp 37) 0, type := 0, pos := "twice.go:40", after := #[{ on := 1, ground := Ground.data }], guard := none }) (v := ?v2_77) rfl (by kernel_rfl) (by kernel_rfl) (by kernel_rfl) (fun _ _ _ h => h) (Or.inl ⟨by rfl, ?hy2_77⟩) hS ?rest2_77
    case hy2_77 =>
      intro w hSw
      (try dsimp only at hSw)
      go_simp
      try with_reducible rfl
    try simp only [Act.put, List.setIfInBounds_toArray, List.set_cons_zero, List.set_cons_succ]
    refine wpAnyH_take (i := 3) (oi := { dst := some 39, op := Op.load 31 (Operand.tmp 38), type := 31, pos := "twice.go:40", after := #[{ on := 2, ground := Ground.data }], guard := none }) (v := ?v3_78) rfl (by kernel_rfl) (by kernel_rfl) (by kernel_rfl) (fun _ _ _ h => h) (Or.inl ⟨by rfl, ?hy3_78⟩) hS ?rest3_78
    case hy3_78 =>
      intro w hSw
      (try dsimp only at hSw)
      go_simp
      try with_reducible rfl
    try simp only [Act.put, List.setIfInBounds_toArray, List.set_cons_zero, List.set_cons_succ]
    refine wpAnyH_take (i := 4) (oi := { dst := some 40, op := Op.move (Operand.tmp 0), type := 37, pos := "twice.go:40", after := #[], guard := none }) (v := ?v4_79) rfl (by kernel_rfl) (by kernel_rfl) (by kernel_rfl) (fun _ _ _ h => h) (Or.inl ⟨by rfl, ?hy4_79⟩) hS ?rest4_79
    case hy4_79 =>
      intro w hSw
      (try dsimp only at hSw)
      go_simp
      try with_reducible rfl
    try simp only [Act.put, List.setIfInBounds_toArray, List.set_cons_zero, List.set_cons_succ]
    refine wpAnyH_take (i := 5) (oi := { dst := some 41, op := Op.nilCheck (Operand.tmp 40), type := 0, pos := "twice.go:40", after := #[{ on := 4, ground := Ground.data }], guard := none }) (v := ?v5_80) rfl (by kernel_rfl) (by kernel_rfl) (by kernel_rfl) (fun _ _ _ h => h) (Or.inl ⟨by rfl, ?hy5_80⟩) hS ?rest5_80
    case hy5_80 =>
      intro w hSw
      (try dsimp only at hSw)
      go_simp
      try with_reducible rfl
    try simp only [Act.put, List.setIfInBounds_toArray, List.set_cons_zero, List.set_cons_succ]
    refine wpAnyH_take (i := 6) (oi := { dst := some 42, op := Op.fieldAddr 71 (Operand.tmp 41) 1, type := 0, pos := "twice.go:40", after := #[{ on := 5, ground := Ground.data }], guard := none }) (v := ?v6_81) rfl (by kernel_rfl) (by kernel_rfl) (by kernel_rfl) (fun _ _ _ h => h) (Or.inl ⟨by rfl, ?hy6_81⟩) hS ?rest6_81
    case hy6_81 =>
      intro w hSw
      (try dsimp only at hSw)
      go_simp
      try with_reducible rfl
    try simp only [Act.put, List.setIfInBounds_toArray, List.set_cons_zero, List.set_cons_succ]
    refine wpAnyH_take (i := 7) (oi := { dst := some 43, op := Op.load 32 (Operand.tmp 42), type := 32, pos := "twice.go:40", after := #[{ on := 6, ground := Ground.data }], guard := none }) (v := ?v7_82) rfl (by kernel_rfl) (by kernel_rfl) (by kernel_rfl) (fun _ _ _ h => h) (Or.inl ⟨by rfl, ?hy7_82⟩) hS ?rest7_82
    case hy7_82 =>
      intro w hSw
      (try dsimp only at hSw)
      go_simp
      try with_reducible rfl
    try simp only [Act.put, List.setIfInBounds_toArray, List.set_cons_zero, List.set_cons_succ]
    refine wpAnyH_take (i := 8) (oi := { dst := some 44, op := Op.call { callee := Callee.builtin Builtin.len, args := #[Operand.tmp 43], argTypes := #[32] }, type := 3, pos := "twice.go:40", after := #[{ on := 7, ground := Ground.data }], guard := none }) (v := ?v8_83) rfl (by kernel_rfl) (by kernel_rfl) (by kernel_rfl) (fun _ _ _ h => h) (Or.inl ⟨by rfl, ?hy8_83⟩) hS ?rest8_83
    case hy8_83 =>
      intro w hSw
      (try dsimp only at hSw)
      go_simp
      try with_reducible rfl
    try simp only [Act.put, List.setIfInBounds_toArray, List.set_cons_zero, List.set_cons_succ]
    refine wpAnyH_ready (rs := [9]) (by kernel_rfl) (by simp) ?_
    refine AllReadyH.cons (o := { dst := some 45, op := Op.call { callee := Callee.value (Operand.func 31), args := #[Operand.tmp 39, Operand.tmp 44], argTypes := #[31, 3] }, type := 3, pos := "twice.go:40", after := #[{ on := 3, ground := Ground.data }, { on := 8, ground := Ground.data }], guard := none }) rfl (fun K hK => ?_) AllReadyH.nil
    go_simp
    refine (slot_any c _ _ Hc.out).mono ?_
    rw [HK2.out]
    rintro e u1 ⟨rfl, hb⟩
    have rz1 := rz0.below hb rz0.lt
    have HO1 := Lib.hid (HOZ.out.on hb)
    have HA1 := Lib.hid (HAZ.out.on hb)
    have HM1 := Lib.hid (HMZ.out.on hb)
    have hS1 := hSZ.on hb
    clear hb
    have cz1_0 : u1.cell? ⟨f, 0, none⟩ = some (Value.int .i64 c.wo) := rz1.cell 0 rfl
    have cz1_1 : u1.cell? ⟨f, 1, none⟩ = some (Value.int .i64 c.sl) := rz1.cell 1 rfl
    have cz1_2 : u1.cell? ⟨f, 2, none⟩ = some (Value.int .i64 c.st) := rz1.cell 2 rfl
    have cz1_3 : u1.cell? ⟨f, 3, none⟩ = some (Value.int .i64 c.wa) := rz1.cell 3 rfl
    have cz1_4 : u1.cell? ⟨f, 4, none⟩ = some (Value.int .i64 c.us) := rz1.cell 4 rfl
    have cz1_5 : u1.cell? ⟨f, 5, none⟩ = some (Value.slice (some ⟨b9, 0, none⟩) (se.length + 1) cc) := rz1.cell 5 rfl
    have cz1_6 : u1.cell? ⟨f, 6, none⟩ = some (Value.slice A2 ah.length c2) := rz1.cell 6 rfl
    have cz1_7 : u1.cell? ⟨f, 7, none⟩ = some (Value.int .i64 ro) := rz1.cell 7 rfl
    have cz1_8 : u1.cell? ⟨f, 8, none⟩ = some (Value.bool false) := rz1.cell 8 rfl
    refine hK.out _ _ ⟨cz1_0, cz1_1, cz1_2, cz1_3, cz1_4, cz1_5, cz1_6, cz1_7, cz1_8⟩ (fun hS => ?_)
    clear hK K
    try simp only [Act.put, List.setIfInBounds_toArray, List.set_cons_zero, List.set_cons_succ]
    refine wpAnyH_take (i := 10) (oi := { dst := some 46, op := Op.binOp BinOp.lss 3 (Operand.tmp 45) (Operand.const (Value.int IntKind.i64 0)) 3, type := 4, pos := "twice.go:40", after := #[{ on := 9, ground := Ground.data }], guard := none }) (v := ?v10_84) rfl (by kernel_rfl) (by kernel_rfl) (by kernel_rfl) (fun _ _ _ h => h) (Or.inl ⟨by rfl, ?hy10_84⟩) hS ?rest10_84
    case hy10_84 =>
      intro w hSw
      (try dsimp only at hSw)
      go_simp
      try with_reducible rfl
    try simp only [Act.put, List.setIfInBounds_toArray, List.set_cons_zero, List.set_cons_succ]
    refine wpAnyH_done (by kernel_rfl) ?_ _
    go_wp2
    go_ret
    exact HFIN.out _ b9 ab ⟨⟨_, cc, A2, c2, HRZ.out _ rz1, HOL.out _ HO1.out, HA1.out⟩, hne9⟩ HM1.out hS1 (by omega) (.inl rfl)
theorem step_any (f sb ab g gw c0 : Nat) (c : Cf) (n F : Nat) (x : Tw) (s : St) (v : Int) (w : World) (hc : Rc c) (hn : c.sl = n) (hF : (3 + c.wo + c.wo).toNat = F) (hT : TwAt w f sb ab c x) (hok : x.Ok n) (hM : MemAt w g gw c0 s) (hv : s.ws[F + x.se.length]? = some v) (ht : s.t < 1000000) (hro : x.ro ≤ 1000000)
    (hfg : f ≠ g) (hfw : f ≠ gw) (hsg : sb ≠ g) (hsw : sb ≠ gw) (hag : ab ≠ g) (haw : ab ≠ gw) :
    Calls Try.prog 15 #[.pointer (some ⟨f, 0, none⟩), .pointer (some ⟨g, 0, none⟩)] w (RetStep f sb ab g gw c0 c n x s v w) := by
  cases hd : x.dn with
  | true => exact step_no f sb ab g gw c0 c n F x s v w hc hn hF hT hok hM hd
  | false => exact step_go f sb ab g gw c0 c n F x s v w hc hn hF hT hok hM hv ht hro hfg hfw hsg hsw hag haw hd
end Go.Proofs.Ytalmadeibnekoaa
