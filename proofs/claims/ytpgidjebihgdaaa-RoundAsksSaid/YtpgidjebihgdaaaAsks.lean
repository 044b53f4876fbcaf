/- RoundAsks: the law answers true, whatever its numbers; nothing that was there changes. -/
import Derived.Test.YtpgidjebihgdaaaAsk
import Derived.Test.YtpgidjebihgdaaaOnce
namespace Go.Proofs.Ytpgidjebihgdaaa
open Go.RowKit Go.Shelf
attribute [local go_sem] Oper.semAt_some

theorem ints_same (A A2 : Option Addr) (c c2 n n2 : Nat) (xs : List Int) (w : World) (hn : xs.length = n) (hn2 : xs.length = n2) (h : IS w w.heap.size A xs) (h2 : IS w w.heap.size A2 xs) (hl : xs.length ≤ 1000000) :
    Calls Try.prog 13 #[.slice A n c, .slice A2 n2 c2] w (fun e w' => e = .returned (.bool true) ∧ Below w.heap.size w w') := by
  subst hn
  subst hn2
  refine (ints_any A A2 c c2 xs xs w h h2 hl).mono ?_
  rw [decide_eq_true rfl]
  exact fun _ _ h => h

set_option maxRecDepth 100000 in
set_option maxHeartbeats 8000000 in
theorem asks_go (m k left : Nat) (w : World) (hm : m < 256) (hk : k < 256) (hl : left < 256) :
    Calls Try.prog 5 #[.int .u8 m, .int .u8 k, .int .u8 left] w (fun e w' => e = .returned (.bool true) ∧ Below w.heap.size w w') := by
  obtain ⟨n, hn, hn2⟩ : ∃ n : Nat, (m : Int) % 101 = n ∧ n ≤ 100 := ⟨m % 101, by omega, by omega⟩
  have hnf := run_eql_nilFunc
  refine (callsIn_wide (n := 6)).1 ?_
  refine callsIn_of_wp_marks Try.func5 rfl trivial ?_ rfl
  simp only [Try.ntmps5, List.size_toArray, List.length_cons, List.length_nil, Nat.reduceAdd, Nat.reduceSub, Array.replicate_succ, Array.replicate_zero, List.push_toArray, List.append_toArray, List.nil_append, List.cons_append]
  gi_wp2_with (first
    | (refine ⟨trivial, ?_⟩; gi_at_call 8; refine (callsIn_wide.2 (awake_any _)).mono ?_; rintro e w1 ⟨rfl, hB1⟩)
    | (refine ⟨trivial, ?_⟩; gi_at_call 18; refine (callsIn_wide.2 (first_any _ _ _ _)).mono ?_; rintro e w2 ⟨rfl, ew2⟩))
  subst ew2
  obtain ⟨W1, eW1⟩ : ∃ W1, W1 = (w1.alloc (.cells #[vI n] 3)).alloc (.cells #[vI 0] 3) := ⟨_, rfl⟩
  have hs1 : W1.heap.size = w1.heap.size + 1 + 1 := by rw [eW1]; simp
  have bN1 : Boxed W1 w1.heap.size 3 (vI n) := by rw [eW1]; exact (Boxed.new w1 3 (vI n)).alloc _
  have bA1 : Boxed W1 (w1.heap.size + 1) 3 (vI 0) := by
    have := Boxed.new (w1.alloc (.cells #[vI n] 3)) 3 (vI 0)
    rw [World.size_alloc] at this
    rw [eW1]; exact this
  have bl1 : Boxed w1 w.heap.size 5 (.int .u8 left) := boxed_below (Boxed.new w 5 (.int .u8 left)) hB1
  have hW1 : Below w1.heap.size w1 W1 := by rw [eW1]; exact ((Below.refl _ w1).alloc (Nat.le_refl _) _).alloc (by simp) _
  have hB2 : Below w.heap.size w W1 := bthen (bthen ((Below.refl _ w).alloc (Nat.le_refl _) _) hB1) hW1
  replace bl1 := boxed_below bl1 hW1
  have hwl : w.heap.size < w1.heap.size := by have := hB1.size; simp at this; omega
  rw [← hs1, ← eW1]
  obtain ⟨Ba, eBa⟩ : ∃ Ba, Ba = w1.heap.size + 1 := ⟨_, rfl⟩
  obtain ⟨Bn, eBn⟩ : ∃ Bn, Bn = w1.heap.size := ⟨_, rfl⟩
  obtain ⟨Bl, eBl⟩ : ∃ Bl, Bl = w.heap.size := ⟨_, rfl⟩
  rw [← eBa] at bA1 ⊢
  rw [← eBn] at bN1 ⊢
  rw [← eBl] at bl1 ⊢
  have o1 : Bl < Bn := by omega
  have o2 : Bn < Ba := by omega
  have o3 : Ba < W1.heap.size := bA1.lt
  have hwl2 : w.heap.size ≤ Bl := by omega
  clear eW1 hs1 hW1 hB1 hwl eBa eBn eBl
  refine ⟨trivial, (callsIn_wide.2 (asks_list n k 0 Bn Ba W1 _ hn2 (by omega) bN1.cell bA1 (by omega) rfl)).mono ?_⟩
  rintro e w3 ⟨A, c, rfl, hc, hI, bA3, hlo, Y3, hG3⟩
  obtain ⟨q, eq⟩ : ∃ q : Nat, q = min k n := ⟨_, rfl⟩
  rw [← eq] at hc bA3 ⊢
  have Eq := Lib.hid eq
  have hq : q ≤ 100 := by omega
  clear eq
  rw [Int.zero_add] at bA3
  have bN3 : Boxed w3 Bn 3 (vI n) := boxed_grow' bN1 hG3 (fun e => by have : Bn = Ba := e; omega)
  have bl3 : Boxed w3 Bl 5 (.int .u8 left) := boxed_grow' bl1 hG3 (fun e => by have : Bl = Ba := e; omega)
  have hB3 : Below w.heap.size w w3 := hB2.trans (grow_low hG3 (fun i e => by have : i = Ba := e; omega) hB2.size)
  have o4 : Ba < w3.heap.size := bA3.lt
  have o3' : ∀ a, A = some a → Ba < a.block := fun a ha => Nat.lt_of_lt_of_le o3 (hlo a ha)
  clear hB2 bN1 bA1 bl1 hG3 o3 hlo
  have cA3 := bA3.cell
  have fA3 := bA3.frozen
  gi_wp2_with (first
    | (refine ⟨trivial, ?_⟩; gi_at_call 15; refine (callsIn_wide.2 (second_any _ _ _)).mono ?_; rintro e w6 ⟨rfl, ew6⟩)
    | (refine ⟨trivial, ?_⟩; gi_at_call 11; refine (callsIn_wide.2 (where_any _ _ _ _ _)).mono ?_; rintro e w7 ⟨rfl, ew7⟩))
  clear ew6 hnf
  rw [← ew7]
  obtain ⟨W5, eW5⟩ : ∃ W5, W5 = (w3.setCell ⟨Ba, 0, none⟩ (vI 0)).alloc (.cells #[vI 0] 3) := ⟨_, rfl⟩
  have hs5 : W5.heap.size = w3.heap.size + 1 := by rw [eW5]; simp [World.setCell]
  obtain ⟨W6, eW6⟩ : ∃ W6, W6 = W5.alloc (.cells #[fv 19 #[ptr Bn, ptr Ba]] 26) := ⟨_, rfl⟩
  have hs6 : W6.heap.size = w3.heap.size + 1 + 1 := by rw [eW6]; simp [hs5]
  rw [← eW5, ← hs5, ← eW6] at ew7
  rw [← hs6, ← hs5]
  have hs7 : w7.heap.size = W6.heap.size + 1 + 1 := by rw [ew7]; simp
  have g5 : Grow (one Ba) w3 (one Ba) W5 := by rw [eW5]; exact (Grow.setCell (X := one Ba) w3 ⟨Ba, 0, none⟩ (vI 0) rfl).trans (Grow.of_below ((Below.refl _ _).alloc (Nat.le_refl _) _))
  have b67 : Below W5.heap.size W5 w7 := by
    rw [ew7, eW6]
    exact (((Below.refl _ W5).alloc (Nat.le_refl _) _).alloc (by simp) _).alloc (by simp; omega) _
  have bA5 : Boxed W5 Ba 3 (vI 0) := by rw [eW5]; exact (bA3.set (vI 0)).alloc _
  have bT5 : Boxed W5 w3.heap.size 3 (vI 0) := by
    have := Boxed.new (w3.setCell ⟨Ba, 0, none⟩ (vI 0)) 3 (vI 0)
    rw [size_set] at this
    rw [eW5]; exact this
  have bN5 : Boxed W5 Bn 3 (vI n) := boxed_grow' bN3 g5 (fun e => by have : Bn = Ba := e; omega)
  have bl5 : Boxed W5 Bl 5 (.int .u8 left) := boxed_grow' bl3 g5 (fun e => by have : Bl = Ba := e; omega)
  have hI5 : IS W5 W5.heap.size A ((upto 0 n).take k) := hI.grow g5 (Nat.le_refl _) (fun a ha h1 e => by have := o3' a ha; have : a.block = Ba := e; omega)
  have hlo : ∀ a, A = some a → Ba < a.block := o3'
  have hB7 : Below w.heap.size w w7 := bthen (hB3.trans (grow_low g5 (fun i e => by have : i = Ba := e; omega) hB3.size)) b67
  have hI7 : IS w7 w3.heap.size A ((upto 0 n).take k) := fun i x hi => by
    obtain ⟨b, off, rfl, h1, h2⟩ := hI i x hi
    exact ⟨b, off, rfl, h1, b67.cell (p := ⟨b, off + i, none⟩) (by show b < _; omega) |>.trans (g5.cell h2 (fun e => by have := o3' _ rfl; have : b = Ba := e; simp at *; omega))⟩
  have bT7 := boxed_below bT5 b67
  have bN7 := boxed_below bN5 b67
  have bl7 := boxed_below bl5 b67
  have hIt := where_it (second_it (asks_it n 0 Bn Ba W5 hn2 (by omega) bN5.cell bA5 (by omega)) (enters_of Try.func19 (by kernel_rfl) rfl)) (enters_of Try.func29 (by kernel_rfl) rfl) (fits_all (W5.alloc (.cells #[fv 19 #[ptr Bn, ptr Ba]] 26))) (enters_of Try.func20 (by kernel_rfl) rfl) (fun _ h => h.elim)
  rw [← eW6] at hIt
  rw [show (W6.alloc (.cells #[fv 29 #[ptr W5.heap.size]] 26)).alloc (.cells #[fv 20 #[]] 29) = w7 from ew7.symm] at hIt
  have eg : ∀ args w, (callFunc 28 args).run Try.prog w = .ok (.enter 28 args) w := enters_of Try.func28 (by kernel_rfl) rfl
  obtain ⟨Bt, eBt⟩ : ∃ Bt, Bt = w3.heap.size := ⟨_, rfl⟩
  rw [← eBt] at bT7 hI7 ⊢
  have o5 : Bt < W5.heap.size := by omega
  have o6 : Ba < Bt := by omega
  have o7 : Bt ≤ w7.heap.size := by omega
  have nE : ¬ (plus (plus (one Bn) (· = W5.heap.size)) (plus no (two W6.heap.size (W6.heap.size + 1)))) Bt := by
    rintro ((e | e) | e | e | e)
    · have : Bt = Bn := e; omega
    · omega
    · exact e
    · omega
    · omega
  clear ew7 eW5 eW6 g5 b67 bA5 bT5 bN5 bl5 hI5 bA3 bN3 bl3 hB3 hI cA3 fA3 hs5 hs6 hs7 eBt o3' o4
  refine wpIn_range (lb := #[ptr W6.heap.size, ptr (W6.heap.size + 1)]) rfl eg hIt rfl
    (fun Y pre V => Grow (plus (one Ba) (one Bt)) w7 (plus Y (one Bt)) V ∧ ¬ Y Bt ∧ Boxed V Bt 3 (vI pre.length) ∧ pre.length ≤ left)
    (fun c Y pre V => c = .exit 0 ∧ Grow (plus (one Ba) (one Bt)) w7 (plus Y (one Bt)) V ∧ ¬ Y Bt ∧ Boxed V Bt 3 (vI pre.length) ∧ pre.length = left + 1) ?ab ?abx ⟨Grow.refl _ _, fun e => by have : Bt = Ba := e; omega, bT7, Nat.zero_le _⟩
    (fun x => { tmps := #[.int .u8 m, .int .u8 k, .int .u8 left, undef, undef, ptr Bl, .bool false, .bool true, ptr Bn, ptr Ba, fv 19 #[ptr Bn, ptr Ba], vI k, .slice A q c, vI q, ptr Bt, fv 28 #[ptr W6.heap.size, ptr (W6.heap.size + 1)], undef, undef, undef, .bool true, .int .u8 m, .int .u8 n, vI n, fv 19 #[ptr Bn, ptr Ba], .int .u8 k, vI k, fv 19 #[ptr Bn, ptr Ba], vI k, fv 30 #[ptr (W1.heap.size + 1), ptr W1.heap.size], .slice A q c, vI q, fv 19 #[ptr Bn, ptr Ba], fv 29 #[ptr W5.heap.size], fv 28 #[ptr W6.heap.size, ptr (W6.heap.size + 1)], fv 28 #[ptr W6.heap.size, ptr (W6.heap.size + 1)], .bool false, fv 28 #[ptr W6.heap.size, ptr (W6.heap.size + 1)], vI x, undef, undef, undef, undef, undef, undef, undef, undef, undef, undef, undef, undef, undef, undef, undef, undef, undef, undef, undef, undef, undef, undef, undef, undef, undef, undef, undef, undef, undef, undef, undef, undef, undef, undef, undef, undef, undef, undef, undef, undef, undef, undef, undef, undef, undef, undef, undef], defers := [] }) ?assign ?body ?done ?stop
  case ab =>
    rintro X X' s A B ⟨h1, h2, h3, h4⟩ hg
    exact ⟨h1.trans (hg.plus _), hg.not h3.lt h2, boxed_grow' h3 hg h2, h4⟩
  case abx =>
    rintro c' X X' s A B ⟨h0, h1, h2, h3, h4⟩ hg
    exact ⟨h0, h1.trans (hg.plus _), hg.not h3.lt h2, boxed_grow' h3 hg h2, h4⟩
  case assign =>
    intro l x W K hK
    gi_wp2
    exact hK
  case body =>
    rintro l1 Y pre x V hl1 ⟨hG, hYB, bT, hpl⟩ hlt
    have bl8 : Boxed V Bl 5 (.int .u8 left) := boxed_grow' bl7 hG (fun e => by rcases e with e | e <;> omega)
    have cT := bT.cell
    have fT := bT.frozen
    have cl := bl8.cell
    have hn1 : Bl ≠ Bt := by omega
    have hset := bT.set (vI (pre.length + 1))
    have e1 : (((pre ++ [x]).length : Nat) : Int) = pre.length + 1 := by simp
    have hG2 : Grow (plus (one Ba) (one Bt)) w7 (plus Y (one Bt)) (V.setCell ⟨Bt, 0, none⟩ (vI (pre.length + 1))) := hG.trans (Grow.setCell _ _ _ (.inr rfl))
    have hkp : Kept (plus (plus (one Bn) (· = W5.heap.size)) (plus no (two W6.heap.size (W6.heap.size + 1)))) Y V (V.setCell ⟨Bt, 0, none⟩ (vI (pre.length + 1))) := kept_set _ _ _ nE hYB
    have E1 := Lib.hid e1
    clear e1
    by_cases hlf : pre.length < left
    · have hlf' : (pre.length : Int) + 1 ≤ (left : Int) := by omega
      gi_wp2
      refine ⟨hkp, hG2, hYB, by rw [E1.out]; exact hset, by simp; omega⟩
    · have hlf' : ¬ (pre.length : Int) + 1 ≤ (left : Int) := by omega
      have hlf2 : (left : Int) < (pre.length : Int) + 1 := by omega
      gi_wp2
      refine ⟨hkp, rfl, hG2, hYB, by rw [E1.out]; exact hset, by simp; omega⟩
  case done =>
    rintro Y D ys V hD hD0 hXY ⟨zs, ⟨us, ⟨rfl, bA⟩, rfl⟩, rfl⟩ ⟨hG, hYB, bT, hpl⟩ hK
    have hT2 : ((sec (upto 0 n)).filter fun _ => true).length = (n + 1) / 2 := by
      rw [List.filter_eq_self.2 (fun _ _ => rfl), sec_len, upto_len]; omega
    rw [Int.zero_add] at bA
    have bl8 : Boxed V Bl 5 (.int .u8 left) := boxed_grow' bl7 hG (fun e => by rcases e with e | e <;> omega)
    have bN8 : Boxed V Bn 3 (vI n) := boxed_grow' bN7 hG (fun e => by rcases e with e | e <;> omega)
    have hI8 : IS V V.heap.size A ((upto 0 n).take k) := hI7.grow hG o7 (fun a ha h1 e => by have := hlo a ha; rcases e with e | e <;> omega)
    have hB8 : Below w.heap.size w V := hB7.trans (grow_low hG (fun i e => by rcases e with e | e <;> omega) hB7.size)
    have o8 : w7.heap.size ≤ V.heap.size := hG.size
    have hDV : D < V.heap.size := (Array.getElem?_eq_some_iff.1 hK).1
    have hDw : w7.heap.size ≤ D := (hG.new D (.inl hD)).elim (fun e => e.elim (fun e => absurd e hD0) (fun e => absurd (e ▸ hD : Y Bt) hYB)) (fun e => e.1)
    have hww : w.heap.size ≤ w7.heap.size := hB7.size
    clear hG hIt eg bl7 bN7 hI7 hB7 nE
    obtain ⟨T, eT⟩ : ∃ T : Nat, T = ((sec (upto 0 n)).filter fun _ => true).length := ⟨_, rfl⟩
    rw [← eT] at bT
    rw [← eT] at hpl hT2
    clear eT
    obtain ⟨hT3, hT4, hT5⟩ : (T : Int) ≤ (left : Int) ∧ 2 * (T : Int) ≤ n + 1 ∧ (n : Int) ≤ 2 * T := by omega
    have hT100 : T ≤ 300 := by omega
    have cA := bA.cell
    have cT := bT.cell
    have cl := bl8.cell
    have cN := bN8.cell
    clear hT2
    gi_wp2_with (refine ⟨trivial, ?_⟩; gi_at_call 18; refine (callsIn_wide.2 (first_any _ _ _ _)).mono ?_; rintro e w9 ⟨rfl, ew9⟩)
    rw [← ew9]
    refine ⟨trivial, (callsIn_wide.2 (asks_list n k n Bn Ba V w9 hn2 (by omega) bN8.cell bA (by omega) ew9)).mono ?_⟩
    rintro e w10 ⟨A10, c10, rfl, hc10, hI10, bA10, hlo10, Y10, hG10⟩
    clear ew9
    have o10 : Bt < V.heap.size := bT.lt
    have bN10 : Boxed w10 Bn 3 (vI n) := boxed_grow' bN8 hG10 (fun e => by have : Bn = Ba := e; omega)
    have bl10 : Boxed w10 Bl 5 (.int .u8 left) := boxed_grow' bl8 hG10 (fun e => by have : Bl = Ba := e; omega)
    have bT10 : Boxed w10 Bt 3 (vI T) := boxed_grow' bT hG10 (fun e => by have : Bt = Ba := e; omega)
    have hI11 : IS w10 w10.heap.size A ((upto 0 n).take k) := hI8.grow hG10 (Nat.le_refl _) (fun a ha h1 e => by have := hlo a ha; have : a.block = Ba := e; omega)
    have hB10 : Below w.heap.size w w10 := hB8.trans (grow_low hG10 (fun i e => by have : i = Ba := e; omega) hB8.size)
    have hK10 : w10.heap[D]? = some (.deferred (some [])) := (hG10.block D hDV (fun e => hD0 e)).trans hK
    have hlen : ((upto 0 n).take k).length = min k n := by rw [List.length_take, upto_len]; omega
    obtain ⟨zs, ez⟩ : ∃ zs, zs = (upto 0 n).take k := ⟨_, rfl⟩
    rw [← ez] at hI10 hI11 hlen
    clear ez
    clear cA cT cl cN hG10 bA bT bl8 bN8 hI8 hB8 hK hlo10 bA10
    have cT := bT10.cell
    have cl := bl10.cell
    have cN := bN10.cell
    rcases Nat.lt_or_ge n k with hkn' | hkn'
    · have hq1 : q = n := by rw [Eq.out]; omega
      have hm : min k n = n := by omega
      have hkI : (n : Int) < (k : Int) := by omega
      rw [hm] at hlen hc10
      rw [hm]
      subst hq1
      clear hm
      gi_wp2
      all_goals
        refine ⟨trivial, (callsIn_wide.2 (ints_same A A10 c c10 _ _ zs w10 hlen hlen hI11 hI10 (by omega))).mono ?_⟩
        rintro e w11 ⟨rfl, hB11⟩
        gi_wp2
        have hK11 := (hB11.block D (Array.getElem?_eq_some_iff.1 hK10).1).trans hK10
        refine ⟨by simp, .inl ⟨_, _, rfl, run_takeDeferred hK11, ?_⟩⟩
        refine ⟨.bool true, by simp [results, Try.f5, go_sem], rfl, ?_⟩
        exact (hB10.trans (hB11.mono hB10.size)).trans (belowK_b (w := w) (Nat.le_refl _) _ D _ _ (by omega) hK11 rfl rfl)
    · have hq1 : q = k := by rw [Eq.out]; omega
      have hm : min k n = k := by omega
      have hkI : (k : Int) ≤ (n : Int) := by omega
      rw [hm] at hlen hc10
      rw [hm]
      subst hq1
      clear hm
      gi_wp2
      all_goals
        refine ⟨trivial, (callsIn_wide.2 (ints_same A A10 c c10 _ _ zs w10 hlen hlen hI11 hI10 (by omega))).mono ?_⟩
        rintro e w11 ⟨rfl, hB11⟩
        gi_wp2
        have hK11 := (hB11.block D (Array.getElem?_eq_some_iff.1 hK10).1).trans hK10
        refine ⟨by simp, .inl ⟨_, _, rfl, run_takeDeferred hK11, ?_⟩⟩
        refine ⟨.bool true, by simp [results, Try.f5, go_sem], rfl, ?_⟩
        exact (hB10.trans (hB11.mono hB10.size)).trans (belowK_b (w := w) (Nat.le_refl _) _ D _ _ (by omega) hK11 rfl rfl)

  case stop =>
    rintro Y D c' ys V hD hD0 hXY ⟨us, x, ⟨vs, ⟨hv1, bA⟩, hv2, hv3⟩, rfl, _⟩ ⟨rfl, hG, hYB, bT, hpl⟩ hK
    have hvl := hv1.length_le
    rw [upto_len] at hvl
    have hT2 : ((us ++ [x]).filter fun _ => true).length = (vs.length + 1) / 2 := by
      rw [List.filter_eq_self.2 (fun _ _ => rfl), hv2, sec_len]
    rw [Int.zero_add] at bA
    obtain ⟨Z, eZ⟩ : ∃ Z : Nat, Z = vs.length := ⟨_, rfl⟩
    rw [← eZ] at bA hvl hT2 hv3
    clear eZ hv1 hv2
    obtain ⟨us', eu⟩ : ∃ us', us' = (us ++ [x]).filter fun _ => true := ⟨_, rfl⟩
    rw [← eu] at bT hpl hT2
    clear eu
    have bl8 : Boxed V Bl 5 (.int .u8 left) := boxed_grow' bl7 hG (fun e => by rcases e with e | e <;> omega)
    have bN8 : Boxed V Bn 3 (vI n) := boxed_grow' bN7 hG (fun e => by rcases e with e | e <;> omega)
    have hI8 : IS V V.heap.size A ((upto 0 n).take k) := hI7.grow hG o7 (fun a ha h1 e => by have := hlo a ha; rcases e with e | e <;> omega)
    have hB8 : Below w.heap.size w V := hB7.trans (grow_low hG (fun i e => by rcases e with e | e <;> omega) hB7.size)
    have o8 : w7.heap.size ≤ V.heap.size := hG.size
    have hDV : D < V.heap.size := (Array.getElem?_eq_some_iff.1 hK).1
    have hDw : w7.heap.size ≤ D := (hG.new D (.inl hD)).elim (fun e => e.elim (fun e => absurd e hD0) (fun e => absurd (e ▸ hD : Y Bt) hYB)) (fun e => e.1)
    have hww : w.heap.size ≤ w7.heap.size := hB7.size
    clear hG hIt eg bl7 bN7 hI7 hB7 nE
    obtain ⟨T, eT⟩ : ∃ T : Nat, T = us'.length := ⟨_, rfl⟩
    rw [← eT] at bT
    rw [← eT] at hpl hT2
    clear eT
    obtain ⟨hT3, hT4, hT5⟩ : (Z : Int) = 2 * (T : Int) - 1 ∧ (left : Int) < (T : Int) ∧ 2 * (T : Int) - 1 ≤ (n : Int) := by omega
    have hT100 : T ≤ 300 := by omega
    have cA := bA.cell
    have cT := bT.cell
    have cl := bl8.cell
    have cN := bN8.cell
    clear hT2
    gi_wp2_with (refine ⟨trivial, ?_⟩; gi_at_call 18; refine (callsIn_wide.2 (first_any _ _ _ _)).mono ?_; rintro e w9 ⟨rfl, ew9⟩)
    rw [← ew9]
    refine ⟨trivial, (callsIn_wide.2 (asks_list n k Z Bn Ba V w9 hn2 (by omega) bN8.cell bA (by omega) ew9)).mono ?_⟩
    rintro e w10 ⟨A10, c10, rfl, hc10, hI10, bA10, hlo10, Y10, hG10⟩
    clear ew9
    have o10 : Bt < V.heap.size := bT.lt
    have bN10 : Boxed w10 Bn 3 (vI n) := boxed_grow' bN8 hG10 (fun e => by have : Bn = Ba := e; omega)
    have bl10 : Boxed w10 Bl 5 (.int .u8 left) := boxed_grow' bl8 hG10 (fun e => by have : Bl = Ba := e; omega)
    have bT10 : Boxed w10 Bt 3 (vI T) := boxed_grow' bT hG10 (fun e => by have : Bt = Ba := e; omega)
    have hI11 : IS w10 w10.heap.size A ((upto 0 n).take k) := hI8.grow hG10 (Nat.le_refl _) (fun a ha h1 e => by have := hlo a ha; have : a.block = Ba := e; omega)
    have hB10 : Below w.heap.size w w10 := hB8.trans (grow_low hG10 (fun i e => by have : i = Ba := e; omega) hB8.size)
    have hK10 : w10.heap[D]? = some (.deferred (some [])) := (hG10.block D hDV (fun e => hD0 e)).trans hK
    have hlen : ((upto 0 n).take k).length = min k n := by rw [List.length_take, upto_len]; omega
    obtain ⟨zs, ez⟩ : ∃ zs, zs = (upto 0 n).take k := ⟨_, rfl⟩
    rw [← ez] at hI10 hI11 hlen
    clear ez
    clear cA cT cl cN hG10 bA bT bl8 bN8 hI8 hB8 hK hlo10 bA10
    have cT := bT10.cell
    have cl := bl10.cell
    have cN := bN10.cell
    rcases Nat.lt_or_ge n k with hkn' | hkn'
    · have hq1 : q = n := by rw [Eq.out]; omega
      have hm : min k n = n := by omega
      have hkI : (n : Int) < (k : Int) := by omega
      rw [hm] at hlen hc10
      rw [hm]
      subst hq1
      clear hm
      gi_wp2
      all_goals
        refine ⟨trivial, (callsIn_wide.2 (ints_same A A10 c c10 _ _ zs w10 hlen hlen hI11 hI10 (by omega))).mono ?_⟩
        rintro e w11 ⟨rfl, hB11⟩
        gi_wp2
        have hK11 := (hB11.block D (Array.getElem?_eq_some_iff.1 hK10).1).trans hK10
        refine ⟨by simp, .inl ⟨_, _, rfl, run_takeDeferred hK11, ?_⟩⟩
        refine ⟨.bool true, by simp [results, Try.f5, go_sem], rfl, ?_⟩
        exact (hB10.trans (hB11.mono hB10.size)).trans (belowK_b (w := w) (Nat.le_refl _) _ D _ _ (by omega) hK11 rfl rfl)
    · have hq1 : q = k := by rw [Eq.out]; omega
      have hm : min k n = k := by omega
      have hkI : (k : Int) ≤ (n : Int) := by omega
      rw [hm] at hlen hc10
      rw [hm]
      subst hq1
      clear hm
      gi_wp2
      all_goals
        refine ⟨trivial, (callsIn_wide.2 (ints_same A A10 c c10 _ _ zs w10 hlen hlen hI11 hI10 (by omega))).mono ?_⟩
        rintro e w11 ⟨rfl, hB11⟩
        gi_wp2
        have hK11 := (hB11.block D (Array.getElem?_eq_some_iff.1 hK10).1).trans hK10
        refine ⟨by simp, .inl ⟨_, _, rfl, run_takeDeferred hK11, ?_⟩⟩
        refine ⟨.bool true, by simp [results, Try.f5, go_sem], rfl, ?_⟩
        exact (hB10.trans (hB11.mono hB10.size)).trans (belowK_b (w := w) (Nat.le_refl _) _ D _ _ (by omega) hK11 rfl rfl)

theorem asks_any (m k left : Int) (w : World) (h0 : 0 ≤ m ∧ m ≤ 255) (h1 : 0 ≤ k ∧ k ≤ 255) (h2 : 0 ≤ left ∧ left ≤ 255) :
    Calls Try.prog 5 #[.int .u8 m, .int .u8 k, .int .u8 left] w (fun e w' => e = .returned (.bool true) ∧ Below w.heap.size w w') := by
  obtain ⟨m, rfl⟩ := Int.eq_ofNat_of_zero_le h0.1
  obtain ⟨k, rfl⟩ := Int.eq_ofNat_of_zero_le h1.1
  obtain ⟨left, rfl⟩ := Int.eq_ofNat_of_zero_le h2.1
  exact asks_go m k left w (by omega) (by omega) (by omega)
end Go.Proofs.Ytpgidjebihgdaaa
