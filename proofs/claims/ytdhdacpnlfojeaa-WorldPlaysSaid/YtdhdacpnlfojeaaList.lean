/- What stands in a ring, collected into a list of its own. -/
import Derived.Test.YtdhdacpnlfojeaaSeq
namespace Go.Proofs.Ytdhdacpnlfojeaa
open Go.RowKit Go.Shelf
attribute [local go_sem] Oper.semAt_some

/-- the bools xs lie in the slice at A, below N -/
def BS (w : World) (N : Nat) (A : Option Addr) (xs : List Bool) : Prop := ∀ (k : Nat) x, xs[k]? = some x → ∃ b off, A = some ⟨b, off, none⟩ ∧ b < N ∧ w.cell? ⟨b, off + k, none⟩ = some (.bool x)
def RetBools (w : World) (xs : List Bool) (e : Ending) (w' : World) : Prop := ∃ A c, e = .returned (.slice A xs.length c) ∧ xs.length ≤ c ∧ BS w' w'.heap.size A xs ∧ (∀ a, A = some a → w.heap.size ≤ a.block ∧ a.block < w'.heap.size) ∧ Below w.heap.size w w'

set_option maxHeartbeats 1000000 in
theorem allF_in (n g : Nat) (w : World) :
    CallsIn Fence.wide n Try.prog 23 #[ptr g] w fun e w' => e = .returned (.func (.func 27) #[] #[ptr w.heap.size]) ∧ w' = w.alloc (.cells #[ptr g] 39) := by
  refine callsIn_of_wp Try.func23 rfl trivial ?_ rfl
  simp only [Try.ntmps23, List.size_toArray, List.length_cons, List.length_nil, Nat.reduceAdd, Nat.reduceSub, Array.replicate_succ, Array.replicate_zero, List.push_toArray, List.append_toArray, List.nil_append, List.cons_append]
  gi_wp2
  go_ret
  exact ⟨rfl, rfl⟩

theorem all_stops (n0 Bs Bo g gb m first room : Nat) (A : Option Addr) (xs : List Bool) (w : World) (hn0 : n0 = w.heap.size) (hBs : w.cell? ⟨Bs, 0, none⟩ = some (ptr g)) (hBo : Bs ≠ Bo)
    (hR : RingAt w g gb m first room A (xs.map vB)) (hg : g ≠ Bo) (hgb : 0 < m → gb ≠ Bo) :
    SeqStopsK Fence.wide 5 Try.prog 27 #[ptr Bs] (fun x : Bool => #[vB x]) (KB n0 Bo) (fun ys => ys = xs) (fun pre => pre <+: xs) xs.length w := by
  subst hn0
  exact fun l J Jx W hW hJ _ hY h0 => seq_in 5 (by omega) l Bs w.heap.size Bo g gb m first room A xs J Jx hY W hJ ((hW.cell (p := ⟨Bs, 0, none⟩) (World.block_lt_of_cell? w _ hBs)).trans hBs) (World.block_lt_of_cell? w _ hBs) hBo (hR.on hW) ⟨hR.lg, hg⟩
    (fun hm => ⟨(hR.pl hm).2.2.1, hgb hm⟩) h0

theorem own_bs {w : World} {base n c : Nat} {A : Option Addr} {xs : List Bool} (h : w.ownsRow base 4 1 (.slice A n c) n (xs.map vB)) : BS w w.heap.size A xs ∧ xs.length = n ∧ n ≤ c ∧ ∀ a, A = some a → base ≤ a.block ∧ a.block < w.heap.size := by
  have hlen : xs.length = n := by have := h.1; simpa using this
  rcases h.2 with ⟨h1, h2⟩ | ⟨g, cap, cur, h1, hbg, hg, h2, _⟩
  · cases h1
    obtain rfl : xs = [] := List.eq_nil_of_length_eq_zero (by omega)
    exact ⟨fun k x hk => by simp at hk, hlen, by omega, fun a h => by cases h⟩
  · cases h1
    refine ⟨fun k x hk => ⟨g, 0, rfl, (Array.getElem?_eq_some_iff.1 hg).1, ?_⟩, hlen, h2, fun a ha => by cases ha; exact ⟨hbg, (Array.getElem?_eq_some_iff.1 hg).1⟩⟩
    have := h.cells (g := g) rfl k (.bool x) (by rw [List.getElem?_map, hk]; rfl)
    have ha : (⟨g, 0, none⟩ : Addr).add k = ⟨g, 0 + k, none⟩ := by unfold Addr.add; split <;> simp_all
    rw [ha] at this
    exact this
theorem own_mono {w : World} {b b' e size n : Nat} {v : Value} {xs : List Value} (h : w.ownsRow b e size v n xs) (hb : b' ≤ b) : w.ownsRow b' e size v n xs :=
  ⟨h.1, h.2.imp id fun ⟨g, cap, cur, h1, h2, h3⟩ => ⟨g, cap, cur, h1, Nat.le_trans hb h2, h3⟩⟩
theorem own_form {w : World} {base e size n : Nat} {v : Value} {xs : List Value} (h : w.ownsRow base e size v n xs) : ∃ A c, v = .slice A n c := by
  rcases h.2 with ⟨h1, h2⟩ | ⟨g, cap, cur, h1, _⟩
  · exact ⟨none, 0, by rw [h1, h2]⟩
  · exact ⟨_, _, h1⟩
theorem not_def {w : World} {base e size n D : Nat} {v : Value} {xs : List Value} {ds : Option (List Deferred)} (h : w.ownsRow base e size v n xs) (hK : w.heap[D]? = some (.deferred ds)) : v.ownBlock = none ∨ v.ownBlock ≠ some D := by
  rcases h.2 with ⟨rfl, _⟩ | ⟨g, cap, cur, rfl, _, hg, _⟩
  · exact .inl rfl
  · refine .inr fun e => ?_
    obtain rfl : g = D := by simpa [Value.ownBlock] using e
    rw [hg] at hK
    cases hK
/-- the box B holds a slice of its own with the bools xs -/
def OwnBox (B base : Nat) (xs : List Bool) (W : World) : Prop := ∃ v, Boxed W B 27 v ∧ W.ownsRow base 4 1 v xs.length (xs.map vB)
theorem ownBox_own (B base : Nat) (f : List Bool → List Bool) : Own (fun pre W => OwnBox B base (f pre) W) := by
  intro s X Y row hs hg hr
  obtain ⟨v, h1, h2⟩ := hs
  refine ⟨v, boxed_own B 27 (fun _ : Unit => v) () X Y row h1 hg hr, h2.kept hg ?_⟩
  cases hv : v.ownBlock with
  | none => exact .inl rfl
  | some k =>
    refine .inr fun e => ?_
    obtain ⟨o, ho, hc⟩ := hr k e.symm
    rcases h2.2 with ⟨rfl, _⟩ | ⟨g, cap, cur, rfl, _, hgg, _⟩
    · simp [Value.ownBlock] at hv
    · simp [Value.ownBlock] at hv
      subst hv
      rw [hgg] at ho
      cases ho
      cases hc
theorem infoB2 : (Try.prog.info? 4).map (fun i => (i.zero, i.size, i.bytes)) = some (some (.bool false), 1, 1) := by kernel_rfl

set_option maxRecDepth 100000 in
set_option maxHeartbeats 2000000 in
theorem collects_any (Bs g gb room : Nat) (l : List Bool) (w : World) (h : Ring w g gb room (l.map vB)) (hBs : w.cell? ⟨Bs, 0, none⟩ = some (ptr g)) :
    Calls Try.prog 26 #[.slice none 0 0, .func (.func 27) #[] #[ptr Bs]] w (RetBools w l) := by
  obtain ⟨hg1, hgb1⟩ := h.lt
  have hll : l.length ≤ 1000000 := by have := h.le; rw [List.length_map] at this; exact Nat.le_trans this h.room_le
  have hBl := World.block_lt_of_cell? w _ hBs
  replace hBl : Bs < w.heap.size := hBl
  obtain ⟨i0, hi, hz0, hz1, hz2⟩ := info_parts infoB2
  refine (callsIn_wide (n := 6)).1 ?_
  refine callsIn_of_wp_marks Try.func26 rfl trivial ?_ rfl
  simp only [Try.ntmps26, List.size_toArray, List.length_cons, List.length_nil, Nat.reduceAdd, Nat.reduceSub, Array.replicate_succ, Array.replicate_zero, List.push_toArray, List.append_toArray, List.nil_append, List.cons_append]
  gi_wp2
  have bO := Boxed.new w 27 (.slice none 0 0)
  have hB0 : Below w.heap.size w (w.alloc (.cells #[.slice none 0 0] 27)) := ((Below.refl _ w).alloc (Nat.le_refl _) _)
  have hsz : (w.alloc (.cells #[.slice none 0 0] 27)).heap.size = w.heap.size + 1 := by simp
  obtain ⟨W0, hW0⟩ : ∃ W0, W0 = w.alloc (.cells #[.slice none 0 0] 27) := ⟨_, rfl⟩
  rw [← hW0] at bO hB0 hsz ⊢
  clear hW0
  have hR0 : Ring W0 g gb room (l.map vB) := h.on hB0
  have hBs0 : W0.cell? ⟨Bs, 0, none⟩ = some (ptr g) := (hB0.cell (p := ⟨Bs, 0, none⟩) hBl).trans hBs
  obtain ⟨m, first, A, hR, hem⟩ := hR0
  refine wpIn_rangeFunc_ownH rfl (by omega) (gf := 27) (lb := #[ptr Bs]) rfl trivial (enters_of Try.func27 (by kernel_rfl) rfl)
    (all_stops (w.heap.size + 1) Bs w.heap.size g gb m first room A l W0 hsz.symm hBs0 (by omega) hR (by omega) (fun _ => by omega)) KB.trans (KB.putObj (by omega)) (Below.refl _ _) (fun _ => rfl)
    (fun pre W => pre.length ≤ l.length ∧ OwnBox w.heap.size (w.heap.size + 1) pre W ∧ w.heap.size + 1 ≤ W.heap.size ∧ Below w.heap.size w W)
    (fun c pre W => False)
    (OwnFrom.and (ownFrom_pure _ _) (OwnFrom.and (Own.from (ownBox_own _ _ _) _) (OwnFrom.and (fun _ _ _ _ hs hg _ => Nat.le_trans hs hg.size) (ownFrom_below (by omega) (by omega)))))
    (fun c => ownFrom_pure _ _)
    ⟨Nat.zero_le _, ⟨_, bO, World.ownsRow_nil _ _ _ _⟩, by omega, hB0⟩
    (fun x a' W => a' = { tmps := #[.slice none 0 0, .func (.func 27) #[] #[ptr Bs], ptr w.heap.size, undef, .slice none 0 0, vB x, .func (.func 27) #[] #[ptr Bs], vB x,
      undef, undef, undef, undef, undef], defers := [] })
    (fun x a' _ X Y row hs hg hr => hs)
    ?assign ?body ?done ?stop
  case assign =>
    rintro l1 pre x W K hI hK
    gi_wp2
    exact hK _ _ ((KeepsOthers.refl _).from _) (KB.refl _ _ _) hI rfl
  case body =>
    rintro l1 pre x a' W hl2 ⟨r, hr⟩ ⟨hpl, ⟨v, bO1, hown⟩, hsW, hB1⟩ rfl hlt
    obtain ⟨A1, c1, rfl⟩ := own_form hown
    have cO := bO1.cell
    have fO := bO1.frozen
    have lO := bO1.lt
    gi_wp2_with (first
      | (gi_at_builtin; refine wpListIn_append_own _ rfl _ _ 27 rfl (w.heap.size + 1) 4 i0 (.bool false) 1 1 Try.underlying27 hi hz0 hz1 hz2 rfl (by decide) _ _ _ rfl (hown.alloc _) ⟨W.heap.size, 0, none⟩ 1 1 [vB x] rfl rfl ?c1 ?c2 ?c3 ?c4 ?c5 ?_))
    case c1 => exact cell_one_new _ _ _
    case c2 => simp [Value.oneCell']
    case c3 => unfold maxLen; omega
    case c4 => omega
    case c5 => simp; omega
    intro v' w4 hown4 hgrow4 _
    have hap := Boxed.appended bO1 (show (27 : TypeId) ≠ 4 by decide) (own_mono hown (show w.heap.size ≤ w.heap.size + 1 by omega)) (by omega) (by omega) (own_mono hown4 (by omega)) hgrow4
    have hKB : KB (w.heap.size + 1) w.heap.size W (w4.setCell ⟨w.heap.size, 0, none⟩ v') :=
      ⟨hap.2.2.2.2.os, hap.2.2.2.2.tape, hap.2.2.2.2.output, hap.2.2.2.2.size, fun k hk hkb => (Below.heap_setCell _ _ _ _ hkb).trans ((hgrow4.block k (by simp; omega) (fun e => by have := (hown.lt k e.symm).1; omega)).trans (Below.heap_alloc W _ k (by omega)))⟩
    have cO4 := hap.1.cell
    have fO4 := hap.1.frozen
    obtain ⟨A2, c2, rfl⟩ := own_form hown4
    have hO5 : OwnBox w.heap.size (w.heap.size + 1) (pre ++ [x]) (w4.setCell ⟨w.heap.size, 0, none⟩ (.slice A2 (pre.length + 1) c2)) :=
      ⟨_, hap.2.1, by
        have := hown4.kept (grownBy_setCell' w4 w.heap.size (.slice A2 (pre.length + 1) c2)) (.inr (hap.1.not_row (show (27 : TypeId) ≠ 4 by decide) hown4).symm)
        simpa using this⟩
    gi_wp2
    exact ⟨hap.2.2.2.1.from _, hKB, by simp; omega, hO5, Nat.le_trans hsW hKB.size, hB1.trans (hap.2.2.2.2.mono (by omega))⟩
  case done =>
    rintro D ys W hD rfl ⟨hpl, ⟨v, bO1, hown⟩, hsW, hB1⟩ hK
    obtain ⟨A1, c1, rfl⟩ := own_form hown
    have cO := bO1.cell
    gi_wp2
    refine ⟨by simp, .inl ⟨_, _, rfl, run_takeDeferred hK, ?_⟩⟩
    have hown2 := hown.kept (grownBy_putObj' W D (.deferred none)) (not_def hown hK)
    obtain ⟨h1, h2, h3, h4⟩ := own_bs hown2
    exact ⟨.slice A1 ys.length c1, by simp [results, Try.f26, go_sem], A1, c1, rfl, h3, h1, (fun a ha => by have := h4 a ha; omega), hB1.trans (belowK_b (w := w) (Nat.le_refl _) _ D _ _ (by omega) hK rfl rfl)⟩
  case stop =>
    rintro D c' pre W hD hpre h hK
    exact h.elim
end Go.Proofs.Ytdhdacpnlfojeaa
