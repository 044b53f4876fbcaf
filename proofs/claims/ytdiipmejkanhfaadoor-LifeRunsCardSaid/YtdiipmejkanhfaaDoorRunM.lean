/- LifeRuns in numbers: streams stay below as many as may be, each lease has a Gen of its own; and the list of steps. -/
import Derived.Test.YtdiipmejkanhfaaDoorLRig
namespace Go.Proofs.YtdiipmejkanhfaaDoor
open Go.RowKit
attribute [local go_sem ↓] Go.wp_at_zero Go.wp_at_succ

theorem opnF : ∀ n : Fin 256, ∀ k : Fin 9, lowI (n.val : Int) < (k.val : Int) → n.val < 2 ^ k.val → opnI (n.val : Int) < 2 ^ k.val := by decide +kernel
def pcb (x : Int) (b : Nat) : Int := bits .and .i64 (x / 2 ^ b) 1
def pop (x : Int) : Nat → Int
  | 0 => 0
  | b + 1 => pop x b + pcb x b
theorem pcbF : ∀ n : Fin 256, ∀ b : Fin 8, 0 ≤ pcb (n.val : Int) b.val ∧ pcb (n.val : Int) b.val ≤ 1 := by decide +kernel
theorem pcF : ∀ n : Fin 256, ∀ k : Fin 9, n.val < 2 ^ k.val → pop (n.val : Int) 8 ≤ (k.val : Int) := by decide +kernel
theorem pc0 : pop 0 8 = 0 := by decide +kernel
theorem pcb_bd {x : Int} (h : 0 ≤ x ∧ x ≤ 255) {b : Nat} (hb : b < 8) : 0 ≤ pcb x b ∧ pcb x b ≤ 1 := by
  obtain ⟨n, rfl⟩ := fin_of (N := 256) (sr := x) (by omega)
  exact pcbF n ⟨b, hb⟩
theorem pow_nat (k : Nat) : (2 : Int) ^ k = ((2 ^ k : Nat) : Int) := by simp
theorem pc_le {x : Int} (h : 0 ≤ x ∧ x ≤ 255) {k : Nat} (hk : k ≤ 8) (hx : x < 2 ^ k) : pop x 8 ≤ k := by
  obtain ⟨n, rfl⟩ := fin_of (N := 256) (sr := x) (by omega)
  exact pcF n ⟨k, by omega⟩ (by rw [pow_nat] at hx; simp only; omega)
theorem opn_lt {x : Int} (h : 0 ≤ x ∧ x ≤ 255) {k : Nat} (hk : k ≤ 8) (hl : lowI x < k) (hx : x < 2 ^ k) : opnI x < 2 ^ k := by
  obtain ⟨n, rfl⟩ := fin_of (N := 256) (sr := x) (by omega)
  exact opnF n ⟨k, by omega⟩ hl (by rw [pow_nat] at hx; simp only; omega)
set_option maxHeartbeats 2000000 in
theorem run_step {s : Sl} {d a mo : Int} {k : Nat} (hk : k ≤ 8) (hR : Rt s) (hsr : s.sr < 2 ^ k) (hge : s.ge ≤ 4000) (hm : Big mo) (hd : d = 14 → mo = k) (h : nxB s d a mo = true) :
    (nxS s d a mo).sr < 2 ^ k ∧ ((nxS s d a mo).st = 3 → s.st ≠ 3 → (nxS s d a mo).ge = s.ge + 1) ∧ (((nxS s d a mo).st ≠ 3 ∨ s.st = 3) → (nxS s d a mo).ge = s.ge) := by
  obtain ⟨_, ho, hc⟩ := (nxB_spec hR.wf).1 h
  rw [nxS_yes h]
  obtain ⟨c, rfl⟩ : ∃ c : Nat, d = c := ⟨d.toNat, by omega⟩
  have hc18 : c < 18 := by omega
  have e : ((c : Int)).toNat = c := by omega
  rw [e] at hc ⊢
  have hp : 0 < (2 : Int) ^ k := Int.pow_pos (by omega)
  have hg : nge s.ge = s.ge + 1 := by have := hR.ge; unfold nge; omega
  have hs0 := hR.sr
  have hsh := shut_fact (mo := mo) hR.sr hm
  have hol : lowI s.sr < k → opnI s.sr < 2 ^ k := fun hl => opn_lt hR.sr hk hl hsr
  have hmin : lowI s.sr < min8 mo → lowI s.sr < mo := fun h => by unfold min8 at h; split at h <;> omega
  clear e h ho
  rcases eighteen hc18 with rfl | rfl | rfl | rfl | rfl | rfl | rfl | rfl | rfl | rfl | rfl | rfl | rfl | rfl | rfl | rfl | rfl | rfl
  case inr.inr.inr.inr.inr.inr.inr.inr.inr.inr.inr.inr.inr.inr.inl =>
    simp [chB, minB] at hc
    have hmk : mo = k := hd rfl
    exact ⟨hol (by rw [← hmk]; exact hmin hc.2), fun h1 h2 => absurd hc.1.1.1 h2, fun _ => rfl⟩
  case inr.inr.inr.inr.inr.inr.inr.inr.inr.inr.inr.inr.inr.inr.inr.inl =>
    simp [chB, minB] at hc
    have h15 := hsh hc.2
    have hp2 : 0 < (2 : Int) ^ mo.toNat := Int.pow_pos (by omega)
    refine ⟨?_, fun h1 h2 => absurd hc.1.1 h2, fun _ => rfl⟩
    show shtI s.sr mo < _
    rw [h15.2.1]
    omega
  case inr.inr.inr.inr.inr.inr.inr.inr.inr.inr.inr.inr.inr.inr.inr.inr.inl =>
    cases hm5 : minB s a 5 with
    | true =>
      have e2 : chS 16 s a mo = s.becm a 1 := by simp [chS, hm5]
      rw [e2]
      exact ⟨hsr, fun h1 => absurd h1 (show (1 : Int) ≠ 3 by decide), fun _ => rfl⟩
    | false =>
      have e2 : chS 16 s a mo = s.leas a := by simp [chS, hm5]
      have hc4 : minB s a 4 = true := by simpa [chB, hm5] using hc
      simp [minB] at hc4
      rw [e2]
      exact ⟨hsr, fun _ _ => hg, fun h1 => by rcases h1 with h1 | h1; exact absurd rfl h1; omega⟩
  all_goals simp [chB, minB, souB, epoB] at hc
  all_goals simp [chS, Sl.ver, Sl.becm, Sl.bare, Sl.limb, Sl.leas]
  all_goals (try omega)

/-! ### the list of steps -/
structure Stp where
  d : Int
  o : Int
  m : Int
def SS (W : World) (n0 : Nat) (A : Option Addr) (l : List Stp) : Prop :=
  ∀ (k : Nat) x, l[k]? = some x → ∃ b off, A = some ⟨b, off, none⟩ ∧ b < n0 ∧ W.cell? ⟨b, off + k * 3, none⟩ = some (.int .i64 x.d) ∧ W.cell? ⟨b, off + k * 3 + 1, none⟩ = some (.int .i64 x.o) ∧ W.cell? ⟨b, off + k * 3 + 2, none⟩ = some (.int .i64 x.m)
theorem SS.below {W W1 : World} {n0 : Nat} {A : Option Addr} {l : List Stp} (h : SS W n0 A l) (hb : Below n0 W W1) : SS W1 n0 A l := fun k o hk => by
  obtain ⟨b, off, h1, h2, h3, h4, h5⟩ := h k o hk
  exact ⟨b, off, h1, h2, (hb.cell (p := ⟨b, _, none⟩) h2).trans h3, (hb.cell (p := ⟨b, _, none⟩) h2).trans h4, (hb.cell (p := ⟨b, _, none⟩) h2).trans h5⟩
end Go.Proofs.YtdiipmejkanhfaaDoor
