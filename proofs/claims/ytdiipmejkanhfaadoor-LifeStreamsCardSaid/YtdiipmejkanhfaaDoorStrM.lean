/- LifeStreams: a stream that is opened can be shut, and then all is as it was, but for the Version; shut it can't be shut again. -/
import Derived.Test.YtdiipmejkanhfaaDoorLRig
import Derived.Deep.QuietTactic
import Derived.BigQuiet
namespace Go.Proofs.YtdiipmejkanhfaaDoor
open Go.RowKit
attribute [local go_sem ↓] Go.wp_at_zero Go.wp_at_succ

theorem turnG : ∀ n : Fin 256, ∀ k : Fin 8, ∀ l : Fin 8, n.val / 2 ^ l.val % 2 = 0 → k.val ≤ l.val → (bits .and .i64 (bits .xor .i64 ((n.val : Int) + 2 ^ l.val) (n.val : Int) / 2 ^ k.val) 1 == 0) = decide (k.val < l.val) := by decide +kernel
theorem backG : ∀ n : Fin 256, ∀ l : Fin 8, n.val / 2 ^ l.val % 2 = 0 → hadB ((n.val : Int) + 2 ^ l.val) (l.val : Int) = true ∧ shtI ((n.val : Int) + 2 ^ l.val) (l.val : Int) = (n.val : Int) ∧ hadB (n.val : Int) (l.val : Int) = false := by decide +kernel
theorem stream_num {sr mo : Int} (h : 0 ≤ sr ∧ sr ≤ 255) (hl : lowI sr < min8 mo) : ∃ L : Nat, L < 8 ∧ (L : Int) < mo ∧ opnI sr = sr + 2 ^ L ∧ hadB (opnI sr) L = true ∧ shtI (opnI sr) L = sr ∧ hadB sr L = false ∧
    (∀ k, k ≤ L → (bits .and .i64 (bits .xor .i64 (opnI sr) sr / 2 ^ k) 1 == 0) = decide (k < L)) := by
  have hof := open_fact h hl
  obtain ⟨L, eL⟩ : ∃ L : Nat, lowI sr = L := ⟨(lowI sr).toNat, by omega⟩
  rw [eL] at hof
  obtain ⟨q1, q2, q3, _, _, q4⟩ := hof
  clear hl eL
  rw [q3]
  clear q3
  obtain ⟨n, rfl⟩ := fin_of (N := 256) (sr := sr) (by omega)
  have q5 : n.val / 2 ^ L % 2 = 0 := by
    have : ((n.val / 2 ^ L % 2 : Nat) : Int) = 0 := by simpa using q4
    omega
  have b := backG n ⟨L, by omega⟩ q5
  exact ⟨L, by omega, q2, by simp, by simpa using b.1, by simpa using b.2.1, b.2.2, fun k hk => by simpa using turnG n ⟨k, by omega⟩ ⟨L, by omega⟩ q5 hk⟩
theorem nx14 {s : Sl} {a mo : Int} (hs : s.Wf) (h : nxB s 14 a mo = true) : Rt s ∧ (0 ≤ a ∧ a ≤ 15) ∧ minB s a 3 = true ∧ s.br = false ∧ lowI s.sr < min8 mo := by
  obtain ⟨hr, ho, hc⟩ := (nxB_spec hs).1 h
  simp [chB] at hc
  exact ⟨hr, ⟨ho.1, ho.2.1⟩, hc.1.1, hc.1.2, hc.2⟩
theorem open_s {s : Sl} {a mo : Int} (h : nxB s 14 a mo = true) : nxS s 14 a mo = ⟨s.st, s.ow, opnI s.sr, s.br, s.ma, s.us, s.ge, s.ep, nve s.ve⟩ := by
  rw [nxS_yes h]; rfl
theorem shut_s {s : Sl} {a mo : Int} (h : nxB s 15 a mo = true) : nxS s 15 a mo = ⟨s.st, s.ow, shtI s.sr mo, s.br, s.ma, s.us, s.ge, s.ep, nve s.ve⟩ := by
  rw [nxS_yes h]; rfl
theorem below_drewN {n : Nat} {A W : World} (h : Below n A W) (k : Nat) : Below n A (W.drewN k) := ⟨h.os, h.tape, h.output, h.size, h.block⟩
theorem two_le {k : Nat} (h : k < 8) : (2 : Int) ^ k ≤ 128 := by
  have : (2 : Nat) ^ k ≤ 2 ^ 7 := Nat.pow_le_pow_right (by omega) (by omega)
  have e : (2 : Int) ^ k = ((2 ^ k : Nat) : Int) := by simp
  rw [e]; omega
/-- what the law says, in numbers -/
structure StreamIs (s t u : Sl) (a mo : Int) (L : Nat) : Prop where
  l8 : L < 8
  lm : (L : Int) < mo
  tsr : t.sr = s.sr + 2 ^ L
  lo : 0 ≤ s.sr
  hi : s.sr ≤ 255
  turn : ∀ k, k ≤ L → (bits .and .i64 (bits .xor .i64 t.sr s.sr / 2 ^ k) 1 == 0) = decide (k < L)
  shut : NextIs t 15 a L u true
  again : NextIs u 15 a L Sl.zero false
  back : (⟨u.st, u.ow, u.sr, u.br, u.ma, u.us, u.ge, u.ep, s.ve⟩ : Sl) = s
theorem stream_is {s : Sl} {a mo : Int} (hs : s.Wf) (hm : Big mo) (h : nxB s 14 a mo = true) : ∃ u L, StreamIs s (nxS s 14 a mo) u a mo L := by
  obtain ⟨hr, ha, hmi, hbr, hl⟩ := nx14 hs h
  have ht := nx_rt hs hm h
  have et := open_s h
  obtain ⟨L, l8, lm, n1, n2, n3, n4, n5⟩ := stream_num hr.sr hl
  have hLb : Big (L : Int) := ⟨by omega, by omega⟩
  clear hm h hl
  obtain ⟨o, eo⟩ : ∃ o, o = opnI s.sr := ⟨_, rfl⟩
  rw [← eo] at et n1 n2 n3 n5
  clear eo
  obtain ⟨t, ett⟩ : ∃ t, t = nxS s 14 a mo := ⟨_, rfl⟩
  rw [← ett] at et ht ⊢
  clear ett
  subst et
  have h15 : nxB ⟨s.st, s.ow, o, s.br, s.ma, s.us, s.ge, s.ep, nve s.ve⟩ 15 a L = true :=
    (nxB_spec ht.wf).2 ⟨ht, by omega, by show (minB _ a 3 && hadB o (L : Int)) = true; rw [n2]; simpa [minB] using hmi⟩
  have eu := shut_s h15
  have hu := nx_wf ht.wf hLb (d := 15) (a := a)
  have hx : NextIs ⟨s.st, s.ow, o, s.br, s.ma, s.us, s.ge, s.ep, nve s.ve⟩ 15 a L _ true := next_is ht.wf rfl h15
  rw [eu] at hu hx
  simp only [n3] at hu hx
  have h16 : nxB ⟨s.st, s.ow, s.sr, s.br, s.ma, s.us, s.ge, s.ep, nve (nve s.ve)⟩ 15 a L = false := by
    cases hq : nxB ⟨s.st, s.ow, s.sr, s.br, s.ma, s.us, s.ge, s.ep, nve (nve s.ve)⟩ 15 a L with
    | false => rfl
    | true =>
      have hc : (minB _ a 3 && hadB s.sr (L : Int)) = true := ((nxB_spec hu).1 hq).2.2
      rw [n4] at hc
      simp at hc
  exact ⟨_, L, l8, lm, n1, hr.sr.1, hr.sr.2, n5, hx, next_is hu (nxS_no h16) h16, rfl⟩
end Go.Proofs.YtdiipmejkanhfaaDoor
