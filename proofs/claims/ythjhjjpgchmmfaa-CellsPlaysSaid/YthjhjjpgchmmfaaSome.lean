/- Operations done in a row; the law's own 'some'. -/
import Derived.Test.YthjhjjpgchmmfaaInts
namespace Go.Proofs.Ythjhjjpgchmmfaa
open Go.RowKit
attribute [local go_sem ↓] Go.wp_at_zero Go.wp_at_succ

def St.run (s : St) (l : List OpT) : St := l.foldl St.opS s
theorem St.run_take {s : St} {l : List OpT} {k : Nat} {o : OpT} (h : l[k]? = some o) : s.run (l.take (k + 1)) = (s.run (l.take k)).opS o := by
  rw [St.run, List.take_add_one, h]; simp [St.run]
theorem St.loadS_len (s : St) (i : Int) : (s.loadS i).ws.length = s.ws.length ∧ s.t ≤ (s.loadS i).t ∧ (s.loadS i).t ≤ s.t + 1 := by
  unfold St.loadS; split <;> simp
theorem St.opS_len (s : St) (o : OpT) : (s.opS o).ws.length = s.ws.length ∧ s.t ≤ (s.opS o).t ∧ (s.opS o).t ≤ s.t + 1 := by
  unfold St.opS
  split
  · exact s.loadS_len _
  split
  · unfold St.storeS St.put; split <;> simp
  split
  · unfold St.casS
    split
    · simp [St.put]
    · exact s.loadS_len _
  split
  · unfold St.addS St.put; split <;> simp
  · simp
theorem St.run_len (s : St) (l : List OpT) : (s.run l).ws.length = s.ws.length ∧ s.t ≤ (s.run l).t ∧ (s.run l).t ≤ s.t + l.length := by
  induction l generalizing s with
  | nil => simp [St.run]
  | cons o l ih =>
    have h1 := ih (s.opS o)
    have h2 := s.opS_len o
    simp only [St.run, List.foldl_cons, List.length_cons] at h1 ⊢
    exact ⟨h1.1.trans h2.1, by omega, by omega⟩
theorem St.run_t {s : St} {l : List OpT} {k : Nat} (h : s.t ≤ 1000) (hl : l.length ≤ 1000) : (s.run (l.take k)).t < 1000000 := by
  have := (s.run_len (l.take k)).2.2
  simp at this
  omega

/-- the slice value '.slice A n c' holds the operations l, in blocks below n0 -/
def OS (W : World) (n0 : Nat) (A : Option Addr) (l : List OpT) : Prop :=
  ∀ (k : Nat) o, l[k]? = some o → ∃ b off, A = some ⟨b, off, none⟩ ∧ b < n0 ∧ W.cell? ⟨b, off + k * 4, none⟩ = some (.int .u8 o.k) ∧ W.cell? ⟨b, off + k * 4 + 1, none⟩ = some (.int .i64 o.i) ∧ W.cell? ⟨b, off + k * 4 + 2, none⟩ = some (.int .i64 o.v) ∧ W.cell? ⟨b, off + k * 4 + 3, none⟩ = some (.int .i64 o.u)
theorem OS.below {W W1 : World} {n0 : Nat} {A : Option Addr} {l : List OpT} (h : OS W n0 A l) (hb : Below n0 W W1) : OS W1 n0 A l := fun k o hk => by
  obtain ⟨b, off, h1, h2, h3, h4, h5, h6⟩ := h k o hk
  exact ⟨b, off, h1, h2, (hb.cell (p := ⟨b, _, none⟩) h2).trans h3, (hb.cell (p := ⟨b, _, none⟩) h2).trans h4, (hb.cell (p := ⟨b, _, none⟩) h2).trans h5, (hb.cell (p := ⟨b, _, none⟩) h2).trans h6⟩
theorem OS.more {W : World} {n0 n1 : Nat} {A : Option Addr} {l : List OpT} (h : OS W n0 A l) (hb : n0 ≤ n1) : OS W n1 A l := fun k o hk => by
  obtain ⟨b, off, h1, h2, h3⟩ := h k o hk
  exact ⟨b, off, h1, by omega, h3⟩
theorem OS.on {W W1 : World} {A : Option Addr} {l : List OpT} (h : OS W W.heap.size A l) (hb : Below W.heap.size W W1) : OS W1 W1.heap.size A l := (h.below hb).more hb.size
theorem op_some {l : List OpT} {k : Nat} (h : k < l.length) : ∃ o, l[k]? = some o := ⟨l[k], by simp [h]⟩
theorem Ends.below {g gw c B : Nat} {s : St} {v : Value} {e : Ending} {w a b : World} (hB : Below B w a) (h : Ends a g gw c s v e b) (hs : B ≤ a.heap.size) (h1 : B ≤ g) (h2 : B ≤ gw) : Below B w b := Sp.below hB h.2.2 hs h1 h2

def manyN (m : Nat) : Nat := 1 + m % 100
set_option maxRecDepth 100000 in
set_option maxHeartbeats 1000000 in
theorem some_any (m : Nat) (A : Option Addr) (n c : Nat) (l : List OpT) (w : World) (hm : m < 256) (hn : l.length = n) (hl : n ≤ 1000) (hO : OS w w.heap.size A l) :
    Calls Try.prog 18 #[.int .u8 m, .slice A n c] w (fun e w' => ∃ g gw c2, e = .returned (.pointer (some ⟨g, 0, none⟩)) ∧ TellsMem w ((St.new (manyN m)).run l) g gw c2 w') := by
  subst hn
  have hm1 : 1 ≤ manyN m := by unfold manyN; omega
  have hm2 : manyN m ≤ 4096 := by unfold manyN; omega
  go_enter Try.func18, Try.ntmps18
  go_wp2_with fail
  rw [show (1 + (m : Int) % 100) = ((manyN m : Nat) : Int) by unfold manyN; omega]
  obtain ⟨N, hN⟩ : ∃ N, N = manyN m := ⟨_, rfl⟩
  rw [← hN] at hm1 hm2 ⊢
  have HN := Lib.hid hN
  clear hN hm
  refine (new_in N w hm1 hm2).mono ?_
  rintro e w1 ⟨g, gw, rfl, hg, hgw, hM, hB⟩
  go_wp2_with fail
  go_loopw [7] (fun i wr => ∃ k : Nat, k ≤ l.length ∧ i = .int .i64 k ∧ MemAt wr g gw N ((St.new N).run (l.take k)) ∧ Below w.heap.size w wr) (fun i _ => l.length - (intOf i).toNat)
  case atStart => exact ⟨0, Nat.zero_le _, rfl, hM, hB⟩
  case round =>
    obtain ⟨k, hk, rfl, hM2, hB2⟩ := hrel
    clear hM hB
    by_cases hlt : k < l.length
    · obtain ⟨o, ho⟩ := op_some hlt
      have Ho := Lib.hid ho
      obtain ⟨b, off, rfl, hbl, d1, d2, d3, d4⟩ := (hO.below hB2) k o ho
      clear ho
      have hk1 : (k : Int) < (l.length : Int) := by omega
      go_wp2_with fail
      refine (do_any g gw N _ o _ hM2 (St.run_t (show (St.new N).t ≤ 1000 from Nat.zero_le _) hl)).mono ?_
      rintro e w2 ⟨rfl, hM3, hs3⟩
      have hB3 := Sp.below hB2 hs3 hB2.size hg hgw
      go_wp2_with fail
      go_roundw
      case rel => exact ⟨k + 1, by omega, by go_num, by rw [St.run_take Ho.out]; exact hM3, hB3⟩
      case measure => simp [intOf]; omega
    · obtain rfl : k = l.length := by omega
      rw [List.take_length] at hM2
      go_wp2_with fail
      go_ret
      exact ⟨g, gw, N, rfl, hg, hgw, by rw [← HN.out]; exact hM2, hB2⟩
end Go.Proofs.Ythjhjjpgchmmfaa
