/- What the laws begin with; no condition. -/
import Derived.Test.YtbkcniknbpgphaaDoorAwk
import Derived.Test.YtbkcniknbpgphaaDoorMade
namespace Go.Proofs.YtbkcniknbpgphaaDoor
open Go.RowKit
attribute [local go_sem ↓] Go.wp_at_zero Go.wp_at_succ

theorem BS.on {w w' : World} {A : Option Addr} {xs : List Int} (h : BS w w.heap.size A xs) (hb : Below w.heap.size w w') : BS w' w'.heap.size A xs := by
  intro k x hk
  obtain ⟨b, off, e, h1, h2⟩ := (h.below hb) k x hk
  exact ⟨b, off, e, Nat.lt_of_lt_of_le h1 hb.size, h2⟩
theorem GivenAt.on {w w' : World} {S P1 P2 : Option Addr} {sn pn1 pn2 : Nat} {sl : List Sl} {p1 p2 : List Int} (h : GivenAt w S P1 P2 sn pn1 pn2 sl p1 p2) (hb : Below w.heap.size w w') : GivenAt w' S P1 P2 sn pn1 pn2 sl p1 p2 :=
  ⟨h.ls.on hb, h.b1.on hb, h.b2.on hb, h.sn, h.n1, h.n2, h.wf, h.r1, h.r2⟩
theorem find_new0 (c : Cf) (k o : Int) (w : World) : Calls Tryd.prog 15 #[Value.agg #[Value.int .i64 c.wo, Value.int .i64 c.sl, Value.int .i64 c.st, Value.int .i64 c.wa, Value.int .i64 c.us], .int .i64 k, .int .i64 o, .int .i64 0] w (RetFind c k o 0 w) := find_new c k o 0 w
theorem WS.on {w w' : World} {A : Option Addr} {M : Nat} {l : List Wr} (h : WS w M A l) (hM : M ≤ w.heap.size) (hb : Below w.heap.size w w') : WS w' M A l := h.spx (X := []) hM (.of_below hb) (by simp)
theorem Gd.in64 {f : Nat} {xs : List Int} (h : Gd f xs) : ∀ (k : Nat) x, xs[k]? = some x → -9223372036854775808 ≤ x ∧ x ≤ 9223372036854775807 := fun k x hk => by
  have := (h k x hk).1
  omega
/-- the slot's cell: how far behind the first one -/
theorem lookI_at {c : Cf} {xs : List Int} {F k : Nat} {v wd : Int} {b : Bool} (hF : (3 + c.wo + c.wo).toNat = F) (hc : Rc c) (h : xs[F + k]? = some v) : lookI c ⟨k, wd, b⟩ xs = v := by
  have q := hc.wo
  unfold lookI
  simp only
  rw [show (3 + c.wo + c.wo + (k : Int)).toNat = F + k by omega, List.getD_eq_getElem?_getD, h]
  rfl
theorem WS.below {w w' : World} {A : Option Addr} {M : Nat} {l : List Wr} (h : WS w M A l) (hb : Below M w w') : WS w' M A l := by
  intro k x hk
  obtain ⟨b, off, e, h1, d0, d1, d2⟩ := h k x hk
  exact ⟨b, off, e, h1, (hb.cell (p := ⟨b, off + k * 3, none⟩) h1).trans d0, (hb.cell (p := ⟨b, off + k * 3 + 1, none⟩) h1).trans d1, (hb.cell (p := ⟨b, off + k * 3 + 2, none⟩) h1).trans d2⟩
end Go.Proofs.YtbkcniknbpgphaaDoor
