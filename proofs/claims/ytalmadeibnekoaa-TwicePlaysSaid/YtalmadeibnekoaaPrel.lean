/- What the laws begin with; no condition. -/
import Derived.Test.YtalmadeibnekoaaAwk
import Derived.Test.YtalmadeibnekoaaMade
namespace Go.Proofs.Ytalmadeibnekoaa
open Go.RowKit
attribute [local go_sem ↓] Go.wp_at_zero Go.wp_at_succ

theorem BS.on {w w' : World} {A : Option Addr} {xs : List Int} (h : BS w w.heap.size A xs) (hb : Below w.heap.size w w') : BS w' w'.heap.size A xs := by
  intro k x hk
  obtain ⟨b, off, e, h1, h2⟩ := (h.below hb) k x hk
  exact ⟨b, off, e, Nat.lt_of_lt_of_le h1 hb.size, h2⟩
theorem GivenAt.on {w w' : World} {S P1 P2 : Option Addr} {sn pn1 pn2 : Nat} {sl : List Sl} {p1 p2 : List Int} (h : GivenAt w S P1 P2 sn pn1 pn2 sl p1 p2) (hb : Below w.heap.size w w') : GivenAt w' S P1 P2 sn pn1 pn2 sl p1 p2 :=
  ⟨h.ls.on hb, h.b1.on hb, h.b2.on hb, h.sn, h.n1, h.n2, h.wf, h.r1, h.r2⟩
theorem WS.below {w w' : World} {A : Option Addr} {M : Nat} {l : List Wr} (h : WS w M A l) (hb : Below M w w') : WS w' M A l := by
  intro k x hk
  obtain ⟨b, off, e, h1, d0, d1, d2⟩ := h k x hk
  exact ⟨b, off, e, h1, (hb.cell (p := ⟨b, off + k * 3, none⟩) h1).trans d0, (hb.cell (p := ⟨b, off + k * 3 + 1, none⟩) h1).trans d1, (hb.cell (p := ⟨b, off + k * 3 + 2, none⟩) h1).trans d2⟩
theorem Gd.in64 {f : Nat} {xs : List Int} (h : Gd f xs) : ∀ (k : Nat) x, xs[k]? = some x → -9223372036854775808 ≤ x ∧ x ≤ 9223372036854775807 := fun k x hk => by
  have := (h k x hk).1
  omega
theorem ints_same (A A2 : Option Addr) (c c2 n : Nat) (xs : List Int) (w : World) (hn : xs.length = n) (h : IS w w.heap.size A xs) (h2 : IS w w.heap.size A2 xs) (hl : n ≤ 1000000) :
    Calls Try.prog 19 #[.slice A n c, .slice A2 n c2] w (fun e w' => e = .returned (.bool true) ∧ Below w.heap.size w w') := by
  subst hn
  have h3 := ints_any A A2 c c2 xs xs w h h2 hl
  rwa [decide_eq_true rfl] at h3
theorem copy_is {w : World} {b : Nat} {xs : List Int} (h : RowAt w b 3 (xs.map (Value.int .i64)).toArray) (hm : xs.length ≤ 1000000) : IS w w.heap.size (some ⟨b, 0, none⟩) xs := (own_row (f := b + 1) h (by omega) hm).is
end Go.Proofs.Ytalmadeibnekoaa
