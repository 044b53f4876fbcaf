/- What was found is looked at again, or passed, of the program and of the document; nothing else changes. -/
import Derived.Test.YtbkcniknbpgphaaDoorMeth
namespace Go.Proofs.YtbkcniknbpgphaaDoor
open Go.RowKit
attribute [local go_sem ↓] Go.wp_at_zero Go.wp_at_succ

def againF (x : Fs) : Fs := ⟨x.po, x.wd, false⟩
def goF (x : Fs) : Fs := ⟨if x.is then x.po + 1 else x.po, x.wd, false⟩
theorem sp_set {W : World} {f j : Nat} {v : Value} : SpX [f] W (W.setCell ⟨f, j, none⟩ v) := (SpX.refl _ _).set (by simp) j v
theorem FindAt.set6 {w : World} {f q : Nat} {c : Cf} {n : Nat} {fr : Array Value} {k o : Int} {x : Fs} (h : FindAt w f q c n fr k o x) (p : Int) : FindAt (w.setCell ⟨f, 6, none⟩ (.int .i64 p)) f q c n fr k o ⟨p, x.wd, x.is⟩ :=
  ⟨h.row.put 6 _, h.fit.spx sp_set (by simpa using h.ne.symm), h.ne, by have := h.lq; simpa [World.setCell] using this⟩
theorem FindAt.set7 {w : World} {f q : Nat} {c : Cf} {n : Nat} {fr : Array Value} {k o : Int} {x : Fs} (h : FindAt w f q c n fr k o x) (p : Int) : FindAt (w.setCell ⟨f, 7, none⟩ (.int .i64 p)) f q c n fr k o ⟨x.po, p, x.is⟩ :=
  ⟨h.row.put 7 _, h.fit.spx sp_set (by simpa using h.ne.symm), h.ne, by have := h.lq; simpa [World.setCell] using this⟩
theorem FindAt.set8 {w : World} {f q : Nat} {c : Cf} {n : Nat} {fr : Array Value} {k o : Int} {x : Fs} (h : FindAt w f q c n fr k o x) (p : Bool) : FindAt (w.setCell ⟨f, 8, none⟩ (.bool p)) f q c n fr k o ⟨x.po, x.wd, p⟩ :=
  ⟨h.row.put 8 _, h.fit.spx sp_set (by simpa using h.ne.symm), h.ne, by have := h.lq; simpa [World.setCell] using this⟩
theorem RefAt.set7 {w : World} {f : Nat} {c : Cf} {k o : Int} {x : Fs} (h : RefAt w f c k o x) (p : Int) : RefAt (w.setCell ⟨f, 7, none⟩ (.int .i64 p)) f c k o ⟨p, x.wd, x.is⟩ := ⟨h.row.put 7 _⟩
theorem RefAt.set8 {w : World} {f : Nat} {c : Cf} {k o : Int} {x : Fs} (h : RefAt w f c k o x) (p : Int) : RefAt (w.setCell ⟨f, 8, none⟩ (.int .i64 p)) f c k o ⟨x.po, p, x.is⟩ := ⟨h.row.put 8 _⟩
theorem RefAt.set9 {w : World} {f : Nat} {c : Cf} {k o : Int} {x : Fs} (h : RefAt w f c k o x) (p : Bool) : RefAt (w.setCell ⟨f, 9, none⟩ (.bool p)) f c k o ⟨x.po, x.wd, p⟩ := ⟨h.row.put 9 _⟩
/-- what is told by a call that turns the one that looks -/
def TurnsF (w : World) (f q : Nat) (c : Cf) (n : Nat) (fr : Array Value) (k o : Int) (y : Fs) (e : Ending) (w' : World) : Prop := e = .returned (.tuple #[]) ∧ FindAt w' f q c n fr k o y ∧ SpX [f] w w'
def TurnsR (w : World) (f : Nat) (c : Cf) (k o : Int) (y : Fs) (e : Ending) (w' : World) : Prop := e = .returned (.tuple #[]) ∧ RefAt w' f c k o y ∧ SpX [f] w w'
set_option maxRecDepth 100000 in
set_option maxHeartbeats 2000000 in
theorem again_any (f q : Nat) (c : Cf) (n : Nat) (fr : Array Value) (k o : Int) (x : Fs) (w : World) (h : FindAt w f q c n fr k o x) :
    Calls Tryd.prog 23 #[.pointer (some ⟨f, 0, none⟩)] w (TurnsF w f q c n fr k o (againF x)) := by
  have c8 := h.row.cell 8 rfl
  have g8 := h.row.frozen 8
  go_enter Tryd.func23, Tryd.ntmps23
  go_wp2
  go_end0
  exact ⟨rfl, h.set8 false, sp_set⟩
set_option maxRecDepth 100000 in
set_option maxHeartbeats 2000000 in
theorem go_any (f q : Nat) (c : Cf) (n : Nat) (fr : Array Value) (k o : Int) (x : Fs) (w : World) (h : FindAt w f q c n fr k o x) (hx : x.is = true → 0 ≤ x.po ∧ x.po < 1000) :
    Calls Tryd.prog 25 #[.pointer (some ⟨f, 0, none⟩)] w (TurnsF w f q c n fr k o (goF x)) := by
  obtain ⟨po, wd, b⟩ := x
  have c6 := h.row.cell 6 rfl
  have g6 := h.row.frozen 6
  have c8 := h.row.cell 8 rfl
  have g8 := h.row.frozen 8
  cases b with
  | false =>
    go_enter Tryd.func25, Tryd.ntmps25
    go_wp2
    go_end0
    exact ⟨rfl, h, SpX.refl _ _⟩
  | true =>
    have hp := hx rfl
    simp only at hp
    clear hx
    go_enter Tryd.func25, Tryd.ntmps25
    go_wp2
    go_end0
    exact ⟨rfl, (h.set8 false).set6 (po + 1), sp_set.trans sp_set⟩
set_option maxRecDepth 100000 in
set_option maxHeartbeats 2000000 in
theorem refAgain_any (f : Nat) (c : Cf) (k o : Int) (x : Fs) (w : World) (h : RefAt w f c k o x) :
    Calls Tryd.prog 24 #[.pointer (some ⟨f, 0, none⟩)] w (TurnsR w f c k o (againF x)) := by
  have c8 := h.row.cell 9 rfl
  have g8 := h.row.frozen 9
  go_enter Tryd.func24, Tryd.ntmps24
  go_wp2
  go_end0
  exact ⟨rfl, h.set9 false, sp_set⟩
set_option maxRecDepth 100000 in
set_option maxHeartbeats 2000000 in
theorem refGo_any (f : Nat) (c : Cf) (k o : Int) (x : Fs) (w : World) (h : RefAt w f c k o x) (hx : x.is = true → 0 ≤ x.po ∧ x.po < 1000) :
    Calls Tryd.prog 26 #[.pointer (some ⟨f, 0, none⟩)] w (TurnsR w f c k o (goF x)) := by
  obtain ⟨po, wd, b⟩ := x
  have c6 := h.row.cell 7 rfl
  have g6 := h.row.frozen 7
  have c8 := h.row.cell 9 rfl
  have g8 := h.row.frozen 9
  cases b with
  | false =>
    go_enter Tryd.func26, Tryd.ntmps26
    go_wp2
    go_end0
    exact ⟨rfl, h.set9 false, sp_set⟩
  | true =>
    have hp := hx rfl
    simp only at hp
    clear hx
    go_enter Tryd.func26, Tryd.ntmps26
    go_wp2
    go_end0
    exact ⟨rfl, (h.set7 (po + 1)).set9 false, sp_set.trans sp_set⟩
end Go.Proofs.YtbkcniknbpgphaaDoor
