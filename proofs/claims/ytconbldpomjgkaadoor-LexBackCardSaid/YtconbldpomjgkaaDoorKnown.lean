/-
  The contract of known: the laws' example.
-/
import Derived.Test.YtconbldpomjgkaaDoorSame
namespace Go.Proofs.YtconbldpomjgkaaDoor
open Go.RowKit

theorem known_toks : Lx.toks [97, 60, 61, 49, 32, 47, 47, 32, 98] = ([⟨1, [97], 0, 0⟩, ⟨4, [60, 61], 0, 1⟩, ⟨2, [], 1, 3⟩, ⟨0, [], 0, 9⟩], 0, 0) := by decide +kernel

def wantTs : List Lx.Tk := [⟨1, [97], 0, 0⟩, ⟨4, [60, 61], 0, 1⟩, ⟨2, [], 1, 3⟩, ⟨0, [], 0, 9⟩]
theorem known_call (w : World) (he : Env w) : Calls Tryd.prog 9 #[.string ⟨#[97, 60, 61, 49, 32, 47, 47, 32, 98]⟩] w fun e w' =>
    ∃ (A : Option Addr) (c : Nat), e = .returned (.tuple #[.slice A 4 c, .agg #[.int .i64 0, .int .i64 0]]) ∧ Lies w' w'.heap.size A (cellsOf wantTs) ∧ Below w.heap.size w w' :=
  (tokens_any ⟨#[97, 60, 61, 49, 32, 47, 47, 32, 98]⟩ (by decide) w he).mono fun _ _ h => by
    have h2 : TokRes [97, 60, 61, 49, 32, 47, 47, 32, 98] _ _ _ := h
    unfold TokRes at h2
    rw [known_toks] at h2
    exact h2
theorem same_self (w : World) (A B : Option Addr) (c d : Nat) (ha : Lies w w.heap.size A (cellsOf wantTs)) (hb : Lies w w.heap.size B (cellsOf wantTs)) :
    Calls Tryd.prog 11 #[.slice A 4 c, .slice B 4 d] w fun e w' => e = .returned (.bool true) ∧ ∃ n, w' = w.drewN n :=
  (same_any w A B c d wantTs wantTs w.heap.size ha hb (by decide)).mono fun _ _ h => h
theorem lies_made (w : World) (cs : Array Value) (T : TypeId) (B : Nat) (hB : B = w.heap.size) : Lies (w.alloc (.cells cs T)) (w.alloc (.cells cs T)).heap.size (some ⟨B, 0, none⟩) cs.toList := by
  subst hB
  intro _
  refine ⟨_, rfl, by simp, fun j u hu => ?_⟩
  rw [cell_of_row _ _ j _ _ _ (heap_alloc_new w _)]
  simpa using hu

set_option maxHeartbeats 1000000 in
theorem known_true (w : World) (he : Env w) : Calls Tryd.prog 12 #[] w fun e w' => e = .returned (.bool true) ∧ Below w.heap.size w w' := by
  have ht := known_call w he
  have HT := Lib.hid ht
  have hw := word_any ⟨#[119, 104, 105, 108, 101]⟩
  rw [show Lx.isWord (⟨#[119, 104, 105, 108, 101]⟩ : ByteArray).data.toList = true by decide +kernel] at hw
  have hn := name_any ⟨#[119, 104, 105, 108, 101]⟩ (by decide)
  rw [show Lx.isName (⟨#[119, 104, 105, 108, 101]⟩ : ByteArray).data.toList = false by decide +kernel] at hn
  have hn2 := name_any ⟨#[97, 49]⟩ (by decide)
  rw [show Lx.isName (⟨#[97, 49]⟩ : ByteArray).data.toList = true by decide +kernel] at hn2
  have HW := Lib.hid hw
  have HN := Lib.hid hn
  have HN2 := Lib.hid hn2
  clear ht hw hn hn2 he
  go_enter Tryd.func12, Tryd.ntmps12
  go_wp2_with fail
  refine HT.out.mono ?_
  rintro e w1 ⟨A, c, rfl, hl, hb⟩
  have HL := Lib.hid hl
  clear hl
  go_wp2_with fail
  refine (same_self _ A (some ⟨w1.heap.size + 1, 0, none⟩) c 4 ?_ ?_).mono ?_
  · exact (HL.out.below (((Below.refl _ _).alloc (Nat.le_refl _) _).alloc (by simp) _)).mono (by simp; omega)
  · exact lies_made _ _ _ _ (by simp)
  rintro e w2 ⟨rfl, n, rfl⟩
  go_wp2_with fail
  refine (HW.out _).mono ?_
  rintro e w' ⟨rfl, rfl⟩
  go_wp2_with fail
  refine (HN.out _).mono ?_
  rintro e w' ⟨rfl, rfl⟩
  go_wp2_with fail
  refine (HN2.out _).mono ?_
  rintro e w' ⟨rfl, rfl⟩
  go_wp2_with fail
  go_ret
  exact ⟨rfl, below_drawn ((hb.alloc hb.size _).alloc (by simp; have := hb.size; omega) _) _⟩
end Go.Proofs.YtconbldpomjgkaaDoor
