/-
  ExprBinds: of two binary signs the one of the higher level binds first, of two of one level the left one.
-/
import Derived.Test.YtnadaedibicaaaaDoorKn
import Derived.Test.YtnadaedibicaaaaDoorLaidE
namespace Go.Proofs.YtnadaedibicaaaaDoor
open Go.RowKit
open Px (RT tokAt)
open Pe

def sgs : List (List UInt8) := [[124, 124], [38, 38], [60], [60, 61], [61, 61], [33, 61], [43], [45], [42], [47], [37]]
def kds : List Int := [24, 23, 19, 20, 21, 22, 14, 15, 16, 17, 18]
def lvs : List Int := [1, 2, 3, 3, 3, 3, 4, 4, 5, 5, 5]
def sg (i : Nat) : List UInt8 := sgs.getD i []
def kd (i : Nat) : Int := kds.getD i 0
def lv (i : Nat) : Int := lvs.getD i 0
def binT (i j : Nat) : List UInt8 := [97, 32] ++ sg i ++ [32, 98, 32] ++ sg j ++ [32, 99]
def exName : Ex → List UInt8
  | .mk _ _ s _ _ _ _ _ _ _ _ => s
def exKind : Ex → Int
  | .mk k _ _ _ _ _ _ _ _ _ _ => k
def binRes (i j : Nat) (k : Int) (e0 e1 : Ex) : Bool :=
  if lv i < lv j then decide (k = kd i) && decide (exName e0 = [97]) && decide (exKind e1 = kd j) else decide (k = kd j) && decide (exName e1 = [99]) && decide (exKind e0 = kd i)
def binUs (i j : Nat) : List Ln.Lx.Tk := (Ln.Lx.toks (binT i j)).1
def binChk (i j : Nat) : Bool :=
  decide ((Ln.Lx.toks (binT i j)).2 = (0, 0)) && (binUs i j).all (fun t => decide (t.text.length ≤ 100)) &&
    match parse ((binUs i j).map toRT) 60 0 0 with
    | some (.mk k _ _ _ _ [e0, e1] _ _ _ _ _, to, 0, 0) => decide (to = 5) && binRes i j k e0 e1
    | _ => false
set_option maxRecDepth 100000 in
theorem bin_all : ((List.range 11).all fun i => (List.range 11).all fun j => binChk i j) = true := by kernel_rfl
theorem bin_at {i j : Nat} (hi : i < 11) (hj : j < 11) : binChk i j = true := by
  have := List.all_eq_true.1 (List.all_eq_true.1 bin_all i (List.mem_range.2 hi)) j (List.mem_range.2 hj)
  exact this
theorem bin_facts {i j : Nat} (hi : i < 11) (hj : j < 11) : Ln.Lx.toks (binT i j) = (binUs i j, 0, 0) ∧ (∀ t ∈ binUs i j, t.text.length ≤ 281474976710656) ∧
    ∃ k num name ofn dims e0 e1 at_ b r d ref, parse ((binUs i j).map toRT) 60 0 0 = some (.mk k num name ofn dims [e0, e1] at_ b r d ref, 5, 0, 0) ∧ binRes i j k e0 e1 = true := by
  have h := bin_at hi hj
  unfold binChk at h
  rw [Bool.and_eq_true, Bool.and_eq_true] at h
  obtain ⟨⟨h1, h2⟩, h3⟩ := h
  have h1' := of_decide_eq_true h1
  refine ⟨Prod.ext rfl h1', fun t ht => Nat.le_trans (of_decide_eq_true (List.all_eq_true.1 h2 t ht)) (by decide), ?_⟩
  split at h3
  · rename_i k num name ofn dims e0 e1 at_ b r d ref to hp
    rw [Bool.and_eq_true] at h3
    obtain ⟨h4, h5⟩ := h3
    have h4' := of_decide_eq_true h4
    subst h4'
    exact ⟨k, num, name, ofn, dims, e0, e1, at_, b, r, d, ref, hp, h5⟩
  · cases h3

theorem three_below (w : World) (a b c : Obj) : Below w.heap.size w (((w.alloc a).alloc b).alloc c) := (((Below.refl _ _).alloc (Nat.le_refl _) _).alloc (by rw [size_alloc]; omega) _).alloc (by simp only [size_alloc]; omega) _

set_option maxRecDepth 8000 in
set_option maxHeartbeats 4000000 in
theorem binds_out (w : World) (i j : Int) (h : i < 0 ∨ 11 ≤ i ∨ j < 0 ∨ 11 ≤ j) :
    Calls Tryd.prog 7 #[.int .i64 i, .int .i64 j] w fun e w' => e = .returned (.bool true) ∧ Below w.heap.size w w' := by
  by_cases h1 : i < 0
  · have hd1 : decide (i < 0) = true := decide_eq_true h1
    clear h
    go_enter Tryd.func7, Tryd.ntmps7
    go_wp2_with fail
    go_ret
    exact ⟨rfl, three_below w _ _ _⟩
  by_cases h2 : 11 ≤ i
  · have hd1 : decide (i < 0) = false := decide_eq_false h1
    have hd2 : decide (11 ≤ i) = true := decide_eq_true h2
    clear h
    go_enter Tryd.func7, Tryd.ntmps7
    go_wp2_with fail
    go_ret
    exact ⟨rfl, three_below w _ _ _⟩
  by_cases h3 : j < 0
  · have hd1 : decide (i < 0) = false := decide_eq_false h1
    have hd2 : decide (11 ≤ i) = false := decide_eq_false h2
    have hd3 : decide (j < 0) = true := decide_eq_true h3
    clear h
    go_enter Tryd.func7, Tryd.ntmps7
    go_wp2_with fail
    go_ret
    exact ⟨rfl, three_below w _ _ _⟩
  have h4 : 11 ≤ j := by omega
  have hd1 : decide (i < 0) = false := decide_eq_false h1
  have hd2 : decide (11 ≤ i) = false := decide_eq_false h2
  have hd3 : decide (j < 0) = false := decide_eq_false h3
  have hd4 : decide (11 ≤ j) = true := decide_eq_true h4
  clear h
  go_enter Tryd.func7, Tryd.ntmps7
  go_wp2_with fail
  go_ret
  exact ⟨rfl, three_below w _ _ _⟩

theorem cellrow {w : World} {B : Nat} {A : Array Value} {T : TypeId} (h : w.heap[B]? = some (.cells A T (0, 0))) (i : Nat) (v : Value) (hv : A[i]? = some v) : w.cell? ⟨B, i, none⟩ = some v := by rw [cell_of_row _ _ _ _ _ _ h, hv]
theorem sg_at : ∀ i, i < 11 → (#[.string ⟨#[124, 124]⟩, .string ⟨#[38, 38]⟩, .string ⟨#[60]⟩, .string ⟨#[60, 61]⟩, .string ⟨#[61, 61]⟩, .string ⟨#[33, 61]⟩, .string ⟨#[43]⟩, .string ⟨#[45]⟩, .string ⟨#[42]⟩, .string ⟨#[47]⟩, .string ⟨#[37]⟩] : Array Value)[i]? = some (.string (cbs (sg i)))
  | 0, _ => rfl
  | 1, _ => rfl
  | 2, _ => rfl
  | 3, _ => rfl
  | 4, _ => rfl
  | 5, _ => rfl
  | 6, _ => rfl
  | 7, _ => rfl
  | 8, _ => rfl
  | 9, _ => rfl
  | 10, _ => rfl
  | k + 11, h => by omega
theorem kd_at : ∀ i, i < 11 → (#[.int .i64 24, .int .i64 23, .int .i64 19, .int .i64 20, .int .i64 21, .int .i64 22, .int .i64 14, .int .i64 15, .int .i64 16, .int .i64 17, .int .i64 18] : Array Value)[i]? = some (.int .i64 (kd i))
  | 0, _ => rfl
  | 1, _ => rfl
  | 2, _ => rfl
  | 3, _ => rfl
  | 4, _ => rfl
  | 5, _ => rfl
  | 6, _ => rfl
  | 7, _ => rfl
  | 8, _ => rfl
  | 9, _ => rfl
  | 10, _ => rfl
  | k + 11, h => by omega
theorem lv_at : ∀ i, i < 11 → (#[.int .i64 1, .int .i64 2, .int .i64 3, .int .i64 3, .int .i64 3, .int .i64 3, .int .i64 4, .int .i64 4, .int .i64 5, .int .i64 5, .int .i64 5] : Array Value)[i]? = some (.int .i64 (lv i))
  | 0, _ => rfl
  | 1, _ => rfl
  | 2, _ => rfl
  | 3, _ => rfl
  | 4, _ => rfl
  | 5, _ => rfl
  | 6, _ => rfl
  | 7, _ => rfl
  | 8, _ => rfl
  | 9, _ => rfl
  | 10, _ => rfl
  | k + 11, h => by omega
theorem sg_len : ∀ i, (sg i).length ≤ 2 := by
  intro i
  by_cases h : i < 11
  · match i, h with
    | 0, _ => exact (by decide)
    | 1, _ => exact (by decide)
    | 2, _ => exact (by decide)
    | 3, _ => exact (by decide)
    | 4, _ => exact (by decide)
    | 5, _ => exact (by decide)
    | 6, _ => exact (by decide)
    | 7, _ => exact (by decide)
    | 8, _ => exact (by decide)
    | 9, _ => exact (by decide)
    | 10, _ => exact (by decide)
  · have : sgs[i]? = none := List.getElem?_eq_none (by simp [sgs]; omega)
    rw [sg, List.getD, this]
    exact Nat.zero_le _
theorem cbs_add (a b : List UInt8) : cbs a ++ cbs b = cbs (a ++ b) := by
  apply ByteArray.ext
  simp [cbs]

end Go.Proofs.YtnadaedibicaaaaDoor
