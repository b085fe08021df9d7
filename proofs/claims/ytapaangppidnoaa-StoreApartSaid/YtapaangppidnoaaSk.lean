/-
  One store, by what it holds; a way round; the laws on a nil store, on sizes and on edges.
-/
import Derived.Test.YtapaangppidnoaaSh
namespace Go.Proofs.Ytapaangppidnoaa
open Go.RowKit

/-- A store that the call made first, and what it holds; all that was there is as it was. -/
def One (w0 : World) (L : List (List Int)) (w : World) : Prop := ∃ v os, Sto w w0.heap.size 44 v os ∧ cnt os = L ∧ Below w0.heap.size w0 w
section
variable {w0 w w1 : World} {L : List (List Int)}
theorem One.new (w0 : World) : One w0 [] (w0.alloc (.cells #[.slice none 0 0] 44)) := ⟨_, [], Sto.nil _ _, rfl, (Below.refl _ _).alloc (Nat.le_refl _) _⟩
theorem new1 (w : World) : Calls Try.prog 8 #[] w fun e w' => e = .returned (.pointer (some ⟨w.heap.size, 0, none⟩)) ∧ One w [] w' :=
  (new_any w).mono fun _ _ ⟨he, hw⟩ => ⟨he, hw ▸ One.new w⟩
theorem One.to {v : Value} {os os' : List Ob} {v' : Value} (h : Sto w w0.heap.size 44 v os) (hb : Below w0.heap.size w0 w) (h1 : Sto w1 w0.heap.size 44 v' os') (hk : Ke (Own w0.heap.size v os) w w1) : One w0 (cnt os') w1 :=
  ⟨v', os', h1, rfl, hb.trans (hk.below (Nat.le_of_lt h.plt) (fun _ hb => (h.lt hb).1))⟩
theorem rec1 (h : One w0 L w) (n : Int) (hl : L.length ≤ 1000000) : Calls Try.prog 9 #[.pointer (some ⟨w0.heap.size, 0, none⟩), .int .i64 n] w fun e w' => e = .returned (.int .i64 ((L.length : Int) + 1)) ∧ One w0 (L ++ [List.replicate (recN n) 0]) w' := by
  obtain ⟨v, os, hs, rfl, hb⟩ := h
  rw [cnt_len] at hl ⊢
  refine (rec_any hs n hl).mono fun e w' ⟨he, v', b, h1, _, hk⟩ => ⟨he, ?_⟩
  have := One.to hs hb h1 hk
  rw [cnt_push] at this
  exact this
theorem arr1 (h : One w0 L w) (m : Int) (n : Nat) (hm : m = (n : Int)) (hn : n ≤ 50) (hl : L.length ≤ 1000000) : Calls Try.prog 11 #[.pointer (some ⟨w0.heap.size, 0, none⟩), .int .i64 m] w fun e w' => e = .returned (.tuple #[.int .i64 ((L.length : Int) + 1), .int .i64 0]) ∧ One w0 (L ++ [List.replicate n 0]) w' := by
  subst hm
  obtain ⟨v, os, hs, rfl, hb⟩ := h
  rw [cnt_len] at hl ⊢
  refine (arr_yes hs n hn hl).mono fun e w' ⟨he, v', b, h1, _, hk⟩ => ⟨he, ?_⟩
  have := One.to hs hb h1 hk
  rw [cnt_push] at this
  exact this
theorem len1 (h : One w0 L w) (ref n t : Int) (hr : lenP L ref = (n, t)) : Calls Try.prog 17 #[.pointer (some ⟨w0.heap.size, 0, none⟩), .int .i64 ref] w fun e w' => e = .returned (.tuple #[.int .i64 n, .int .i64 t]) ∧ w = w' := by
  obtain ⟨v, os, hs, rfl, hb⟩ := h
  have := len_any hs ref
  rw [hr] at this
  exact this
theorem load1 (h : One w0 L w) (ref i n t : Int) (hr : loadP L ref i = (n, t)) : Calls Try.prog 13 #[.pointer (some ⟨w0.heap.size, 0, none⟩), .int .i64 ref, .int .i64 i] w fun e w' => e = .returned (.tuple #[.int .i64 n, .int .i64 t]) ∧ w = w' := by
  obtain ⟨v, os, hs, rfl, hb⟩ := h
  have := load_any hs ref i
  rw [hr] at this
  exact this
theorem put1 (h : One w0 L w) (ref i x t : Int) (hr : (loadP L ref i).2 = t) : Calls Try.prog 15 #[.pointer (some ⟨w0.heap.size, 0, none⟩), .int .i64 ref, .int .i64 i, .int .i64 x] w fun e w' => e = .returned (.int .i64 t) ∧ One w0 (putP L ref i x) w' := by
  obtain ⟨v, os, hs, rfl, hb⟩ := h
  refine (put_any hs ref i x).mono fun e w' ⟨he, os', h1, hc, _, hk⟩ => ⟨by rw [he, hr], ?_⟩
  have := One.to hs hb h1 hk
  rw [hc] at this
  exact this
theorem many1 (h : One w0 L w) (n : Int) (hn : n = (L.length : Int)) : Calls Try.prog 19 #[.pointer (some ⟨w0.heap.size, 0, none⟩)] w fun e w' => e = .returned (.int .i64 n) ∧ w = w' := by
  obtain ⟨v, os, hs, rfl, hb⟩ := h
  have := many_any hs
  rw [hn, cnt_len]
  exact this
theorem One.below (h : One w0 L w) : Below w0.heap.size w0 w := h.choose_spec.choose_spec.2.2
theorem One.go (h : One w0 L w) (hb : Below w.heap.size w w1) : One w0 L w1 := by
  obtain ⟨v, os, hs, hc, h0⟩ := h
  exact ⟨v, os, hs.below hb, hc, h0.trans (hb.mono h0.size)⟩
end
/-- The law returns true, and leaves what was there. -/
def LawP (w : World) (e : Ending) (w' : World) : Prop := e = .returned (.bool true) ∧ Below w.heap.size w w'
theorem known_any (w : World) : Calls Try.prog 20 #[] w (LawP w) := by
  go_enter Try.func20, Try.ntmps20
  go_wp2_with fail
  refine (new1 w).mono ?_
  rintro e w0 ⟨rfl, h⟩
  have H0 := Lib.hid h
  clear h
  go_wp2_with fail
  refine (rec1 H0.out 2 (by decide)).mono ?_
  rintro e w1 ⟨rfl, h⟩
  have H1 := Lib.hid h
  clear h
  go_wp2_with fail
  refine (arr1 H1.out 3 3 rfl (by decide) (by decide)).mono ?_
  rintro e w2 ⟨rfl, h⟩
  have H2 := Lib.hid h
  clear h
  go_wp2_with fail
  refine (put1 H2.out 1 1 7 0 (by decide)).mono ?_
  rintro e w3 ⟨rfl, h⟩
  have H3 := Lib.hid h
  clear h
  go_wp2_with fail
  refine (load1 H3.out 1 1 7 0 (by decide)).mono ?_
  rintro e w4 ⟨rfl, rfl⟩
  go_wp2_with fail
  refine (len1 H3.out 2 3 0 (by decide)).mono ?_
  rintro e w4 ⟨rfl, rfl⟩
  go_wp2_with fail
  refine (many1 H3.out 2 (by decide)).mono ?_
  rintro e w4 ⟨rfl, rfl⟩
  go_wp2
  go_ret
  exact ⟨rfl, H3.out.below⟩
end Go.Proofs.Ytapaangppidnoaa
