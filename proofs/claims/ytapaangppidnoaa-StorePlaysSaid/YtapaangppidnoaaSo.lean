/-
  Two stores in one world: the project's and the answer's.
-/
import Derived.Test.YtapaangppidnoaaSk
import Derived.Test.YtapaangppidnoaaTo
namespace Go.Proofs.Ytapaangppidnoaa
open Go.RowKit

/-- Both, and what they hold; no block is both's; all that was there is as it was. -/
def Two (W : World) (gs : List (Nat × Obj)) (L M : List (List Int)) (w : World) : Prop :=
  ∃ v os u ms, Sto w W.heap.size 44 v os ∧ Sto w (W.heap.size + 1) 28 u ms ∧ cnt os = L ∧ cnt ms = M ∧ (∀ k, Own W.heap.size v os k → ¬ Own (W.heap.size + 1) u ms k) ∧ Below W.heap.size W w ∧
    ∀ g ∈ gs, w.heap[g.1]? = some g.2 ∧ ¬ Own W.heap.size v os g.1 ∧ ¬ Own (W.heap.size + 1) u ms g.1
section
variable {W w w1 : World} {gs : List (Nat × Obj)} {L M : List (List Int)}
theorem Two.below (h : Two W gs L M w) : Below W.heap.size W w := by
  obtain ⟨v, os, u, ms, -, -, -, -, -, h0, -⟩ := h
  exact h0
theorem Two.size (h : Two W gs L M w) : W.heap.size + 2 ≤ w.heap.size := by
  obtain ⟨v, os, u, ms, -, h2, -, -, -, -, -⟩ := h
  exact h2.plt
theorem Two.go (h : Two W gs L M w) (hb : Below w.heap.size w w1) : Two W gs L M w1 := by
  obtain ⟨v, os, u, ms, h1, h2, hc, hd, hx, h0, hg⟩ := h
  exact ⟨v, os, u, ms, h1.below hb, h2.below hb, hc, hd, hx, h0.trans (hb.mono h0.size), fun g hm => ⟨(hb.block _ (lt_of_block (hg g hm).1)).trans (hg g hm).1, (hg g hm).2⟩⟩
theorem Two.p {v v' u : Value} {os os' ms : List Ob} (h1 : Sto w W.heap.size 44 v os) (h2 : Sto w (W.heap.size + 1) 28 u ms) (hx : ∀ k, Own W.heap.size v os k → ¬ Own (W.heap.size + 1) u ms k) (h0 : Below W.heap.size W w) (hg : ∀ g ∈ gs, w.heap[g.1]? = some g.2 ∧ ¬ Own W.heap.size v os g.1 ∧ ¬ Own (W.heap.size + 1) u ms g.1)
    (h3 : Sto w1 W.heap.size 44 v' os') (ho : ∀ k, Own W.heap.size v' os' k → Own W.heap.size v os k ∨ w.heap.size ≤ k) (hk : Ke (Own W.heap.size v os) w w1) : Two W gs (cnt os') (cnt ms) w1 :=
  ⟨v', os', u, ms, h3, h2.ke hk (fun k hu hv => hx k hv hu), rfl, rfl, fun k hv hu => by
    rcases ho k hv with e | e
    · exact hx k e hu
    · have := (h2.lt hu).2
      omega, h0.trans (hk.below h0.size (fun b hb => (h1.lt hb).1)), fun g hm => ⟨(hk.block _ (lt_of_block (hg g hm).1) (hg g hm).2.1).trans (hg g hm).1, fun hv => by
      rcases ho _ hv with e | e
      · exact (hg g hm).2.1 e
      · have := lt_of_block (hg g hm).1
        omega, (hg g hm).2.2⟩⟩
theorem Two.q {v u u' : Value} {os ms ms' : List Ob} (h1 : Sto w W.heap.size 44 v os) (h2 : Sto w (W.heap.size + 1) 28 u ms) (hx : ∀ k, Own W.heap.size v os k → ¬ Own (W.heap.size + 1) u ms k) (h0 : Below W.heap.size W w) (hg : ∀ g ∈ gs, w.heap[g.1]? = some g.2 ∧ ¬ Own W.heap.size v os g.1 ∧ ¬ Own (W.heap.size + 1) u ms g.1)
    (h3 : Sto w1 (W.heap.size + 1) 28 u' ms') (ho : ∀ k, Own (W.heap.size + 1) u' ms' k → Own (W.heap.size + 1) u ms k ∨ w.heap.size ≤ k) (hk : Ke (Own (W.heap.size + 1) u ms) w w1) : Two W gs (cnt os) (cnt ms') w1 :=
  ⟨v, os, u', ms', h1.ke hk hx, h3, rfl, rfl, fun k hv hu => by
    rcases ho k hu with e | e
    · exact hx k hv e
    · have := (h1.lt hv).2
      omega, h0.trans (hk.below h0.size (fun b hb => by have := (h2.lt hb).1; omega)), fun g hm => ⟨(hk.block _ (lt_of_block (hg g hm).1) (hg g hm).2.2).trans (hg g hm).1, (hg g hm).2.1, fun hv => by
      rcases ho _ hv with e | e
      · exact (hg g hm).2.2 e
      · have := lt_of_block (hg g hm).1
        omega⟩⟩
theorem Two.new (W : World) : Two W [] [] [] ((W.alloc (.cells #[.slice none 0 0] 44)).alloc (.cells #[.slice none 0 0] 28)) := by
  have h2 := Sto.nil (W.alloc (.cells #[.slice none 0 0] 44)) 28
  rw [size_alloc] at h2
  refine ⟨_, [], _, [], (Sto.nil W 44).below ((Below.refl _ _).alloc (Nat.le_refl _) _), h2, rfl, rfl, fun k hk hq => ?_, ((Below.refl _ _).alloc (Nat.le_refl _) _).alloc (by simp) _, fun g hg => by cases hg⟩
  have e1 := own_nil hk
  have e2 := own_nil hq
  omega
/-- A block more that is to be kept. -/
theorem Two.add (h : Two W gs L M w) (a : Array Value) (T : TypeId) : Two W [(w.heap.size, .cells a T (0, 0))] L M (w.alloc (.cells a T)) := by
  obtain ⟨v, os, u, ms, h1, h2, hc, hd, hx, h0, -⟩ := h
  have hb : Below w.heap.size w (w.alloc (.cells a T)) := (Below.refl _ _).alloc (Nat.le_refl _) _
  refine ⟨v, os, u, ms, h1.below hb, h2.below hb, hc, hd, hx, h0.trans (hb.mono h0.size), fun g hm => ?_⟩
  obtain rfl := List.mem_singleton.1 hm
  exact ⟨heap_alloc_new w _, fun e => by have := (h1.lt e).2; omega, fun e => by have := (h2.lt e).2; omega⟩
theorem Two.drop (h : Two W gs L M w) : Two W [] L M w := by
  obtain ⟨v, os, u, ms, h1, h2, hc, hd, hx, h0, -⟩ := h
  exact ⟨v, os, u, ms, h1, h2, hc, hd, hx, h0, fun g hm => by cases hm⟩
theorem Two.next (h : Two W gs L M w) (n : Nat) : Two W [] L M (w.drewN n) := h.drop.go ⟨rfl, rfl, rfl, Nat.le_refl _, fun _ _ => rfl⟩
theorem Two.kept {g : Nat} {o : Obj} (h : Two W [(g, o)] L M w) : w.heap[g]? = some o := by
  obtain ⟨v, os, u, ms, h1, h2, hc, hd, hx, h0, hg⟩ := h
  exact (hg (g, o) (List.mem_singleton.2 rfl)).1
theorem recP (h : Two W gs L M w) (n : Int) (hl : L.length ≤ 1000000) : Calls Try.prog 9 #[.pointer (some ⟨W.heap.size, 0, none⟩), .int .i64 n] w fun e w' => e = .returned (.int .i64 ((L.length : Int) + 1)) ∧ Two W gs (L ++ [List.replicate (recN n) 0]) M w' := by
  obtain ⟨v, os, u, ms, h1, h2, rfl, rfl, hx, h0, hg⟩ := h
  rw [cnt_len] at hl ⊢
  refine (rec_any h1 n hl).mono fun e w' ⟨he, v', b, h3, ho, hk⟩ => ⟨he, ?_⟩
  have := Two.p h1 h2 hx h0 hg h3 ho hk
  rw [cnt_push] at this
  exact this
theorem recQ (h : Two W gs L M w) (n : Int) (hl : M.length ≤ 1000000) : Calls Try.prog 10 #[.pointer (some ⟨W.heap.size + 1, 0, none⟩), .int .i64 n] w fun e w' => e = .returned (.int .i64 ((M.length : Int) + 1)) ∧ Two W gs L (M ++ [List.replicate (recN n) 0]) w' := by
  obtain ⟨v, os, u, ms, h1, h2, rfl, rfl, hx, h0, hg⟩ := h
  rw [cnt_len] at hl ⊢
  refine (qrec_any h2 n hl).mono fun e w' ⟨he, v', b, h3, ho, hk⟩ => ⟨he, ?_⟩
  have := Two.q h1 h2 hx h0 hg h3 ho hk
  rw [cnt_push] at this
  exact this
/-- What an array's allocation gives. -/
def arrP (L : List (List Int)) (n : Int) : Int × Int := if n < 0 then (0, 4) else if 50 < n then (0, 4) else ((L.length : Int) + 1, 0)
def arrL (L : List (List Int)) (n : Int) : List (List Int) := if n < 0 then L else if 50 < n then L else L ++ [List.replicate n.toNat 0]
theorem arr_cases (L : List (List Int)) (n : Int) : ((n < 0 ∨ 0 ≤ n ∧ 50 < n) ∧ arrP L n = (0, 4) ∧ arrL L n = L) ∨ ∃ k : Nat, n = (k : Int) ∧ k ≤ 50 ∧ arrP L n = ((L.length : Int) + 1, 0) ∧ arrL L n = L ++ [List.replicate k 0] := by
  by_cases h0 : n < 0
  · exact .inl ⟨.inl h0, by rw [arrP, if_pos h0], by rw [arrL, if_pos h0]⟩
  · by_cases h1 : 50 < n
    · exact .inl ⟨.inr ⟨by omega, h1⟩, by rw [arrP, if_neg h0, if_pos h1], by rw [arrL, if_neg h0, if_pos h1]⟩
    · refine .inr ⟨n.toNat, by omega, by omega, by rw [arrP, if_neg h0, if_neg h1], by rw [arrL, if_neg h0, if_neg h1]⟩
theorem arrTP (h : Two W gs L M w) (n : Int) (hl : L.length ≤ 1000000) : Calls Try.prog 11 #[.pointer (some ⟨W.heap.size, 0, none⟩), .int .i64 n] w fun e w' => e = .returned (.tuple #[.int .i64 (arrP L n).1, .int .i64 (arrP L n).2]) ∧ Two W gs (arrL L n) M w' := by
  rcases arr_cases L n with ⟨hn, e1, e2⟩ | ⟨k, rfl, hk, e1, e2⟩
  · rw [e1, e2]
    exact (arr_no w n hn).mono fun e w' ⟨he, hw⟩ => ⟨he, hw ▸ h⟩
  · rw [e1, e2]
    obtain ⟨v, os, u, ms, h1, h2, rfl, rfl, hx, h0, hg⟩ := h
    rw [cnt_len] at hl ⊢
    refine (arr_yes h1 k hk hl).mono fun e w' ⟨he, v', b, h3, ho, hk⟩ => ⟨he, ?_⟩
    have := Two.p h1 h2 hx h0 hg h3 ho hk
    rw [cnt_push] at this
    exact this
theorem arrTQ (h : Two W gs L M w) (n : Int) (hl : M.length ≤ 1000000) : Calls Try.prog 12 #[.pointer (some ⟨W.heap.size + 1, 0, none⟩), .int .i64 n] w fun e w' => e = .returned (.tuple #[.int .i64 (arrP M n).1, .int .i64 (arrP M n).2]) ∧ Two W gs L (arrL M n) w' := by
  rcases arr_cases M n with ⟨hn, e1, e2⟩ | ⟨k, rfl, hk, e1, e2⟩
  · rw [e1, e2]
    exact (qarr_no w n hn).mono fun e w' ⟨he, hw⟩ => ⟨he, hw ▸ h⟩
  · rw [e1, e2]
    obtain ⟨v, os, u, ms, h1, h2, rfl, rfl, hx, h0, hg⟩ := h
    rw [cnt_len] at hl ⊢
    refine (qarr_yes h2 k hk hl).mono fun e w' ⟨he, v', b, h3, ho, hk⟩ => ⟨he, ?_⟩
    have := Two.q h1 h2 hx h0 hg h3 ho hk
    rw [cnt_push] at this
    exact this
theorem lenTP (h : Two W gs L M w) (ref : Int) : Calls Try.prog 17 #[.pointer (some ⟨W.heap.size, 0, none⟩), .int .i64 ref] w (AskP (lenP L ref) w) := by
  obtain ⟨v, os, u, ms, h1, h2, rfl, rfl, hx, h0, hg⟩ := h
  exact len_any h1 ref
theorem lenTQ (h : Two W gs L M w) (ref : Int) : Calls Try.prog 18 #[.pointer (some ⟨W.heap.size + 1, 0, none⟩), .int .i64 ref] w (AskP (lenP M ref) w) := by
  obtain ⟨v, os, u, ms, h1, h2, rfl, rfl, hx, h0, hg⟩ := h
  exact qlen_any h2 ref
theorem loadTP (h : Two W gs L M w) (ref i : Int) : Calls Try.prog 13 #[.pointer (some ⟨W.heap.size, 0, none⟩), .int .i64 ref, .int .i64 i] w (AskP (loadP L ref i) w) := by
  obtain ⟨v, os, u, ms, h1, h2, rfl, rfl, hx, h0, hg⟩ := h
  exact load_any h1 ref i
theorem loadTQ (h : Two W gs L M w) (ref i : Int) : Calls Try.prog 14 #[.pointer (some ⟨W.heap.size + 1, 0, none⟩), .int .i64 ref, .int .i64 i] w (AskP (loadP M ref i) w) := by
  obtain ⟨v, os, u, ms, h1, h2, rfl, rfl, hx, h0, hg⟩ := h
  exact qload_any h2 ref i
theorem putTP (h : Two W gs L M w) (ref i x : Int) : Calls Try.prog 15 #[.pointer (some ⟨W.heap.size, 0, none⟩), .int .i64 ref, .int .i64 i, .int .i64 x] w fun e w' => e = .returned (.int .i64 (loadP L ref i).2) ∧ Two W gs (putP L ref i x) M w' := by
  obtain ⟨v, os, u, ms, h1, h2, rfl, rfl, hx, h0, hg⟩ := h
  refine (put_any h1 ref i x).mono fun e w' ⟨he, os', h3, hc, ho, hk⟩ => ⟨he, ?_⟩
  have := Two.p h1 h2 hx h0 hg h3 (fun k hk => .inl (ho k hk)) hk
  rw [hc] at this
  exact this
theorem putTQ (h : Two W gs L M w) (ref i x : Int) : Calls Try.prog 16 #[.pointer (some ⟨W.heap.size + 1, 0, none⟩), .int .i64 ref, .int .i64 i, .int .i64 x] w fun e w' => e = .returned (.int .i64 (loadP M ref i).2) ∧ Two W gs L (putP M ref i x) w' := by
  obtain ⟨v, os, u, ms, h1, h2, rfl, rfl, hx, h0, hg⟩ := h
  refine (qput_any h2 ref i x).mono fun e w' ⟨he, os', h3, hc, ho, hk⟩ => ⟨he, ?_⟩
  have := Two.q h1 h2 hx h0 hg h3 (fun k hk => .inl (ho k hk)) hk
  rw [hc] at this
  exact this
theorem manyTP (h : Two W gs L M w) : Calls Try.prog 19 #[.pointer (some ⟨W.heap.size, 0, none⟩)] w fun e w' => e = .returned (.int .i64 (L.length : Int)) ∧ w = w' := by
  obtain ⟨v, os, u, ms, h1, h2, rfl, rfl, hx, h0, hg⟩ := h
  rw [cnt_len]
  exact many_any h1
theorem Two.box (h : Two W gs L M w) : ∃ q c, w.cell? ⟨W.heap.size + 1, 0, none⟩ = some (.slice q M.length c) := by
  obtain ⟨v, os, u, ms, h1, h2, rfl, rfl, hx, h0, hg⟩ := h
  obtain ⟨q, c, rfl⟩ := h2.slice
  exact ⟨q, c, by rw [cnt_len]; exact h2.cell⟩
theorem many_quiet (h : Two W gs L M w) (n : Nat) : Calls Try.prog 19 #[.pointer (some ⟨W.heap.size, 0, none⟩)] (w.drewN n) fun e w' => e = .returned (.int .i64 (L.length : Int)) ∧ ∃ m, w' = w.drewN m :=
  (manyTP (h.go (w1 := w.drewN n) ⟨rfl, rfl, rfl, Nat.le_refl _, fun _ _ => rfl⟩)).mono fun _ _ ⟨he, hw⟩ => ⟨he, n, hw.symm⟩
theorem put_len (L : List (List Int)) (ref i x : Int) : (putP L ref i x).length = L.length := by
  unfold putP
  split
  · split
    · rw [List.length_set]
    · rfl
  · rfl
theorem arr_len (L : List (List Int)) (n : Int) : (arrL L n).length ≤ L.length + 1 := by
  unfold arrL
  (repeat' split) <;> simp
end
end Go.Proofs.Ytapaangppidnoaa
