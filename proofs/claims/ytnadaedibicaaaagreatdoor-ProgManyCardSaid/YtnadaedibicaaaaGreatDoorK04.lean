/-
  The contract of lex's scan, for texts of at most 6000 bytes.
  The contract of lex's Tokens.
-/
import Derived.Test.YtnadaedibicaaaaGreatDoorK03
namespace Go.Proofs.YtnadaedibicaaaaGreatDoor.Ln
open Go.RowKit

theorem atoi_says (x : ByteArray) (hx : x.size ≤ 281474976710656) (hne : x.data.toList ≠ []) (hd : ∀ c ∈ x.data.toList, Lx.digB (c.toNat : Int) = true) (V : Nat) (hV : Lx.valN 0 x.data.toList = V) (w : World) (he : Env w) : AtoiSays x w V := by
  have h := Lx.atoi_digits x.data.toList hne hd
  rw [hV] at h
  unfold AtoiSays
  by_cases hle : V ≤ 9223372036854775807
  · rw [if_pos hle] at h ⊢
    exact atoi_ok x hx V h w
  · rw [if_neg hle] at h ⊢
    exact atoi_range x hx h w he

theorem scanNumber_any (s : ByteArray) (hs : s.size ≤ 6000) (a : Int) (k : Nat) (ha : a = k) (hk : k < s.size) (hc : Lx.digB (s[k].toNat : Int) = true) (w : World) (he : Env w) :
    Calls Tryz.prog 67 #[.string s, .int .i64 a] w fun e w' => e = .returned (scanV k (Lx.oneNum (s.data.toList.drop k))) ∧ Below w.heap.size w w' := by
  subst ha
  obtain ⟨m, hm⟩ : ∃ m, Lx.runN Lx.digB (s.data.toList.drop k) = m := ⟨_, rfl⟩
  obtain ⟨n, hn⟩ : ∃ n, k + m = n := ⟨_, rfl⟩
  obtain ⟨V, hV⟩ : ∃ V, Lx.valN 0 ((s.data.toList.drop k).take m) = V := ⟨_, rfl⟩
  have hb := run_bound Lx.digB s k (by omega)
  have hm0 : 0 < m := by
    rw [← hm, run_at s _ k hk, if_pos hc]; omega
  obtain ⟨padded, runsOn, ht, hp, hr⟩ := numTests s k n hk
  have hbad := numBad_at hk hm hn hV
  have hone : Lx.oneNum (s.data.toList.drop k) = if Lx.numBad (s.data.toList.drop k) then none else some (2, [], V, m) := by rw [Lx.oneNum, hm, hV]
  have hp2 : padded = decide (s[k] = 48 ∧ 1 < m) := by
    rw [hp]
    congr 1
    rw [eq_iff_iff]
    exact ⟨fun ⟨x, y⟩ => ⟨x, by omega⟩, fun ⟨x, y⟩ => ⟨x, by omega⟩⟩
  rw [← hp2, ← hr] at hbad
  have hlist : (s.extract k n).data.toList = (s.data.toList.drop k).take m := by rw [← hn, ext_list]
  by_cases hpr : (padded || runsOn) = true
  · have : Lx.oneNum (s.data.toList.drop k) = none := by
      rw [hone, hbad]
      cases padded <;> cases runsOn <;> simp at hpr ⊢
    rw [this]
    exact scanNumber_bad s hs k n hk (by omega) (by omega) (by omega) padded runsOn ht hpr w
  · have h1 : padded = false ∧ runsOn = false := by cases padded <;> cases runsOn <;> simp at hpr ⊢
    rw [h1.1, h1.2] at ht hbad
    have : Lx.oneNum (s.data.toList.drop k) = numV m V := by
      rw [hone, hbad, numV]
      by_cases hle : V ≤ 9223372036854775807
      · rw [if_pos hle, if_neg (by simp; omega)]
      · rw [if_neg hle, if_pos (by simp; omega)]
    rw [this]
    refine scanNumber_good s hs k m n hk (by omega) hn (by omega) (by omega) ht V (fun w he => atoi_says _ (by have := ext_size s k n; omega) ?_ ?_ V (by rw [hlist]; exact hV) w he) w he
    · rw [hlist, drop_at s k hk]
      obtain ⟨m, rfl⟩ : ∃ j, m = j + 1 := ⟨m - 1, by omega⟩
      simp
    · rw [hlist, ← hm]
      exact Lx.runN_all _ _

theorem scanV_form (k : Nat) (o : Option (Nat × List UInt8 × Nat × Nat)) : ∃ (a : Int) (b : ByteArray) (c d e : Int) (f : Bool), scanV k o = .tuple #[.agg #[.int .i64 a, .string b, .int .i64 c, .int .i64 d], .int .i64 e, .bool f] := by
  rcases o with _ | ⟨kind, text, num, m⟩
  · exact ⟨_, _, _, _, _, _, rfl⟩
  · exact ⟨_, _, _, _, _, _, rfl⟩

set_option maxRecDepth 8000 in
set_option maxHeartbeats 2000000 in
theorem scan_any (s : ByteArray) (hs : s.size ≤ 6000) (a : Int) (k : Nat) (ha : a = k) (hk : k < s.size) (w : World) (he : Env w) :
    Calls Tryz.prog 43 #[.string s, .int .i64 a] w fun e w' => e = .returned (scanV k (Lx.one (s.data.toList.drop k))) ∧ Below w.heap.size w w' := by
  subst ha
  have he2 := he.below ((Below.refl _ _).alloc (Nat.le_refl _) (.cells #[.int .i64 0, .string ⟨#[]⟩, .int .i64 0, .int .i64 0] 66))
  have hl := letter_any (s[k].toNat : Int)
  have hd := digit_any (s[k].toNat : Int)
  cases hcl : Lx.letB (s[k].toNat : Int)
  · rw [hcl] at hl
    have HL := Lib.hid hl
    cases hcd : Lx.digB (s[k].toNat : Int)
    · rw [hcd] at hd
      have HD := Lib.hid hd
      rw [one_sign_at hk hcl hcd]
      have hcall := scanSign_any s (small_max hs) k k rfl hk _ he2
      obtain ⟨x0, x1, x2, x3, x4, x5, hf⟩ := scanV_form k (Lx.oneSign (s.data.toList.drop k))
      rw [hf] at hcall ⊢
      have HC := Lib.hid hcall
      clear hl hd hcl hcd he he2 hcall hf
      go_enter Tryz.func43, Tryz.ntmps43
      go_wp2_with (first
        | (go_at_call 64; refine (HL.out _).mono ?_; rintro e w' ⟨rfl, rfl⟩)
        | (go_at_call 66; refine (HD.out _).mono ?_; rintro e w' ⟨rfl, rfl⟩)
        | (go_at_call 68; refine HC.out.mono ?_; rintro e w1 ⟨rfl, hb1⟩; obtain ⟨⟨c0, c1, c2, c3⟩, f0, f1, f2, f3⟩ := box4 (box_at hb1)))
      refine bodyPost_ret (v := .tuple #[.agg #[.int .i64 x0, .string x1, .int .i64 x2, .int .i64 x3], .int .i64 x4, .bool x5]) (by simp [results, Tryz.results43, go_sem, c0, c1, c2, c3]) rfl ⟨rfl, ?_⟩
      exact ((((below_box hb1).setCell (Nat.le_refl _) _).setCell (Nat.le_refl _) _).setCell (Nat.le_refl _) _).setCell (Nat.le_refl _) _
    · rw [hcd] at hd
      have HD := Lib.hid hd
      rw [one_num_at hk hcl hcd]
      have hcall := scanNumber_any s hs k k rfl hk hcd _ he2
      obtain ⟨x0, x1, x2, x3, x4, x5, hf⟩ := scanV_form k (Lx.oneNum (s.data.toList.drop k))
      rw [hf] at hcall ⊢
      have HC := Lib.hid hcall
      clear hl hd hcl hcd he he2 hcall hf
      go_enter Tryz.func43, Tryz.ntmps43
      go_wp2_with (first
        | (go_at_call 64; refine (HL.out _).mono ?_; rintro e w' ⟨rfl, rfl⟩)
        | (go_at_call 66; refine (HD.out _).mono ?_; rintro e w' ⟨rfl, rfl⟩)
        | (go_at_call 67; refine HC.out.mono ?_; rintro e w1 ⟨rfl, hb1⟩; obtain ⟨⟨c0, c1, c2, c3⟩, f0, f1, f2, f3⟩ := box4 (box_at hb1)))
      refine bodyPost_ret (v := .tuple #[.agg #[.int .i64 x0, .string x1, .int .i64 x2, .int .i64 x3], .int .i64 x4, .bool x5]) (by simp [results, Tryz.results43, go_sem, c0, c1, c2, c3]) rfl ⟨rfl, ?_⟩
      exact ((((below_box hb1).setCell (Nat.le_refl _) _).setCell (Nat.le_refl _) _).setCell (Nat.le_refl _) _).setCell (Nat.le_refl _) _
  · rw [hcl] at hl
    have HL := Lib.hid hl
    rw [one_word_at hk hcl]
    have hcall := scanWord_any s hs k k rfl hk (w.alloc (.cells #[.int .i64 0, .string ⟨#[]⟩, .int .i64 0, .int .i64 0] 66))
    obtain ⟨x0, x1, x2, x3, x4, x5, hf⟩ := scanV_form k (Lx.oneWord (s.data.toList.drop k))
    rw [hf] at hcall ⊢
    have HC := Lib.hid hcall
    clear hl hd hcl he he2 hcall hf
    go_enter Tryz.func43, Tryz.ntmps43
    go_wp2_with (first
      | (go_at_call 64; refine (HL.out _).mono ?_; rintro e w' ⟨rfl, rfl⟩)
      | (go_at_call 66; refine (HD.out _).mono ?_; rintro e w' ⟨rfl, rfl⟩)
      | (go_at_call 65; refine HC.out.mono ?_; rintro e w1 ⟨rfl, hb1⟩; obtain ⟨⟨c0, c1, c2, c3⟩, f0, f1, f2, f3⟩ := box4 (box_at hb1)))
    refine bodyPost_ret (v := .tuple #[.agg #[.int .i64 x0, .string x1, .int .i64 x2, .int .i64 x3], .int .i64 x4, .bool x5]) (by simp [results, Tryz.results43, go_sem, c0, c1, c2, c3]) rfl ⟨rfl, ?_⟩
    exact ((((below_box hb1).setCell (Nat.le_refl _) _).setCell (Nat.le_refl _) _).setCell (Nat.le_refl _) _).setCell (Nat.le_refl _) _
end Go.Proofs.YtnadaedibicaaaaGreatDoor.Ln
namespace Go.Proofs.YtnadaedibicaaaaGreatDoor.Ln
open Go.RowKit

def tokCells (t : Lx.Tk) : List Value := [.int .i64 t.kind, .string (bs t.text), .int .i64 t.num, .int .i64 t.at_]
def cellsOf (ts : List Lx.Tk) : List Value := ts.flatMap tokCells
theorem cellsOf_snoc (ts : List Lx.Tk) (t : Lx.Tk) : cellsOf (ts ++ [t]) = cellsOf ts ++ tokCells t := by simp [cellsOf]
/-- A slice, from the front of its row on, that reads as these cells, in a block below B. -/
def Lies (w : World) (B : Nat) (A : Option Addr) (xs : List Value) : Prop :=
  xs ≠ [] → ∃ g, A = some ⟨g, 0, none⟩ ∧ g < B ∧ ∀ j u, xs[j]? = some u → w.cell? ⟨g, j, none⟩ = some u
theorem Lies.below {w w' : World} {B : Nat} {A : Option Addr} {xs : List Value} (h : Lies w B A xs) (hb : Below B w w') : Lies w' B A xs := by
  intro hx
  obtain ⟨g, ha, hg, hc⟩ := h hx
  exact ⟨g, ha, hg, fun j u hu => by rw [hb.cell (p := ⟨g, j, none⟩) hg]; exact hc j u hu⟩
theorem Lies.mono {w : World} {B B' : Nat} {A : Option Addr} {xs : List Value} (h : Lies w B A xs) (hB : B ≤ B') : Lies w B' A xs := by
  intro hx
  obtain ⟨g, ha, hg, hc⟩ := h hx
  exact ⟨g, ha, by omega, hc⟩
theorem Lies.nil {w : World} {B : Nat} {A : Option Addr} : Lies w B A [] := fun h => absurd rfl h
theorem lies_of_own {w : World} {base n sz : Nat} {T : TypeId} {v : Value} {xs : List Value} (h : w.ownsRow base T sz v n xs) : ∃ A c, v = .slice A n c ∧ Lies w w.heap.size A xs := by
  rcases h.2 with ⟨rfl, rfl⟩ | ⟨g, cap, cur, rfl, _, hg, _⟩
  · have : xs = [] := List.eq_nil_of_length_eq_zero (by have := h.1; omega)
    exact ⟨none, 0, rfl, by rw [this]; exact Lies.nil⟩
  · refine ⟨_, _, rfl, fun _ => ⟨g, rfl, heap_lt hg, fun j u hu => ?_⟩⟩
    have := h.cells (g := g) rfl j u hu
    have hadd : (⟨g, 0, none⟩ : Addr).add j = ⟨g, j, none⟩ := by unfold Addr.add; split <;> simp_all
    rw [← hadd]; exact this

/-- What Tokens answers. -/
def TokRes (l : List UInt8) (w : World) (e : Ending) (w' : World) : Prop :=
  ∃ (A : Option Addr) (c : Nat), e = .returned (.tuple #[.slice A (Lx.toks l).1.length c, .agg #[.int .i64 (Lx.toks l).2.1, .int .i64 (Lx.toks l).2.2]]) ∧ Lies w' w'.heap.size A (cellsOf (Lx.toks l).1) ∧ Below w.heap.size w w'

theorem toks_long {l : List UInt8} (h : 6000 < l.length) : Lx.toks l = ([], 4, 0) := by rw [Lx.toks, if_pos h]
theorem toks_fault {l : List UInt8} {k : Nat} (h : l.length ≤ 6000) (h2 : Lx.lexAll l = .error k) : Lx.toks l = ([], 1, k) := by rw [Lx.toks, if_neg (by omega), h2]
theorem toks_ok {l : List UInt8} {ts : List Lx.Tk} (h : l.length ≤ 6000) (h2 : Lx.lexAll l = .ok ts) : Lx.toks l = (ts ++ [⟨0, [], 0, l.length⟩], 0, 0) := by rw [Lx.toks, if_neg (by omega), h2]

theorem infoTok : (Tryz.prog.info? 66).map (fun i => (i.zero, i.size, i.bytes)) = some (some (.agg #[.int .i64 0, .string ⟨#[]⟩, .int .i64 0, .int .i64 0]), 4, 40) := by kernel_rfl

theorem res_long {l : List UInt8} (h : 6000 < l.length) {w w' : World} (hb : Below w.heap.size w w') : TokRes l w (.returned (.tuple #[.slice none 0 0, .agg #[.int .i64 4, .int .i64 0]])) w' := by
  unfold TokRes
  rw [toks_long h]
  exact ⟨none, 0, rfl, Lies.nil, hb⟩
theorem res_fault {l : List UInt8} {k : Nat} (h : l.length ≤ 6000) (h2 : Lx.lexAll l = .error k) {w w' : World} (hb : Below w.heap.size w w') : TokRes l w (.returned (.tuple #[.slice none 0 0, .agg #[.int .i64 1, .int .i64 k]])) w' := by
  unfold TokRes
  rw [toks_fault h h2]
  exact ⟨none, 0, rfl, Lies.nil, hb⟩
theorem res_ok {l : List UInt8} {ts : List Lx.Tk} (h : l.length ≤ 6000) (h2 : Lx.lexAll l = .ok ts) {w w' : World} (hb : Below w.heap.size w w') {A : Option Addr} {n c : Nat} (hn : n = ts.length + 1) (hl : Lies w' w'.heap.size A (cellsOf ts ++ tokCells ⟨0, [], 0, l.length⟩)) :
    TokRes l w (.returned (.tuple #[.slice A n c, .agg #[.int .i64 0, .int .i64 0]])) w' := by
  unfold TokRes
  rw [toks_ok h h2]
  refine ⟨A, c, ?_, ?_, hb⟩
  · rw [hn]; simp
  · rw [cellsOf_snoc]; exact hl

/-- What the loop of Tokens keeps: the block of the fault; the tokens; the memory that was there. -/
structure TokLoop (l : List UInt8) (w : World) (ts : List Lx.Tk) (k : Nat) (v : Value) (wr : World) : Prop where
  come : Lx.Come l ts k
  few : ts.length ≤ k
  own : wr.ownsRow (w.heap.size + 1) 66 4 v ts.length (cellsOf ts)
  blk : wr.heap[w.heap.size]? = some (.cells #[.int .i64 0, .int .i64 0] 29 (0, 0))
  bel : Below w.heap.size w wr

theorem TokLoop.start {l : List UInt8} {w : World} {k : Nat} (hk : Lx.skipS false l = k) : TokLoop l w [] k (.slice none 0 0) (w.alloc (.cells #[.int .i64 0, .int .i64 0] 29)) :=
  ⟨by rw [← hk]; exact Lx.come_start l, Nat.zero_le _, World.ownsRow_nil _ _ _ _, heap_alloc_new _ _, (Below.refl _ _).alloc (Nat.le_refl _) _⟩

theorem scanV_none (k : Nat) : scanV k none = .tuple #[.agg #[.int .i64 0, .string ⟨#[]⟩, .int .i64 0, .int .i64 0], .int .i64 0, .bool false] := rfl
theorem scanV_some (k kind num m : Nat) (text : List UInt8) : scanV k (some (kind, text, num, m)) = .tuple #[.agg #[.int .i64 kind, .string (bs text), .int .i64 num, .int .i64 k], .int .i64 (k + m : Nat), .bool true] := rfl
theorem box2 {w1 : World} {B : Nat} {T : TypeId} {a b : Value} (h : w1.heap[B]? = some (.cells #[a, b] T (0, 0))) :
    (w1.cell? ⟨B, 0, none⟩ = some a ∧ w1.cell? ⟨B, 1, none⟩ = some b) ∧ (w1.frozen? ⟨B, 0, none⟩ = false ∧ w1.frozen? ⟨B, 1, none⟩ = false) ∧ B < w1.heap.size :=
  ⟨⟨by rw [cell_of_row _ _ _ _ _ _ h]; rfl, by rw [cell_of_row _ _ _ _ _ _ h]; rfl⟩, ⟨frozen_of_row _ _ _ _ _ h, frozen_of_row _ _ _ _ _ h⟩, heap_lt h⟩

theorem below_go {w wr w1 : World} (h1 : Below w.heap.size w wr) (h2 : Below wr.heap.size wr w1) : Below w.heap.size w w1 := h1.trans (h2.mono h1.size)
theorem grown_below {w w1 : World} (hb : Below w.heap.size w w1) : w.grownBy w1 none := ⟨hb.os, hb.tape, hb.output, hb.size, fun i hi _ => hb.block i hi⟩
theorem own_below {w w1 : World} {base n sz : Nat} {T : TypeId} {v : Value} {xs : List Value} (h : w.ownsRow base T sz v n xs) (hb : Below w.heap.size w w1) : w1.ownsRow base T sz v n xs :=
  h.kept (grown_below hb) (by cases v.ownBlock <;> simp)

theorem TokLoop.next {l : List UInt8} {w wr w1 w2 : World} {ts : List Lx.Tk} {k kind num m p q : Nat} {text : List UInt8} {v v' : Value} {o1 o2 : Obj} (h : TokLoop l w ts k v wr) (hk : k < l.length) (hone : Lx.one (l.drop k) = some (kind, text, num, m)) (hp : k + m = p)
    (hq : p + Lx.skipS false (l.drop p) = q) (hb : Below wr.heap.size wr w1) (hg : ((w1.alloc o1).alloc o2).grownBy w2 v.ownBlock) (hown : w2.ownsRow (w.heap.size + 1) 66 4 v' (ts.length + 1) (cellsOf ts ++ tokCells ⟨kind, text, num, k⟩)) :
    TokLoop l w (ts ++ [⟨kind, text, num, k⟩]) q v' w2 := by
  have hm := Lx.one_len hone
  have hlt := heap_lt h.blk
  have hbs := hb.size
  refine ⟨?_, ?_, ?_, ?_, ?_⟩
  · rw [← hq, ← hp]; exact Lx.come_next h.come hk hone
  · have := h.few
    rw [List.length_append, List.length_singleton]; omega
  · rw [cellsOf_snoc, List.length_append, List.length_singleton]; exact hown
  · rw [hg.block w.heap.size (by simp; omega) (fun e => by have := (h.own.lt _ e.symm).1; omega)]
    rw [heap_alloc_old _ _ (by simp; omega), heap_alloc_old _ _ (by omega), hb.block _ hlt]
    exact h.blk
  · refine (((below_go h.bel hb).alloc (by omega) o1).alloc (by simp; omega) o2).grown hg (by simp; omega) (fun j hj => ?_)
    have := (h.own.lt _ hj).1
    omega

theorem news4 (W : World) (a b c d : Value) (T : TypeId) (B : Nat) (hB : B = W.heap.size) : ∀ j u, [a, b, c, d][j]? = some u → (W.alloc (.cells #[a, b, c, d] T)).cell? ((⟨B, 0, none⟩ : Addr).add j) = some u := by
  intro j u hu
  subst hB
  have hadd : (⟨W.heap.size, 0, none⟩ : Addr).add j = ⟨W.heap.size, j, none⟩ := by unfold Addr.add; split <;> simp_all
  rw [hadd, cell_of_row _ _ j _ _ _ (heap_alloc_new W _)]
  simpa using hu
theorem tok_one (t : Lx.Tk) : ∀ u ∈ tokCells t, u.oneCell' = true := by
  intro u hu
  simp [tokCells] at hu
  rcases hu with rfl | rfl | rfl | rfl <;> rfl
theorem own_set {w : World} {base n sz : Nat} {T : TypeId} {v : Value} {xs : List Value} (h : w.ownsRow base T sz v n xs) {p : Addr} (hp : p.block < base) (u : Value) : (w.setCell p u).ownsRow base T sz v n xs := by
  refine h.kept (row := some p.block) ⟨rfl, rfl, rfl, by simp [World.setCell], fun i _ hne => Below.heap_setCell w p u i (fun e => hne (by rw [e]))⟩ ?_
  cases hv : v.ownBlock with
  | none => exact Or.inl rfl
  | some g => exact Or.inr (fun e => by have := (h.lt g hv).1; injection e; omega)

theorem lies_set2 {w : World} {B n c sz : Nat} {T : TypeId} {A : Option Addr} {xs : List Value} (h : w.ownsRow (B + 1) T sz (.slice A n c) n xs) (x y : Value) :
    Lies ((w.setCell ⟨B, 0, none⟩ x).setCell ⟨B, 1, none⟩ y) ((w.setCell ⟨B, 0, none⟩ x).setCell ⟨B, 1, none⟩ y).heap.size A xs := by
  have h2 := own_set (own_set h (p := ⟨B, 0, none⟩) (by simp) x) (p := ⟨B, 1, none⟩) (by simp) y
  obtain ⟨A', c', he, hl⟩ := lies_of_own h2
  injection he with he _ _
  rw [he]; exact hl

theorem TokLoop.blk_last {l : List UInt8} {w wr w2 : World} {ts : List Lx.Tk} {k : Nat} {v : Value} {o1 : Obj} (h : TokLoop l w ts k v wr) (hg : (wr.alloc o1).grownBy w2 v.ownBlock) : w2.heap[w.heap.size]? = some (.cells #[.int .i64 0, .int .i64 0] 29 (0, 0)) := by
  have hlt := heap_lt h.blk
  rw [hg.block w.heap.size (by simp; omega) (fun e => by have := (h.own.lt _ e.symm).1; omega), heap_alloc_old _ _ (by omega)]
  exact h.blk
theorem TokLoop.bel_last {l : List UInt8} {w wr w2 : World} {ts : List Lx.Tk} {k : Nat} {v : Value} {o1 : Obj} (h : TokLoop l w ts k v wr) (hg : (wr.alloc o1).grownBy w2 v.ownBlock) : Below w.heap.size w w2 := by
  have hlt := heap_lt h.blk
  refine (h.bel.alloc (by omega) o1).grown hg (by simp; omega) (fun j hj => ?_)
  have := (h.own.lt _ hj).1
  omega

set_option maxRecDepth 8000 in
set_option maxHeartbeats 2000000 in
theorem tokens_any (s : ByteArray) (hs : s.size ≤ maxLen) (w : World) (he : Env w) :
    Calls Tryz.prog 16 #[.string s] w (TokRes s.data.toList w) := by
  by_cases hlong : 6000 < s.size
  · have HL : Hid (6000 < s.data.toList.length) := by show _ < _; rw [len_of]; exact hlong
    go_enter Tryz.func16, Tryz.ntmps16
    go_wp2
    exact bodyPost_ret (v := .tuple #[.slice none 0 0, .agg #[.int .i64 4, .int .i64 0]]) (by simp [results, Tryz.results16, go_sem]) rfl (res_long HL.out ((Below.refl _ _).alloc (Nat.le_refl _) _))
  · have hsz : s.size ≤ 6000 := by omega
    have HL : Hid (s.data.toList.length ≤ 6000) := by show _ ≤ _; rw [len_of]; exact hsz
    have HE := Lib.hid he
    obtain ⟨k0, hk0⟩ : ∃ k, Lx.skipS false s.data.toList = k := ⟨_, rfl⟩
    have hk0s : k0 ≤ s.size := by have := Lx.skipS_le s.data.toList false; rw [len_of] at this; omega
    have HK0 : Hid (0 + Lx.skipS false (s.data.toList.drop 0) = k0) := by show _ = _; rw [List.drop_zero, hk0]; omega
    have HS := Lib.hid (TokLoop.start (w := w) hk0)
    obtain ⟨i0, hi, hz0, hz1, hz2⟩ := info_parts infoTok
    clear hk0 he
    go_enter Tryz.func16, Tryz.ntmps16
    go_wp2_with (go_at_call 42; refine (skip_any s hs _ 0 k0 rfl (by omega) HK0.out _).mono ?_; rintro e w' ⟨rfl, rfl⟩)
    go_loopw [4, 5] (fun v i wr => ∃ (k : Nat) (ts : List Lx.Tk), k ≤ s.size ∧ i = .int .i64 k ∧ TokLoop s.data.toList w ts k v wr) (fun _ i _ => s.size - (intOf i).toNat)
    case atStart => exact ⟨k0, [], hk0s, rfl, HS.out⟩
    case round =>
      obtain ⟨k, ts, hk, rfl, hT⟩ := hrel
      have HT := Lib.hid hT
      clear hT
      by_cases hlt : k < s.size
      · have hscan := scan_any s hsz k k rfl hlt wr (HE.out.below HT.out.bel)
        cases hone : Lx.one (s.data.toList.drop k)
        · rw [hone, scanV_none] at hscan
          have HC := Lib.hid hscan
          have HO := Lib.hid hone
          clear hscan hone
          go_wp2_with (go_at_call 43; refine HC.out.mono ?_; rintro e w1 ⟨rfl, hb1⟩; obtain ⟨⟨d0, d1⟩, ⟨g0, g1⟩, hz⟩ := box2 ((hb1.block _ (heap_lt HT.out.blk)).trans HT.out.blk))
          refine bodyPost_ret (v := .tuple #[.slice none 0 0, .agg #[.int .i64 1, .int .i64 k]]) (by simp [results, Tryz.results16, go_sem, d0, d1, hz]) rfl (res_fault HL.out (Lx.come_fault HT.out.come (by rw [len_of]; exact hlt) HO.out) ?_)
          exact (((below_go HT.out.bel hb1).setCell (Nat.le_refl _) _).setCell (Nat.le_refl _) _).alloc (by simp [World.setCell]; omega) _
        · rename_i o
          obtain ⟨kind, text, num, m⟩ := o
          obtain ⟨p, hp⟩ : ∃ p, k + m = p := ⟨_, rfl⟩
          rw [hone, scanV_some, hp] at hscan
          have hlen := (Lx.one_len hone).2
          have hlen0 := (Lx.one_len hone).1
          rw [List.length_drop, len_of] at hlen
          have hps : p ≤ s.size := by omega
          have hkp : k < p := by omega
          obtain ⟨q, hq⟩ : ∃ q, p + Lx.skipS false (s.data.toList.drop p) = q := ⟨_, rfl⟩
          have hqs : q ≤ s.size := by
            have := Lx.skipS_le (s.data.toList.drop p) false
            rw [List.length_drop, len_of] at this
            omega
          have hpq : p ≤ q := by omega
          have hfew := HT.out.few
          have HC := Lib.hid hscan
          have HO := Lib.hid hone
          have HP := Lib.hid hp
          have HQ := Lib.hid hq
          clear hscan hone hp hq hlen hlen0
          go_wp2_with (first
            | (go_at_call 43; refine HC.out.mono ?_; rintro e w1 ⟨rfl, hb1⟩; obtain ⟨⟨d0, d1⟩, ⟨g0, g1⟩, hz⟩ := box2 ((hb1.block _ (heap_lt HT.out.blk)).trans HT.out.blk))
            | (at_builtin; refine wpList_append_own _ rfl _ _ 50 rfl (w.heap.size + 1) 66 i0 _ 4 40 Tryz.underlying50 hi hz0 hz1 hz2 rfl (by decide) _ ts.length (cellsOf ts) rfl (((own_below HT.out.own hb1).alloc _).alloc _) ⟨w1.heap.size + 1, 0, none⟩ 1 1 (tokCells ⟨kind, text, num, k⟩) rfl rfl ?c1 ?c2 ?c3 ?c4 ?c5 ?_))
          case c1 => exact news4 _ _ _ _ _ _ _ (by simp)
          case c2 => exact tok_one _
          case c3 => unfold maxLen; omega
          case c4 => omega
          case c5 => simp; omega
          intro v' w2 hown' hgrow _
          have HT2 := Lib.hid (HT.out.next (by rw [len_of]; exact hlt) HO.out HP.out HQ.out hb1 hgrow hown')
          clear hown' hgrow
          go_wp2_with (go_at_call 42; refine (skip_any s hs _ p q rfl hps HQ.out _).mono ?_; rintro e w' ⟨rfl, rfl⟩)
          go_roundw
          case rel => exact ⟨q, _, hqs, rfl, HT2.out⟩
          case measure => simp [intOf]; omega
      · have hfew := HT.out.few
        have hzb := heap_lt HT.out.blk
        go_wp2_with (at_builtin; refine wpList_append_own _ rfl _ _ 50 rfl (w.heap.size + 1) 66 i0 _ 4 40 Tryz.underlying50 hi hz0 hz1 hz2 rfl (by decide) _ ts.length (cellsOf ts) rfl (HT.out.own.alloc _) ⟨wr.heap.size, 0, none⟩ 1 1 (tokCells ⟨0, [], 0, s.size⟩) rfl rfl ?e1 ?e2 ?e3 ?e4 ?e5 ?_)
        case e1 => exact news4 _ _ _ _ _ _ _ rfl
        case e2 => exact tok_one _
        case e3 => unfold maxLen; omega
        case e4 => omega
        case e5 => simp; omega
        intro v' w2 hown' hgrow _
        obtain ⟨⟨d0, d1⟩, ⟨g0, g1⟩, hz⟩ := box2 (HT.out.blk_last hgrow)
        have hbel := HT.out.bel_last hgrow
        obtain ⟨A, c, rfl, _⟩ := lies_of_own hown'
        have HO := Lib.hid hown'
        clear hown' hgrow
        go_wp2
        refine bodyPost_ret (v := .tuple #[.slice A (ts.length + 1 : Nat) c, .agg #[.int .i64 0, .int .i64 0]]) (by simp [results, Tryz.results16, go_sem, d0, d1]) rfl (res_ok HL.out (Lx.come_end HT.out.come (by rw [len_of]; omega)) ?_ rfl ?_)
        · exact (hbel.setCell (Nat.le_refl _) _).setCell (Nat.le_refl _) _
        · rw [len_of]
          exact lies_set2 HO.out _ _
end Go.Proofs.YtnadaedibicaaaaGreatDoor.Ln
