/-
  Blocks in each other, in plain data: as many as may be open, and the first that is too many.
  The texts of StmtDeep: their tokens.
  StmtDeep: blocks in each other.
-/
import Derived.Test.YtnnbdidefgghjaaDoorYe
import Derived.Test.YtnnbdidefgghjaaDoorDq
import Derived.Test.YtnnbdidefgghjaaDoorDt
import Derived.Test.YtnnbdidefgghjaaDoorZn
import Derived.Test.YtnnbdidefgghjaaDoorLaidE
import Derived.IntWalk
namespace Go.Proofs.YtnnbdidefgghjaaDoor
namespace Pe
open Px (RT tokAt)
/-- Nothing goes on an expression where this sign stands. -/
theorem op_none {ts : List RT} {c : Cs} (hk : (peek ts c).kind = 4) (ht : (peek ts c).text = [123]) (n : Int) : seesOp ts c n = none := by
  unfold seesOp
  rw [Option.map_eq_none_iff, List.find?_eq_none]
  intro o ho
  simp only [opList, List.mem_cons, List.not_mem_nil, or_false] at ho
  unfold sees
  rcases ho with rfl | rfl | rfl | rfl | rfl | rfl | rfl | rfl | rfl | rfl | rfl <;> simp [hk, ht]
theorem run_up2 {ts : List RT} {f : Nat} {s s1 : St} {e : Ex} (h : (run ts f).2 s = some (e, s1)) (hs : ∀ n, seesOp ts s1.c n = none) : (run ts (f + 6)).1 1 s = some (e, s1) := by
  have hb : ∀ (rec : Nat → St → Out) (n g : Nat), binLoop ts rec n (g + 1) e s1 = some (e, s1) := fun rec n g => by rw [binLoop, hs]
  have h6 : (run ts (f + 1)).1 6 s = some (e, s1) := by rw [run]; exact h
  have h5 : (run ts (f + 2)).1 5 s = some (e, s1) := by
    rw [run]; show (match (run ts (f + 1)).1 6 s with | none => none | some (l, s1) => binLoop ts (run ts (f + 1)).1 5 (f + 1) l s1) = _
    rw [h6]; exact hb _ _ _
  have h4 : (run ts (f + 3)).1 4 s = some (e, s1) := by
    rw [run]; show (match (run ts (f + 2)).1 5 s with | none => none | some (l, s1) => binLoop ts (run ts (f + 2)).1 4 (f + 2) l s1) = _
    rw [h5]; exact hb _ _ _
  have h3 : (run ts (f + 4)).1 3 s = some (e, s1) := by
    rw [run]; show (match (run ts (f + 3)).1 4 s with | none => none | some (l, s1) => binLoop ts (run ts (f + 3)).1 3 (f + 3) l s1) = _
    rw [h4]; exact hb _ _ _
  have h2 : (run ts (f + 5)).1 2 s = some (e, s1) := by
    rw [run]; show (match (run ts (f + 4)).1 3 s with | none => none | some (l, s1) => binLoop ts (run ts (f + 4)).1 2 (f + 4) l s1) = _
    rw [h3]; exact hb _ _ _
  rw [run]; show (match (run ts (f + 5)).1 2 s with | none => none | some (l, s1) => binLoop ts (run ts (f + 5)).1 1 (f + 5) l s1) = _
  rw [h2]; exact hb _ _ _
/-- A name that a brace follows. -/
theorem live_name {ts : List RT} {k o : Int} (hk : (tokAt ts k).kind = 1) (hk2 : (tokAt ts (inc k)).kind = 4) (ht2 : (tokAt ts (inc k)).text = [123]) (f : Nat) :
    (run ts (f + 8)).1 1 ⟨⟨k, 0, 0⟩, o⟩ = some (Ex.of 4 0 (tokAt ts k).text [] 0 [] (tokAt ts k).at_, ⟨⟨inc k, 0, 0⟩, o⟩) := by
  have hp : peek ts ⟨k, 0, 0⟩ = tokAt ts k := if_pos rfl
  have hp2 : peek ts ⟨inc k, 0, 0⟩ = tokAt ts (inc k) := if_pos rfl
  refine run_up2 (f := f + 2) ?_ (op_none (by rw [hp2]; exact hk2) (by rw [hp2]; exact ht2))
  have hs : ∀ t, sees ts ⟨k, 0, 0⟩ 4 t = false := fun t => by unfold sees; rw [hp, hk]; rfl
  have h40 : sees ts ⟨inc k, 0, 0⟩ 4 [40] = false := by unfold sees; rw [hp2, hk2, ht2]; rfl
  have hc : ∀ (rec : Nat → St → Out) (g : Nat), varOrCall ts rec g ⟨⟨k, 0, 0⟩, o⟩ = some (Ex.of 4 0 (tokAt ts k).text [] 0 [] (tokAt ts k).at_, ⟨⟨inc k, 0, 0⟩, o⟩) := fun rec g => by
    unfold varOrCall
    dsimp only
    rw [name_live hk]
    dsimp only
    rw [h40, hp, if_neg (by decide)]
  rw [run]
  show unary ts _ _ (f + 1) _ = _
  rw [unary, hs, hs]
  simp only [Bool.false_eq_true, if_false]
  rw [postfix_, primary]
  dsimp only
  rw [hp, if_pos hk, hc]
  dsimp only
  rw [sufLoop, hp2, if_pos hk2, ht2, if_neg (by decide), if_neg (by decide)]
end Pe
namespace Sim
open Go.RowKit
open Px (RT tokAt isT)
open Pe (Ex Cs St inc dec)
open Ps (Sm kindOf nameOf)

def kwW (l : Bool) : List UInt8 := if l then [119, 104, 105, 108, 101] else [105, 102]
/-- So many blocks in each other; a: how long the text ahead of one is. -/
structure NestB (ts : List RT) (l : Bool) (a n : Nat) : Prop where
  kw : ∀ i, i < n → (tokAt ts ((3 * i : Nat) : Int)).kind = 3 ∧ (tokAt ts ((3 * i : Nat) : Int)).text = kwW l
  nm : ∀ i, i < n → (tokAt ts ((3 * i + 1 : Nat) : Int)).kind = 1
  op : ∀ i, i < n → (tokAt ts ((3 * i + 2 : Nat) : Int)).kind = 4 ∧ (tokAt ts ((3 * i + 2 : Nat) : Int)).text = [123] ∧ (tokAt ts ((3 * i + 2 : Nat) : Int)).at_ = ((a * (i + 1) - 1 : Nat) : Int)
  cl : ∀ j, j < n → (tokAt ts ((3 * n + j : Nat) : Int)).kind = 4 ∧ (tokAt ts ((3 * n + j : Nat) : Int)).text = [125]
  en : (tokAt ts ((4 * n : Nat) : Int)).kind = 0

theorem inc_n (k : Nat) (h : k < 100000) : inc (k : Int) = ((k + 1 : Nat) : Int) := by unfold inc; simp [wrap64]; omega
theorem dec_n (k : Nat) (h : k < 100000) : dec ((k + 1 : Nat) : Int) = (k : Int) := by unfold dec; simp [wrap64]; omega

theorem rd_name {ts : List RT} {P : Ps.PX} (hP : IsP ts P) {l : Bool} {a n : Nat} (hN : NestB ts l a n) (hn : n ≤ 60) {i : Nat} (hi : i < n) (o : Int) :
    ∃ e, Ps.rd P ⟨⟨((3 * i + 1 : Nat) : Int), 0, 0⟩, o⟩ = (e, ⟨⟨((3 * i + 2 : Nat) : Int), 0, 0⟩, o⟩) := by
  have hi1 : inc ((3 * i + 1 : Nat) : Int) = ((3 * i + 2 : Nat) : Int) := inc_n _ (by omega)
  obtain ⟨o1, o2, -⟩ := hN.op i hi
  have hp := hP ((3 * i + 1 : Nat) : Int) o
  obtain ⟨g, hg⟩ : ∃ g, enough ts = g + 8 := ⟨enough ts - 8, by unfold enough; omega⟩
  unfold Pe.parse at hp
  rw [hg, Pe.live_name (hN.nm i hi) (by rw [hi1]; exact o1) (by rw [hi1]; exact o2) g, hi1] at hp
  have hv : P ((3 * i + 1 : Nat) : Int) o = (Ex.of 4 0 (tokAt ts ((3 * i + 1 : Nat) : Int)).text [] 0 [] (tokAt ts ((3 * i + 1 : Nat) : Int)).at_, ((3 * i + 2 : Nat) : Int), 0, 0) := (Option.some.inj hp).symm
  refine ⟨Ex.of 4 0 (tokAt ts ((3 * i + 1 : Nat) : Int)).text [] 0 [] (tokAt ts ((3 * i + 1 : Nat) : Int)).at_, ?_⟩
  unfold Ps.rd
  rw [if_pos rfl]
  dsimp only
  rw [hv, if_pos rfl]

/-- What a statement of this kind is once its block is read. -/
theorem outer {ts : List RT} {P : Ps.PX} (hP : IsP ts P) {l : Bool} {a n : Nat} (hN : NestB ts l a n) (hn : n ≤ 60) {i : Nat} (hi : i < n) (o : Int) {recB : St → Ps.OutB} {b : List Sm} {s2 : St}
    (hb : recB ⟨⟨((3 * i + 2 : Nat) : Int), 0, 0⟩, o⟩ = some (b, s2)) (hel : Pe.sees ts s2.c 3 [101, 108, 115, 101] = false) :
    ∃ kind e, Ps.statement ts P recB ⟨⟨((3 * i : Nat) : Int), 0, 0⟩, o⟩ = some (Sm.mk kind [] [] 0 [e] b [] (tokAt ts ((3 * i : Nat) : Int)).at_ 0, s2) := by
  obtain ⟨e, he⟩ := rd_name hP hN hn hi o
  obtain ⟨k1, k2⟩ := hN.kw i hi
  have hp : Pe.peek ts ⟨((3 * i : Nat) : Int), 0, 0⟩ = tokAt ts ((3 * i : Nat) : Int) := if_pos rfl
  have hx : Ps.nxt ⟨⟨((3 * i : Nat) : Int), 0, 0⟩, o⟩ = ⟨⟨((3 * i + 1 : Nat) : Int), 0, 0⟩, o⟩ := by
    unfold Ps.nxt Pe.next
    dsimp only
    rw [inc_n _ (by omega)]
  unfold Ps.statement Ps.step
  dsimp only
  rw [hp, if_pos k1, k2]
  cases l with
  | true =>
    rw [show kwW true = [119, 104, 105, 108, 101] from rfl, if_neg (by decide), if_neg (by decide), if_neg (by decide), if_pos rfl]
    unfold Ps.loop
    dsimp only
    rw [hx, he]
    dsimp only
    rw [hb]
    exact ⟨6, e, rfl⟩
  | false =>
    rw [show kwW false = [105, 102] from rfl, if_neg (by decide), if_neg (by decide), if_pos rfl]
    unfold Ps.choice
    dsimp only
    rw [hx, he]
    dsimp only
    rw [hb]
    dsimp only
    rw [hel, if_neg (by decide)]
    exact ⟨5, e, rfl⟩

theorem sees_sg {ts : List RT} {k : Int} {t : List UInt8} (h : (tokAt ts k).kind = 4 ∧ (tokAt ts k).text = t) : Pe.sees ts ⟨k, 0, 0⟩ 4 t = true := by
  unfold Pe.sees
  rw [Pe.peek, if_pos rfl, h.1, h.2]
  simp
theorem sees_kd {ts : List RT} {k : Int} {kd : Int} {t : List UInt8} (h : (tokAt ts k).kind ≠ kd) : Pe.sees ts ⟨k, 0, 0⟩ kd t = false := by
  unfold Pe.sees
  rw [Pe.peek, if_pos rfl]
  simp [h]
theorem sees_dd {ts : List RT} {c : Cs} {kd : Int} (hk : kd ≠ 0) {t : List UInt8} (h : c.E ≠ 0) : Pe.sees ts c kd t = false := by
  unfold Pe.sees
  rw [Pe.peek_dead h]
  simp [RT.none, Ne.symm hk]

/-- Behind the closing braces. -/
def endB (n m : Nat) (o : Int) : St := ⟨⟨((3 * n + m : Nat) : Int), 0, 0⟩, o⟩
theorem endB_else {ts : List RT} {l : Bool} {a n : Nat} (hN : NestB ts l a n) {m : Nat} (hm : m ≤ n) (o : Int) : Pe.sees ts (endB n m o).c 3 [101, 108, 115, 101] = false := by
  by_cases h : m < n
  · exact sees_kd (by rw [(hN.cl m h).1]; decide)
  · obtain rfl : m = n := by omega
    have := hN.en
    rw [show 4 * m = 3 * m + m by omega] at this
    exact sees_kd (by rw [this]; decide)
theorem leave_end {ts : List RT} {l : Bool} {a n : Nat} (hN : NestB ts l a n) (hn : n ≤ 60) {m : Nat} (hm : m < n) {o : Nat} (ho : o < 100) : Pe.leave ts (endB n m ((o + 1 : Nat) : Int)) [125] = endB n (m + 1) (o : Int) := by
  unfold Pe.leave endB
  dsimp only
  rw [Pe.sign_live (sees_sg (hN.cl m hm)), dec_n _ (by omega)]
  unfold Pe.next
  rw [inc_n _ (by omega)]
  rfl

theorem nest_ok {ts : List RT} {P : Ps.PX} (hP : IsP ts P) {l : Bool} {a n : Nat} (hN : NestB ts l a n) (hn : n ≤ 50) : ∀ (m i : Nat), i + m + 1 = n → ∀ f, 3 * m + 4 ≤ f →
    ∃ kind e b at_, (Ps.run ts P f).1 ⟨⟨((3 * i : Nat) : Int), 0, 0⟩, (i : Int)⟩ = some (Sm.mk kind [] [] 0 [e] b [] at_ 0, endB n (n - i) (i : Int)) := by
  intro m
  induction m with
  | zero =>
    intro i hi f hf
    obtain ⟨g, rfl⟩ : ∃ g, f = g + 2 := ⟨f - 2, by omega⟩
    have hen : (Pe.enter ts ⟨⟨((3 * i + 2 : Nat) : Int), 0, 0⟩, (i : Int)⟩ [123]).2 = endB n 0 ((i + 1 : Nat) : Int) := by
      obtain ⟨o1, o2, -⟩ := hN.op i (by omega)
      rw [Pe.enter_live (sees_sg ⟨o1, o2⟩) (by dsimp only; omega)]
      unfold Pe.next endB
      rw [inc_n _ (by omega), inc_n _ (by omega), show 3 * i + 2 + 1 = 3 * n + 0 by omega]
    have hb : (Ps.run ts P (g + 1)).2 ⟨⟨((3 * i + 2 : Nat) : Int), 0, 0⟩, (i : Int)⟩ = some ([], endB n 1 (i : Int)) := by
      show Ps.block ts _ g _ = _
      unfold Ps.block
      rw [hen]
      obtain ⟨g, rfl⟩ : ∃ k, g = k + 1 := ⟨g - 1, by omega⟩
      rw [Ps.stLoop, show Pe.sees ts (endB n 0 ((i + 1 : Nat) : Int)).c 4 [125] = true from sees_sg (hN.cl 0 (by omega)), if_pos rfl]
      dsimp only
      rw [leave_end hN (by omega) (by omega) (by omega)]
    obtain ⟨kind, e, h⟩ := outer hP hN (by omega) (show i < n by omega) (i : Int) hb (endB_else hN (by omega) _)
    refine ⟨kind, e, [], (tokAt ts ((3 * i : Nat) : Int)).at_, ?_⟩
    show Ps.statement ts P _ _ = _
    rw [h, show n - i = 1 by omega]
  | succ m ih =>
    intro i hi f hf
    obtain ⟨g, rfl⟩ : ∃ g, f = g + 2 := ⟨f - 2, by omega⟩
    obtain ⟨kd, e1, b1, at1, h1⟩ := ih (i + 1) (by omega) g (by omega)
    have hen : (Pe.enter ts ⟨⟨((3 * i + 2 : Nat) : Int), 0, 0⟩, (i : Int)⟩ [123]).2 = ⟨⟨((3 * (i + 1) : Nat) : Int), 0, 0⟩, ((i + 1 : Nat) : Int)⟩ := by
      obtain ⟨o1, o2, -⟩ := hN.op i (by omega)
      rw [Pe.enter_live (sees_sg ⟨o1, o2⟩) (by dsimp only; omega)]
      unfold Pe.next
      rw [inc_n _ (by omega), inc_n _ (by omega), show 3 * i + 2 + 1 = 3 * (i + 1) by omega]
    obtain ⟨k1, k2⟩ := hN.kw (i + 1) (by omega)
    have hb : ∃ b, (Ps.run ts P (g + 1)).2 ⟨⟨((3 * i + 2 : Nat) : Int), 0, 0⟩, (i : Int)⟩ = some (b, endB n (n - i) (i : Int)) := by
      show ∃ b, Ps.block ts _ g _ = _
      unfold Ps.block
      rw [hen]
      obtain ⟨g2, hg2⟩ : ∃ k, g = k + 2 := ⟨g - 2, by omega⟩
      rw [show Ps.stLoop ts (Ps.run ts P g).1 g [] ⟨⟨((3 * (i + 1) : Nat) : Int), 0, 0⟩, ((i + 1 : Nat) : Int)⟩ = Ps.stLoop ts (Ps.run ts P g).1 (g2 + 2) [] ⟨⟨((3 * (i + 1) : Nat) : Int), 0, 0⟩, ((i + 1 : Nat) : Int)⟩ by rw [hg2]]
      have hkd : ¬ (Pe.peek ts ⟨((3 * (i + 1) : Nat) : Int), 0, 0⟩).kind = 0 := by
        rw [Pe.peek, if_pos rfl, k1]; decide
      rw [Ps.stLoop, sees_kd (by rw [k1]; decide), if_neg (by decide), if_neg hkd, h1]
      dsimp only
      rw [Ps.stLoop, show Pe.sees ts (endB n (n - (i + 1)) ((i + 1 : Nat) : Int)).c 4 [125] = true from sees_sg (hN.cl (n - (i + 1)) (by omega)), if_pos rfl]
      dsimp only
      rw [leave_end hN (by omega) (by omega) (by omega), show n - (i + 1) + 1 = n - i by omega]
      exact ⟨_, rfl⟩
    obtain ⟨b, hb⟩ := hb
    obtain ⟨kind, e, h⟩ := outer hP hN (by omega) (show i < n by omega) (i : Int) hb (endB_else hN (by omega) _)
    exact ⟨kind, e, b, (tokAt ts ((3 * i : Nat) : Int)).at_, h⟩

theorem nest_over {ts : List RT} {P : Ps.PX} (hP : IsP ts P) {l : Bool} {a n : Nat} (hN : NestB ts l a n) (hn : n ≤ 60) (h50 : 50 < n) : ∀ (m i : Nat), i + m = 50 → ∀ f, 3 * m + 4 ≤ f →
    ∃ x s2, (Ps.run ts P f).1 ⟨⟨((3 * i : Nat) : Int), 0, 0⟩, (i : Int)⟩ = some (x, s2) ∧ s2.c.E = 4 ∧ s2.c.F = ((a * 51 - 1 : Nat) : Int) := by
  have stop : ∀ (recS : St → Ps.Out) (g : Nat) (b : List Sm) (s : St), s.c.E ≠ 0 → Ps.stLoop ts recS (g + 1) b s = some (b, s) := fun recS g b s h => by
    rw [Ps.stLoop, sees_dd (by decide) h, if_neg (by decide), Pe.peek_dead h, if_pos (show RT.none.kind = 0 from rfl)]
  intro m
  induction m with
  | zero =>
    intro i hi f hf
    obtain rfl : i = 50 := by omega
    obtain ⟨g, rfl⟩ : ∃ g, f = g + 3 := ⟨f - 3, by omega⟩
    obtain ⟨o1, o2, o3⟩ := hN.op 50 (by omega)
    have hen := Pe.enter_over (ts := ts) (s := ⟨⟨((3 * 50 + 2 : Nat) : Int), 0, 0⟩, ((50 : Nat) : Int)⟩) (sees_sg ⟨o1, o2⟩) rfl rfl
    dsimp only at hen
    rw [o3] at hen
    have hd : ((Pe.enter ts ⟨⟨((3 * 50 + 2 : Nat) : Int), 0, 0⟩, ((50 : Nat) : Int)⟩ [123]).2).c.E ≠ 0 := by rw [hen]; exact (show (4 : Int) ≠ 0 by decide)
    have hb : (Ps.run ts P (g + 2)).2 ⟨⟨((3 * 50 + 2 : Nat) : Int), 0, 0⟩, ((50 : Nat) : Int)⟩ = some ([], Pe.leave ts (Pe.enter ts ⟨⟨((3 * 50 + 2 : Nat) : Int), 0, 0⟩, ((50 : Nat) : Int)⟩ [123]).2 [125]) := by
      show Ps.block ts _ (g + 1) _ = _
      unfold Ps.block
      rw [stop _ _ _ _ hd]
    obtain ⟨l1, l2⟩ := Pe.leave_dead (ts := ts) hd [125]
    obtain ⟨kind, e, h⟩ := outer hP hN (by omega) (show 50 < n by omega) ((50 : Nat) : Int) hb (sees_dd (by decide) (by rw [l1]; exact hd))
    refine ⟨_, _, h, ?_, ?_⟩
    · rw [l1, hen]
    · rw [l2, hen]
  | succ m ih =>
    intro i hi f hf
    obtain ⟨g, rfl⟩ : ∃ g, f = g + 2 := ⟨f - 2, by omega⟩
    obtain ⟨x1, s1, h1, e1, f1⟩ := ih (i + 1) (by omega) g (by omega)
    have hd : s1.c.E ≠ 0 := by rw [e1]; decide
    have hen : (Pe.enter ts ⟨⟨((3 * i + 2 : Nat) : Int), 0, 0⟩, (i : Int)⟩ [123]).2 = ⟨⟨((3 * (i + 1) : Nat) : Int), 0, 0⟩, ((i + 1 : Nat) : Int)⟩ := by
      obtain ⟨o1, o2, -⟩ := hN.op i (by omega)
      rw [Pe.enter_live (sees_sg ⟨o1, o2⟩) (by dsimp only; omega)]
      unfold Pe.next
      rw [inc_n _ (by omega), inc_n _ (by omega), show 3 * i + 2 + 1 = 3 * (i + 1) by omega]
    obtain ⟨k1, k2⟩ := hN.kw (i + 1) (by omega)
    have hb : ∃ b, (Ps.run ts P (g + 1)).2 ⟨⟨((3 * i + 2 : Nat) : Int), 0, 0⟩, (i : Int)⟩ = some (b, Pe.leave ts s1 [125]) := by
      show ∃ b, Ps.block ts _ g _ = _
      unfold Ps.block
      rw [hen]
      obtain ⟨g2, hg2⟩ : ∃ k, g = k + 2 := ⟨g - 2, by omega⟩
      rw [show Ps.stLoop ts (Ps.run ts P g).1 g [] ⟨⟨((3 * (i + 1) : Nat) : Int), 0, 0⟩, ((i + 1 : Nat) : Int)⟩ = Ps.stLoop ts (Ps.run ts P g).1 (g2 + 2) [] ⟨⟨((3 * (i + 1) : Nat) : Int), 0, 0⟩, ((i + 1 : Nat) : Int)⟩ by rw [hg2]]
      have hkd : ¬ (Pe.peek ts ⟨((3 * (i + 1) : Nat) : Int), 0, 0⟩).kind = 0 := by
        rw [Pe.peek, if_pos rfl, k1]; decide
      rw [Ps.stLoop, sees_kd (by rw [k1]; decide), if_neg (by decide), if_neg hkd, h1]
      dsimp only
      rw [stop _ _ _ _ hd]
      exact ⟨_, rfl⟩
    obtain ⟨b, hb⟩ := hb
    obtain ⟨l1, l2⟩ := Pe.leave_dead (ts := ts) hd [125]
    obtain ⟨kind, e, h⟩ := outer hP hN (by omega) (show i < n by omega) (i : Int) hb (sees_dd (by decide) (by rw [l1]; exact hd))
    exact ⟨_, _, h, l1.trans e1, l2.trans f1⟩

/-- So many blocks in each other that none is too many: the one statement, and the place behind it. -/
theorem deep_ok {ts : List RT} {P : Ps.PX} (hP : IsP ts P) {l : Bool} {a n : Nat} (hN : NestB ts l a n) (h0 : 0 < n) (hn : n ≤ 50) (hts : 4 * n ≤ ts.length) :
    ∃ kind e b at_, Ps.parse ts P (enough ts) 0 0 = some (Sm.mk kind [] [] 0 [e] b [] at_ 0, ((4 * n : Nat) : Int), 0, 0) := by
  obtain ⟨kind, e, b, at_, h⟩ := nest_ok hP hN hn (n - 1) 0 (by omega) (enough ts) (by unfold enough; omega)
  refine ⟨kind, e, b, at_, ?_⟩
  unfold Ps.parse
  rw [show (⟨⟨0, 0, 0⟩, Pe.clamp 0⟩ : St) = ⟨⟨((3 * 0 : Nat) : Int), 0, 0⟩, ((0 : Nat) : Int)⟩ from rfl, h]
  show some (Ps.stEnd _ (endB n (n - 0) ((0 : Nat) : Int)).c) = _
  unfold Ps.stEnd endB
  rw [if_pos rfl]
  dsimp only
  rw [show 3 * n + (n - 0) = 4 * n by omega]
/-- More of them: the first that is too many is refused. -/
theorem deep_over {ts : List RT} {P : Ps.PX} (hP : IsP ts P) {l : Bool} {a n : Nat} (hN : NestB ts l a n) (h50 : 50 < n) (hn : n ≤ 60) (hts : 4 * n ≤ ts.length) :
    Ps.parse ts P (enough ts) 0 0 = some (Sm.zero, 0, 4, ((a * 51 - 1 : Nat) : Int)) := by
  obtain ⟨x, s2, h, hE, hF⟩ := nest_over hP hN hn h50 50 0 (by omega) (enough ts) (by unfold enough; omega)
  unfold Ps.parse
  rw [show (⟨⟨0, 0, 0⟩, Pe.clamp 0⟩ : St) = ⟨⟨((3 * 0 : Nat) : Int), 0, 0⟩, ((0 : Nat) : Int)⟩ from rfl, h]
  show some (Ps.stEnd x s2.c) = _
  unfold Ps.stEnd
  rw [if_neg (by rw [hE]; decide), hE, hF]
end Sim
end Go.Proofs.YtnnbdidefgghjaaDoor
namespace Go.Proofs.YtnnbdidefgghjaaDoor
open Go.RowKit
open Px (RT tokAt)
open Pe

def aL (l : Bool) : Nat := if l then 9 else 6
def bdK (l : Bool) : List UInt8 := if l then [119, 104, 105, 108, 101, 32, 98, 32, 123] else [105, 102, 32, 98, 32, 123]
def bdS (l : Bool) (n : Nat) : List UInt8 := (List.replicate n (bdK l)).flatten
def bdE (n : Nat) : List UInt8 := List.replicate n 125
def bdT (l : Bool) (n : Nat) : List UInt8 := bdS l n ++ bdE n
def heads (l : Bool) : Nat → Nat → List Ln.Lx.Tk → List Ln.Lx.Tk
  | 0, _, r => r
  | n + 1, k, r => ⟨3, Sim.kwW l, 0, k⟩ :: ⟨1, [98], 0, k + (aL l - 3)⟩ :: ⟨4, [123], 0, k + (aL l - 1)⟩ :: heads l n (k + aL l) r
def tails : Nat → Nat → List Ln.Lx.Tk → List Ln.Lx.Tk
  | 0, _, r => r
  | n + 1, k, r => ⟨4, [125], 0, k⟩ :: tails n (k + 1) r
/-- Its tokens. -/
def bdX (l : Bool) (n : Nat) : List Ln.Lx.Tk := heads l n 0 (tails n (aL l * n) [⟨0, [], 0, aL l * n + n⟩])
def bdChk (l : Bool) (n : Nat) : Bool :=
  match Ln.Lx.toks (bdT l n) with
  | (us, e, k) => tkEqL us (bdX l n) && e.beq 0 && k.beq 0
theorem bd_of {l : Bool} {n : Nat} (h : bdChk l n = true) : Ln.Lx.toks (bdT l n) = (bdX l n, 0, 0) := by
  unfold bdChk at h
  generalize Ln.Lx.toks (bdT l n) = x at h ⊢
  obtain ⟨us, e, k⟩ := x
  simp only [Bool.and_eq_true] at h
  obtain ⟨⟨h1, h2⟩, h3⟩ := h
  rw [tkEqL_eq h1, Nat.eq_of_beq_eq_true h2, Nat.eq_of_beq_eq_true h3]
set_option maxRecDepth 100000 in
theorem bd_false_0 : ((List.range 31).all fun n => bdChk false (n + 0)) = true := by kernel_rfl
set_option maxRecDepth 100000 in
theorem bd_false_31 : ((List.range 15).all fun n => bdChk false (n + 31)) = true := by kernel_rfl
set_option maxRecDepth 100000 in
theorem bd_false_46 : ((List.range 15).all fun n => bdChk false (n + 46)) = true := by kernel_rfl
set_option maxRecDepth 100000 in
theorem bd_true_0 : ((List.range 31).all fun n => bdChk true (n + 0)) = true := by kernel_rfl
set_option maxRecDepth 100000 in
theorem bd_true_31 : ((List.range 15).all fun n => bdChk true (n + 31)) = true := by kernel_rfl
set_option maxRecDepth 100000 in
theorem bd_true_46 : ((List.range 15).all fun n => bdChk true (n + 46)) = true := by kernel_rfl
theorem bd_some {l : Bool} {a m : Nat} (h : ((List.range m).all fun n => bdChk l (n + a)) = true) {n : Nat} (h1 : a ≤ n) (h2 : n < a + m) : bdChk l n = true := by
  have := List.all_eq_true.1 h (n - a) (List.mem_range.2 (by omega))
  rwa [show n - a + a = n by omega] at this
theorem bd_at {l : Bool} {n : Nat} (hn : n ≤ 60) : Ln.Lx.toks (bdT l n) = (bdX l n, 0, 0) := by
  refine bd_of ?_
  match l with
  | false =>
    rcases Nat.lt_or_ge n 31 with h | h
    · exact bd_some bd_false_0 (Nat.zero_le _) (by omega)
    · rcases Nat.lt_or_ge n 46 with h2 | h2
      · exact bd_some bd_false_31 h (by omega)
      · exact bd_some bd_false_46 h2 (by omega)
  | true =>
    rcases Nat.lt_or_ge n 31 with h | h
    · exact bd_some bd_true_0 (Nat.zero_le _) (by omega)
    · rcases Nat.lt_or_ge n 46 with h2 | h2
      · exact bd_some bd_true_31 h (by omega)
      · exact bd_some bd_true_46 h2 (by omega)

theorem heads_at (l : Bool) (r : List Ln.Lx.Tk) : ∀ (n k i : Nat), i < n → (heads l n k r)[3 * i]? = some ⟨3, Sim.kwW l, 0, k + aL l * i⟩ ∧ (heads l n k r)[3 * i + 1]? = some ⟨1, [98], 0, k + aL l * i + (aL l - 3)⟩ ∧ (heads l n k r)[3 * i + 2]? = some ⟨4, [123], 0, k + aL l * i + (aL l - 1)⟩
  | 0, _, _, h => absurd h (Nat.not_lt_zero _)
  | n + 1, k, 0, _ => by rw [heads]; exact ⟨rfl, rfl, rfl⟩
  | n + 1, k, i + 1, h => by
    obtain ⟨h1, h2, h3⟩ := heads_at l r n (k + aL l) i (by omega)
    have e : k + aL l + aL l * i = k + aL l * (i + 1) := by rw [Nat.mul_succ]; omega
    rw [e] at h1 h2 h3
    rw [heads, show 3 * (i + 1) = 3 * i + 1 + 1 + 1 by omega]
    exact ⟨h1, h2, h3⟩
theorem heads_rest (l : Bool) (r : List Ln.Lx.Tk) : ∀ (n k j : Nat), (heads l n k r)[3 * n + j]? = r[j]?
  | 0, _, j => by rw [heads, Nat.mul_zero, Nat.zero_add]
  | n + 1, k, j => by
    rw [heads, show 3 * (n + 1) + j = (3 * n + j) + 1 + 1 + 1 by omega]
    exact heads_rest l r n (k + aL l) j
theorem tails_at (r : List Ln.Lx.Tk) : ∀ (m k j : Nat), j < m → (tails m k r)[j]? = some ⟨4, [125], 0, k + j⟩
  | 0, _, _, h => absurd h (Nat.not_lt_zero _)
  | m + 1, k, 0, _ => by rw [tails]; rfl
  | m + 1, k, j + 1, h => by
    rw [tails, List.getElem?_cons_succ, tails_at r m (k + 1) j (by omega), show k + 1 + j = k + (j + 1) by omega]
theorem tails_rest (r : List Ln.Lx.Tk) : ∀ (m k : Nat), (tails m k r)[m]? = r[0]?
  | 0, _ => by rw [tails]
  | m + 1, k => by rw [tails, List.getElem?_cons_succ, tails_rest r m (k + 1)]
theorem aL_pos (l : Bool) : 6 ≤ aL l ∧ aL l ≤ 9 := by cases l <;> decide
theorem bd_nest {l : Bool} {n : Nat} : Sim.NestB ((bdX l n).map toRT) l (aL l) n where
  kw := fun i hi => by
    rw [tok_at (us := bdX l n) (heads_at l _ n 0 i hi).1]
    exact ⟨rfl, rfl⟩
  nm := fun i hi => by
    rw [tok_at (us := bdX l n) (heads_at l _ n 0 i hi).2.1]
    rfl
  op := fun i hi => by
    rw [tok_at (us := bdX l n) (heads_at l _ n 0 i hi).2.2]
    refine ⟨rfl, rfl, ?_⟩
    show ((0 + aL l * i + (aL l - 1) : Nat) : Int) = _
    have := aL_pos l
    rw [Nat.mul_succ]
    congr 1
    omega
  cl := fun j hj => by
    have ht := heads_rest l (tails n (aL l * n) [⟨0, [], 0, aL l * n + n⟩]) n 0 j
    rw [tails_at _ _ _ _ hj] at ht
    rw [tok_at (us := bdX l n) ht]
    exact ⟨rfl, rfl⟩
  en := by
    have ht := heads_rest l (tails n (aL l * n) [⟨0, [], 0, aL l * n + n⟩]) n 0 n
    rw [tails_rest] at ht
    have := tok_at (us := bdX l n) (t := ⟨0, [], 0, aL l * n + n⟩) ht
    rw [show 3 * n + n = 4 * n by omega] at this
    rw [this]; rfl
theorem bd_len (l : Bool) (n : Nat) : (bdX l n).length = 4 * n + 1 := by
  have h1 : ∀ (m k : Nat) (r : List Ln.Lx.Tk), (tails m k r).length = m + r.length := by
    intro m
    induction m with
    | zero => intro k r; simp [tails]
    | succ m ih => intro k r; simp [tails, ih]; omega
  have h2 : ∀ (m k : Nat) (r : List Ln.Lx.Tk), (heads l m k r).length = 3 * m + r.length := by
    intro m
    induction m with
    | zero => intro k r; simp [heads]
    | succ m ih => intro k r; simp [heads, ih]; omega
  unfold bdX
  rw [h2, h1, List.length_singleton]
  omega
theorem bd_short {l : Bool} {n : Nat} : ∀ t ∈ bdX l n, t.text.length ≤ 281474976710656 := by
  have hk : (Sim.kwW l).length ≤ 281474976710656 := by cases l <;> decide
  have h1 : ∀ (m k : Nat) (r : List Ln.Lx.Tk), (∀ t ∈ r, t.text.length ≤ 281474976710656) → ∀ t ∈ tails m k r, t.text.length ≤ 281474976710656 := by
    intro m
    induction m with
    | zero => intro k r hr; rw [tails]; exact hr
    | succ m ih =>
      intro k r hr t ht
      rw [tails, List.mem_cons] at ht
      rcases ht with rfl | ht
      · show [125].length ≤ _; decide
      · exact ih _ _ hr t ht
  have h2 : ∀ (m k : Nat) (r : List Ln.Lx.Tk), (∀ t ∈ r, t.text.length ≤ 281474976710656) → ∀ t ∈ heads l m k r, t.text.length ≤ 281474976710656 := by
    intro m
    induction m with
    | zero => intro k r hr; rw [heads]; exact hr
    | succ m ih =>
      intro k r hr t ht
      rw [heads, List.mem_cons, List.mem_cons, List.mem_cons] at ht
      rcases ht with rfl | rfl | rfl | ht
      · exact hk
      · show [98].length ≤ _; decide
      · show [123].length ≤ _; decide
      · exact ih _ _ hr t ht
  unfold bdX
  refine h2 _ _ _ (h1 _ _ _ fun t ht => ?_)
  rw [List.mem_singleton] at ht
  subst ht
  exact Nat.zero_le _
theorem cbs_app (a b : List UInt8) : cbs a ++ cbs b = cbs (a ++ b) := by
  apply ByteArray.ext
  simp [cbs]
theorem bdS_succ (l : Bool) (n : Nat) : cbs (bdS l n) ++ cbs (bdK l) = cbs (bdS l (n + 1)) := by
  rw [cbs_app, bdS, bdS, List.replicate_succ', List.flatten_append]; simp
theorem bdE_succ (n : Nat) : cbs (bdE n) ++ cbs [125] = cbs (bdE (n + 1)) := by
  rw [cbs_app, bdE, bdE, List.replicate_succ']
theorem bdS_len (l : Bool) (n : Nat) : (bdS l n).length ≤ 9 * n := by
  have h : (bdK l).length ≤ 9 := by cases l <;> decide
  induction n with
  | zero => simp [bdS]
  | succ n ih => rw [bdS, List.replicate_succ, List.flatten_cons, List.length_append]; rw [bdS] at ih; omega
theorem bdE_len (n : Nat) : (bdE n).length = n := by simp [bdE]
end Go.Proofs.YtnnbdidefgghjaaDoor
namespace Go.Proofs.YtnnbdidefgghjaaDoor
open Go.RowKit
open Px (RT tokAt)
open Pe
open Ps (Sm PX)

theorem cat4 (a b : ByteArray) (h : a.size + b.size ≤ 9223372036854775807) (w' : World) : (binOp .add 9 (.string a) (.string b)).run Tryd.prog w' = .ok (.string (a ++ b)) w' := by
  simp [go_sem, h]
theorem stoodF4 : Tryd.prog.stoodInHeld 25 = false := by kernel_rfl
set_option maxHeartbeats 1000000 in
theorem eq_f4 (a b c d : Int) (w : World) : (binOp .eql 25 (.agg #[.int .i64 a, .int .i64 b]) (.agg #[.int .i64 c, .int .i64 d])).run Tryd.prog w = .ok (.bool (a == c && b == d)) w := by
  rw [run_eql_struct, run_equalIn_agg w 9999 _ _ _ (by kernel_rfl) stoodF4]
  simp [go_sem]
  split <;> (try split) <;> simp_all
theorem bd_join (l : Bool) (n : Nat) : cbs (bdS l n) ++ cbs (bdE n) = cbs (bdT l n) := cbs_app _ _

set_option maxRecDepth 8000 in
set_option maxHeartbeats 8000000 in
theorem deep4_false_ok (w : World) (n : Nat) (h0 : 0 < n) (hn : n ≤ 50) (hops : OpsIn w) :
    Calls Tryd.prog 3 #[.int .i64 (n : Int), .bool false] w fun e w' => e = .returned (.bool true) ∧ Below w.heap.size w w' := by
  have hd1 : decide ((n : Int) < 1) = false := decide_eq_false (by omega)
  have hd2 : decide ((60 : Int) < (n : Int)) = false := decide_eq_false (by omega)
  have hd2' : decide (60 < n) = false := decide_eq_false (by omega)
  have HOP := Lib.hid hops
  clear hops
  go_enter Tryd.func3, Tryd.ntmps3
  go_wp2_with fail
  go_loopw [6, 7, 8] (fun s t i wr => ∃ j : Nat, j ≤ n ∧ i = .int .i64 j ∧ s = .string (cbs (bdS false j)) ∧ t = .string (cbs (bdE j)) ∧ w = wr) (fun _ _ i _ => n - (intOf i).toNat)
  case atStart => exact ⟨0, Nat.zero_le _, rfl, rfl, rfl, rfl⟩
  case round =>
    obtain ⟨j, hj, rfl, rfl, rfl, rfl⟩ := hrel
    have z1 := bdS_len false j
    have z2 := bdE_len j
    by_cases hlt : j < n
    · have b1 : ∀ w', (Op.stringOp .add (cbs (bdS false j)) ⟨#[105, 102, 32, 98, 32, 123]⟩).run Tryd.prog w' = .ok (.string (cbs (bdS false (j + 1)))) w' := fun w' => by rw [← bdS_succ]; exact cat4 _ _ (by rw [cbs_size]; show _ + 6 ≤ _; omega) w'
      have b2 : ∀ w', (Op.stringOp .add (cbs (bdE j)) ⟨#[125]⟩).run Tryd.prog w' = .ok (.string (cbs (bdE (j + 1)))) w' := fun w' => by rw [← bdE_succ]; exact cat4 _ _ (by rw [cbs_size]; show _ + 1 ≤ _; omega) w'
      have hji : (j : Int) < (n : Int) := by omega
      go_wp2_with fail
      refine ⟨⟨j + 1, by omega, by go_num, by trivial, by trivial, by trivial⟩, ?_⟩
      simp [intOf]
      omega
    · obtain rfl : j = n := by omega
      have hji : ¬ (j : Int) < (j : Int) := by omega
      have b3 : ∀ w', (Op.stringOp .add (cbs (bdS false j)) (cbs (bdE j))).run Tryd.prog w' = .ok (.string (cbs (bdT false j))) w' := fun w' => by rw [← bd_join]; exact cat4 _ _ (by rw [cbs_size, cbs_size]; omega) w'
      have hsz : (cbs (bdT false j)).size ≤ maxLen := by
        rw [cbs_size, bdT, List.length_append]
        unfold maxLen
        omega
      have hX := bd_at (l := false) (n := j) (by omega)
      obtain ⟨m, hm⟩ : ∃ m, m = 4 * j := ⟨_, rfl⟩
      have hlen : (bdX false j).length = m + 1 := by rw [hm]; exact bd_len false j
      have htk := tokens_are (cbs (bdT false j)) hsz (bdX false j) 0 0 (by rw [show (cbs (bdT false j)).data.toList = bdT false j by simp [cbs]]; exact hX) w
      rw [hlen] at htk
      have HTK := Lib.hid htk
      have HLEN := Lib.hid hlen
      have HM := Lib.hid hm
      have hjm : j ≤ 60 := by omega
      have hleI : decide ((j : Int) ≤ 50) = true := decide_eq_true (by omega)
      clear hX z1 z2 hsz hlen hm htk
      go_wp2_with fail
      refine (HTK.out).mono ?_
      rintro e w1 ⟨TA, tc, rfl, hl1, hb1⟩
      have hbf : Below w1.heap.size w1 (w1.alloc (.cells #[.int .i64 0, .int .i64 0] 25)) := (Below.refl _ _).alloc (Nat.le_refl _) _
      have ht := (toks_of (c := tc) hl1 bd_short).below hbf
      rw [HLEN.out] at ht
      have HT := Lib.hid ht
      have HB1 := Lib.hid (below_seq hb1 hbf hb1.size)
      clear ht hl1 hb1 hbf HTK
      go_wp2_with fail
      have hll : ((bdX false j).map toRT).length = m + 1 := by rw [List.length_map, HLEN.out]
      have hP := isP_of (ts := (bdX false j).map toRT) (by rw [hll]; have := HM.out; omega)
      have hpok := pok_of (ts := (bdX false j).map toRT) (by rw [hll]; have := HM.out; omega) hP
      have hen : Sim.enough ((bdX false j).map toRT) ≤ 1000000000 := by unfold Sim.enough; rw [hll]; have := HM.out; omega
      obtain ⟨kd, ex, bs, at0, hx⟩ := Sim.deep_ok hP bd_nest h0 hn (by rw [hll]; have := HM.out; omega)
      rw [← HM.out] at hx
      refine (stParse_any _ _ _ _ _ hpok 0 0 HT.out (by obtain ⟨gt, gfr, hg⟩ := HOP.out; exact ⟨gt, gfr, (HB1.out.block _ (heap_lt' hg)).trans hg⟩) _ hen _ hx).mono ?_
      rintro e w3 ⟨sk, sn, so, sd, sep, sel, sec, sbp, sbl, sbc, slp, sll, slc, sa, sr, rfl, hs, hb3⟩
      obtain ⟨p3, c3, q3, d3, r3, f3, hv, -⟩ := hs.parts
      obtain ⟨-, -, -, -, hv1, -⟩ := smCells_inj hv
      simp only [List.length_cons, List.length_nil, Value.slice.injEq] at hv1
      obtain ⟨rfl, rfl, rfl⟩ := hv1
      clear hv
      have HB3 := Lib.hid (below_seq HB1.out hb3 HB1.out.size)
      clear hs hb3 hx hpok hP hen hll HT
      dsimp only
      have hw1 : IntKind.i64.wrap ((m : Int)) = m := IntWalk.i64_in _ (by have := HM.out; omega)
      have hw2 : IntKind.i64.wrap ((m : Int) + 1 - 1) = m := by rw [show (m : Int) + 1 - 1 = m by omega]; exact hw1
      have hw3 : wrap64 ((m : Int) + 1 - 1) = m := by have := HM.out; simp [wrap64]; omega
      have hw4 : wrap64 ((m : Int)) = m := by have := HM.out; simp [wrap64]; omega

      go_wp2_with fail
      refine (known4_any _ (by obtain ⟨gt, gfr, hg⟩ := HOP.out; exact ⟨gt, gfr, (((Below.refl w3.heap.size w3).alloc (Nat.le_refl _) _).alloc (by rw [size_alloc]; omega) _ |>.block _ (by have := HB3.out.size; have := heap_lt' hg; omega)).trans ((HB3.out.block _ (heap_lt' hg)).trans hg)⟩)).mono ?_
      rintro e w4 ⟨rfl, hb4⟩
      go_wp2_with fail
      go_ret
      exact ⟨rfl, below_seq ((HB3.out.alloc HB3.out.size _).alloc (by rw [size_alloc]; have := HB3.out.size; omega) _) hb4 (by rw [size_alloc, size_alloc]; have := HB3.out.size; omega)⟩

set_option maxRecDepth 8000 in
set_option maxHeartbeats 8000000 in
theorem deep4_false_over (w : World) (n : Nat) (h50 : 50 < n) (hn : n ≤ 60) (hops : OpsIn w) :
    Calls Tryd.prog 3 #[.int .i64 (n : Int), .bool false] w fun e w' => e = .returned (.bool true) ∧ Below w.heap.size w w' := by
  have hd1 : decide ((n : Int) < 1) = false := decide_eq_false (by omega)
  have hd2 : decide ((60 : Int) < (n : Int)) = false := decide_eq_false (by omega)
  have hd2' : decide (60 < n) = false := decide_eq_false (by omega)
  have HOP := Lib.hid hops
  clear hops
  go_enter Tryd.func3, Tryd.ntmps3
  go_wp2_with fail
  go_loopw [6, 7, 8] (fun s t i wr => ∃ j : Nat, j ≤ n ∧ i = .int .i64 j ∧ s = .string (cbs (bdS false j)) ∧ t = .string (cbs (bdE j)) ∧ w = wr) (fun _ _ i _ => n - (intOf i).toNat)
  case atStart => exact ⟨0, Nat.zero_le _, rfl, rfl, rfl, rfl⟩
  case round =>
    obtain ⟨j, hj, rfl, rfl, rfl, rfl⟩ := hrel
    have z1 := bdS_len false j
    have z2 := bdE_len j
    by_cases hlt : j < n
    · have b1 : ∀ w', (Op.stringOp .add (cbs (bdS false j)) ⟨#[105, 102, 32, 98, 32, 123]⟩).run Tryd.prog w' = .ok (.string (cbs (bdS false (j + 1)))) w' := fun w' => by rw [← bdS_succ]; exact cat4 _ _ (by rw [cbs_size]; show _ + 6 ≤ _; omega) w'
      have b2 : ∀ w', (Op.stringOp .add (cbs (bdE j)) ⟨#[125]⟩).run Tryd.prog w' = .ok (.string (cbs (bdE (j + 1)))) w' := fun w' => by rw [← bdE_succ]; exact cat4 _ _ (by rw [cbs_size]; show _ + 1 ≤ _; omega) w'
      have hji : (j : Int) < (n : Int) := by omega
      go_wp2_with fail
      refine ⟨⟨j + 1, by omega, by go_num, by trivial, by trivial, by trivial⟩, ?_⟩
      simp [intOf]
      omega
    · obtain rfl : j = n := by omega
      have hji : ¬ (j : Int) < (j : Int) := by omega
      have b3 : ∀ w', (Op.stringOp .add (cbs (bdS false j)) (cbs (bdE j))).run Tryd.prog w' = .ok (.string (cbs (bdT false j))) w' := fun w' => by rw [← bd_join]; exact cat4 _ _ (by rw [cbs_size, cbs_size]; omega) w'
      have hsz : (cbs (bdT false j)).size ≤ maxLen := by
        rw [cbs_size, bdT, List.length_append]
        unfold maxLen
        omega
      have hX := bd_at (l := false) (n := j) (by omega)
      obtain ⟨m, hm⟩ : ∃ m, m = 4 * j := ⟨_, rfl⟩
      have hlen : (bdX false j).length = m + 1 := by rw [hm]; exact bd_len false j
      have htk := tokens_are (cbs (bdT false j)) hsz (bdX false j) 0 0 (by rw [show (cbs (bdT false j)).data.toList = bdT false j by simp [cbs]]; exact hX) w
      rw [hlen] at htk
      have HTK := Lib.hid htk
      have HLEN := Lib.hid hlen
      have HM := Lib.hid hm
      have hjm : j ≤ 60 := by omega
      have hleI : decide ((j : Int) ≤ 50) = false := decide_eq_false (by omega)
      clear hX z1 z2 hsz hlen hm htk
      go_wp2_with fail
      refine (HTK.out).mono ?_
      rintro e w1 ⟨TA, tc, rfl, hl1, hb1⟩
      have hbf : Below w1.heap.size w1 (w1.alloc (.cells #[.int .i64 0, .int .i64 0] 25)) := (Below.refl _ _).alloc (Nat.le_refl _) _
      have ht := (toks_of (c := tc) hl1 bd_short).below hbf
      rw [HLEN.out] at ht
      have HT := Lib.hid ht
      have HB1 := Lib.hid (below_seq hb1 hbf hb1.size)
      clear ht hl1 hb1 hbf HTK
      go_wp2_with fail
      have hll : ((bdX false j).map toRT).length = m + 1 := by rw [List.length_map, HLEN.out]
      have hP := isP_of (ts := (bdX false j).map toRT) (by rw [hll]; have := HM.out; omega)
      have hpok := pok_of (ts := (bdX false j).map toRT) (by rw [hll]; have := HM.out; omega) hP
      have hen : Sim.enough ((bdX false j).map toRT) ≤ 1000000000 := by unfold Sim.enough; rw [hll]; have := HM.out; omega
      have hx := Sim.deep_over hP bd_nest h50 hn (by rw [hll]; have := HM.out; omega)
      rw [show (aL false * 51 - 1 : Nat) = 305 from rfl] at hx
      refine (stParse_any _ _ _ _ _ hpok 0 0 HT.out (by obtain ⟨gt, gfr, hg⟩ := HOP.out; exact ⟨gt, gfr, (HB1.out.block _ (heap_lt' hg)).trans hg⟩) _ hen _ hx).mono ?_
      rintro e w3 ⟨sk, sn, so, sd, sep, sel, sec, sbp, sbl, sbc, slp, sll, slc, sa, sr, rfl, hs, hb3⟩
      have HB3 := Lib.hid (below_seq HB1.out hb3 HB1.out.size)
      clear hs hb3 hx hpok hP hen hll HT
      dsimp only
      have hw1 : IntKind.i64.wrap ((m : Int)) = m := IntWalk.i64_in _ (by have := HM.out; omega)
      have hw2 : IntKind.i64.wrap ((m : Int) + 1 - 1) = m := by rw [show (m : Int) + 1 - 1 = m by omega]; exact hw1
      have hw3 : wrap64 ((m : Int) + 1 - 1) = m := by have := HM.out; simp [wrap64]; omega
      have hw4 : wrap64 ((m : Int)) = m := by have := HM.out; simp [wrap64]; omega
      have hq := eq_f4 4 305 4 305
      go_wp2_with fail
      refine (known4_any _ (by obtain ⟨gt, gfr, hg⟩ := HOP.out; exact ⟨gt, gfr, (((Below.refl w3.heap.size w3).alloc (Nat.le_refl _) _).alloc (by rw [size_alloc]; omega) _ |>.block _ (by have := HB3.out.size; have := heap_lt' hg; omega)).trans ((HB3.out.block _ (heap_lt' hg)).trans hg)⟩)).mono ?_
      rintro e w4 ⟨rfl, hb4⟩
      go_wp2_with fail
      go_ret
      exact ⟨rfl, below_seq ((HB3.out.alloc HB3.out.size _).alloc (by rw [size_alloc]; have := HB3.out.size; omega) _) hb4 (by rw [size_alloc, size_alloc]; have := HB3.out.size; omega)⟩

set_option maxRecDepth 8000 in
set_option maxHeartbeats 8000000 in
theorem deep4_true_ok (w : World) (n : Nat) (h0 : 0 < n) (hn : n ≤ 50) (hops : OpsIn w) :
    Calls Tryd.prog 3 #[.int .i64 (n : Int), .bool true] w fun e w' => e = .returned (.bool true) ∧ Below w.heap.size w w' := by
  have hd1 : decide ((n : Int) < 1) = false := decide_eq_false (by omega)
  have hd2 : decide ((60 : Int) < (n : Int)) = false := decide_eq_false (by omega)
  have hd2' : decide (60 < n) = false := decide_eq_false (by omega)
  have HOP := Lib.hid hops
  clear hops
  go_enter Tryd.func3, Tryd.ntmps3
  go_wp2_with fail
  go_loopw [6, 7, 8] (fun s t i wr => ∃ j : Nat, j ≤ n ∧ i = .int .i64 j ∧ s = .string (cbs (bdS true j)) ∧ t = .string (cbs (bdE j)) ∧ w = wr) (fun _ _ i _ => n - (intOf i).toNat)
  case atStart => exact ⟨0, Nat.zero_le _, rfl, rfl, rfl, rfl⟩
  case round =>
    obtain ⟨j, hj, rfl, rfl, rfl, rfl⟩ := hrel
    have z1 := bdS_len true j
    have z2 := bdE_len j
    by_cases hlt : j < n
    · have b1 : ∀ w', (Op.stringOp .add (cbs (bdS true j)) ⟨#[119, 104, 105, 108, 101, 32, 98, 32, 123]⟩).run Tryd.prog w' = .ok (.string (cbs (bdS true (j + 1)))) w' := fun w' => by rw [← bdS_succ]; exact cat4 _ _ (by rw [cbs_size]; show _ + 9 ≤ _; omega) w'
      have b2 : ∀ w', (Op.stringOp .add (cbs (bdE j)) ⟨#[125]⟩).run Tryd.prog w' = .ok (.string (cbs (bdE (j + 1)))) w' := fun w' => by rw [← bdE_succ]; exact cat4 _ _ (by rw [cbs_size]; show _ + 1 ≤ _; omega) w'
      have hji : (j : Int) < (n : Int) := by omega
      go_wp2_with fail
      refine ⟨⟨j + 1, by omega, by go_num, by trivial, by trivial, by trivial⟩, ?_⟩
      simp [intOf]
      omega
    · obtain rfl : j = n := by omega
      have hji : ¬ (j : Int) < (j : Int) := by omega
      have b3 : ∀ w', (Op.stringOp .add (cbs (bdS true j)) (cbs (bdE j))).run Tryd.prog w' = .ok (.string (cbs (bdT true j))) w' := fun w' => by rw [← bd_join]; exact cat4 _ _ (by rw [cbs_size, cbs_size]; omega) w'
      have hsz : (cbs (bdT true j)).size ≤ maxLen := by
        rw [cbs_size, bdT, List.length_append]
        unfold maxLen
        omega
      have hX := bd_at (l := true) (n := j) (by omega)
      obtain ⟨m, hm⟩ : ∃ m, m = 4 * j := ⟨_, rfl⟩
      have hlen : (bdX true j).length = m + 1 := by rw [hm]; exact bd_len true j
      have htk := tokens_are (cbs (bdT true j)) hsz (bdX true j) 0 0 (by rw [show (cbs (bdT true j)).data.toList = bdT true j by simp [cbs]]; exact hX) w
      rw [hlen] at htk
      have HTK := Lib.hid htk
      have HLEN := Lib.hid hlen
      have HM := Lib.hid hm
      have hjm : j ≤ 60 := by omega
      have hleI : decide ((j : Int) ≤ 50) = true := decide_eq_true (by omega)
      clear hX z1 z2 hsz hlen hm htk
      go_wp2_with fail
      refine (HTK.out).mono ?_
      rintro e w1 ⟨TA, tc, rfl, hl1, hb1⟩
      have hbf : Below w1.heap.size w1 (w1.alloc (.cells #[.int .i64 0, .int .i64 0] 25)) := (Below.refl _ _).alloc (Nat.le_refl _) _
      have ht := (toks_of (c := tc) hl1 bd_short).below hbf
      rw [HLEN.out] at ht
      have HT := Lib.hid ht
      have HB1 := Lib.hid (below_seq hb1 hbf hb1.size)
      clear ht hl1 hb1 hbf HTK
      go_wp2_with fail
      have hll : ((bdX true j).map toRT).length = m + 1 := by rw [List.length_map, HLEN.out]
      have hP := isP_of (ts := (bdX true j).map toRT) (by rw [hll]; have := HM.out; omega)
      have hpok := pok_of (ts := (bdX true j).map toRT) (by rw [hll]; have := HM.out; omega) hP
      have hen : Sim.enough ((bdX true j).map toRT) ≤ 1000000000 := by unfold Sim.enough; rw [hll]; have := HM.out; omega
      obtain ⟨kd, ex, bs, at0, hx⟩ := Sim.deep_ok hP bd_nest h0 hn (by rw [hll]; have := HM.out; omega)
      rw [← HM.out] at hx
      refine (stParse_any _ _ _ _ _ hpok 0 0 HT.out (by obtain ⟨gt, gfr, hg⟩ := HOP.out; exact ⟨gt, gfr, (HB1.out.block _ (heap_lt' hg)).trans hg⟩) _ hen _ hx).mono ?_
      rintro e w3 ⟨sk, sn, so, sd, sep, sel, sec, sbp, sbl, sbc, slp, sll, slc, sa, sr, rfl, hs, hb3⟩
      obtain ⟨p3, c3, q3, d3, r3, f3, hv, -⟩ := hs.parts
      obtain ⟨-, -, -, -, hv1, -⟩ := smCells_inj hv
      simp only [List.length_cons, List.length_nil, Value.slice.injEq] at hv1
      obtain ⟨rfl, rfl, rfl⟩ := hv1
      clear hv
      have HB3 := Lib.hid (below_seq HB1.out hb3 HB1.out.size)
      clear hs hb3 hx hpok hP hen hll HT
      dsimp only
      have hw1 : IntKind.i64.wrap ((m : Int)) = m := IntWalk.i64_in _ (by have := HM.out; omega)
      have hw2 : IntKind.i64.wrap ((m : Int) + 1 - 1) = m := by rw [show (m : Int) + 1 - 1 = m by omega]; exact hw1
      have hw3 : wrap64 ((m : Int) + 1 - 1) = m := by have := HM.out; simp [wrap64]; omega
      have hw4 : wrap64 ((m : Int)) = m := by have := HM.out; simp [wrap64]; omega

      go_wp2_with fail
      refine (known4_any _ (by obtain ⟨gt, gfr, hg⟩ := HOP.out; exact ⟨gt, gfr, (((Below.refl w3.heap.size w3).alloc (Nat.le_refl _) _).alloc (by rw [size_alloc]; omega) _ |>.block _ (by have := HB3.out.size; have := heap_lt' hg; omega)).trans ((HB3.out.block _ (heap_lt' hg)).trans hg)⟩)).mono ?_
      rintro e w4 ⟨rfl, hb4⟩
      go_wp2_with fail
      go_ret
      exact ⟨rfl, below_seq ((HB3.out.alloc HB3.out.size _).alloc (by rw [size_alloc]; have := HB3.out.size; omega) _) hb4 (by rw [size_alloc, size_alloc]; have := HB3.out.size; omega)⟩

set_option maxRecDepth 8000 in
set_option maxHeartbeats 8000000 in
theorem deep4_true_over (w : World) (n : Nat) (h50 : 50 < n) (hn : n ≤ 60) (hops : OpsIn w) :
    Calls Tryd.prog 3 #[.int .i64 (n : Int), .bool true] w fun e w' => e = .returned (.bool true) ∧ Below w.heap.size w w' := by
  have hd1 : decide ((n : Int) < 1) = false := decide_eq_false (by omega)
  have hd2 : decide ((60 : Int) < (n : Int)) = false := decide_eq_false (by omega)
  have hd2' : decide (60 < n) = false := decide_eq_false (by omega)
  have HOP := Lib.hid hops
  clear hops
  go_enter Tryd.func3, Tryd.ntmps3
  go_wp2_with fail
  go_loopw [6, 7, 8] (fun s t i wr => ∃ j : Nat, j ≤ n ∧ i = .int .i64 j ∧ s = .string (cbs (bdS true j)) ∧ t = .string (cbs (bdE j)) ∧ w = wr) (fun _ _ i _ => n - (intOf i).toNat)
  case atStart => exact ⟨0, Nat.zero_le _, rfl, rfl, rfl, rfl⟩
  case round =>
    obtain ⟨j, hj, rfl, rfl, rfl, rfl⟩ := hrel
    have z1 := bdS_len true j
    have z2 := bdE_len j
    by_cases hlt : j < n
    · have b1 : ∀ w', (Op.stringOp .add (cbs (bdS true j)) ⟨#[119, 104, 105, 108, 101, 32, 98, 32, 123]⟩).run Tryd.prog w' = .ok (.string (cbs (bdS true (j + 1)))) w' := fun w' => by rw [← bdS_succ]; exact cat4 _ _ (by rw [cbs_size]; show _ + 9 ≤ _; omega) w'
      have b2 : ∀ w', (Op.stringOp .add (cbs (bdE j)) ⟨#[125]⟩).run Tryd.prog w' = .ok (.string (cbs (bdE (j + 1)))) w' := fun w' => by rw [← bdE_succ]; exact cat4 _ _ (by rw [cbs_size]; show _ + 1 ≤ _; omega) w'
      have hji : (j : Int) < (n : Int) := by omega
      go_wp2_with fail
      refine ⟨⟨j + 1, by omega, by go_num, by trivial, by trivial, by trivial⟩, ?_⟩
      simp [intOf]
      omega
    · obtain rfl : j = n := by omega
      have hji : ¬ (j : Int) < (j : Int) := by omega
      have b3 : ∀ w', (Op.stringOp .add (cbs (bdS true j)) (cbs (bdE j))).run Tryd.prog w' = .ok (.string (cbs (bdT true j))) w' := fun w' => by rw [← bd_join]; exact cat4 _ _ (by rw [cbs_size, cbs_size]; omega) w'
      have hsz : (cbs (bdT true j)).size ≤ maxLen := by
        rw [cbs_size, bdT, List.length_append]
        unfold maxLen
        omega
      have hX := bd_at (l := true) (n := j) (by omega)
      obtain ⟨m, hm⟩ : ∃ m, m = 4 * j := ⟨_, rfl⟩
      have hlen : (bdX true j).length = m + 1 := by rw [hm]; exact bd_len true j
      have htk := tokens_are (cbs (bdT true j)) hsz (bdX true j) 0 0 (by rw [show (cbs (bdT true j)).data.toList = bdT true j by simp [cbs]]; exact hX) w
      rw [hlen] at htk
      have HTK := Lib.hid htk
      have HLEN := Lib.hid hlen
      have HM := Lib.hid hm
      have hjm : j ≤ 60 := by omega
      have hleI : decide ((j : Int) ≤ 50) = false := decide_eq_false (by omega)
      clear hX z1 z2 hsz hlen hm htk
      go_wp2_with fail
      refine (HTK.out).mono ?_
      rintro e w1 ⟨TA, tc, rfl, hl1, hb1⟩
      have hbf : Below w1.heap.size w1 (w1.alloc (.cells #[.int .i64 0, .int .i64 0] 25)) := (Below.refl _ _).alloc (Nat.le_refl _) _
      have ht := (toks_of (c := tc) hl1 bd_short).below hbf
      rw [HLEN.out] at ht
      have HT := Lib.hid ht
      have HB1 := Lib.hid (below_seq hb1 hbf hb1.size)
      clear ht hl1 hb1 hbf HTK
      go_wp2_with fail
      have hll : ((bdX true j).map toRT).length = m + 1 := by rw [List.length_map, HLEN.out]
      have hP := isP_of (ts := (bdX true j).map toRT) (by rw [hll]; have := HM.out; omega)
      have hpok := pok_of (ts := (bdX true j).map toRT) (by rw [hll]; have := HM.out; omega) hP
      have hen : Sim.enough ((bdX true j).map toRT) ≤ 1000000000 := by unfold Sim.enough; rw [hll]; have := HM.out; omega
      have hx := Sim.deep_over hP bd_nest h50 hn (by rw [hll]; have := HM.out; omega)
      rw [show (aL true * 51 - 1 : Nat) = 458 from rfl] at hx
      refine (stParse_any _ _ _ _ _ hpok 0 0 HT.out (by obtain ⟨gt, gfr, hg⟩ := HOP.out; exact ⟨gt, gfr, (HB1.out.block _ (heap_lt' hg)).trans hg⟩) _ hen _ hx).mono ?_
      rintro e w3 ⟨sk, sn, so, sd, sep, sel, sec, sbp, sbl, sbc, slp, sll, slc, sa, sr, rfl, hs, hb3⟩
      have HB3 := Lib.hid (below_seq HB1.out hb3 HB1.out.size)
      clear hs hb3 hx hpok hP hen hll HT
      dsimp only
      have hw1 : IntKind.i64.wrap ((m : Int)) = m := IntWalk.i64_in _ (by have := HM.out; omega)
      have hw2 : IntKind.i64.wrap ((m : Int) + 1 - 1) = m := by rw [show (m : Int) + 1 - 1 = m by omega]; exact hw1
      have hw3 : wrap64 ((m : Int) + 1 - 1) = m := by have := HM.out; simp [wrap64]; omega
      have hw4 : wrap64 ((m : Int)) = m := by have := HM.out; simp [wrap64]; omega
      have hq := eq_f4 4 458 4 458
      go_wp2_with fail
      refine (known4_any _ (by obtain ⟨gt, gfr, hg⟩ := HOP.out; exact ⟨gt, gfr, (((Below.refl w3.heap.size w3).alloc (Nat.le_refl _) _).alloc (by rw [size_alloc]; omega) _ |>.block _ (by have := HB3.out.size; have := heap_lt' hg; omega)).trans ((HB3.out.block _ (heap_lt' hg)).trans hg)⟩)).mono ?_
      rintro e w4 ⟨rfl, hb4⟩
      go_wp2_with fail
      go_ret
      exact ⟨rfl, below_seq ((HB3.out.alloc HB3.out.size _).alloc (by rw [size_alloc]; have := HB3.out.size; omega) _) hb4 (by rw [size_alloc, size_alloc]; have := HB3.out.size; omega)⟩

set_option maxHeartbeats 1000000 in
theorem stmtDeep_walk (n : Int) (l : Bool) (_ : -9223372036854775808 ≤ n ∧ n ≤ 9223372036854775807) (w : World) (he : OpsIn w) :
    Calls Tryd.prog 3 #[.int .i64 n, .bool l] w fun e w' => e = .returned (.bool true) ∧ Below w.heap.size w w' := by
  by_cases h1 : n < 1
  · clear he
    have hd1 : decide (n < 1) = true := decide_eq_true h1
    go_enter Tryd.func3, Tryd.ntmps3
    go_wp2_with fail
    go_ret
    exact ⟨rfl, Below.refl _ _⟩
  · by_cases h2 : 60 < n
    · clear he
      have hd1 : decide (n < 1) = false := decide_eq_false h1
      have hd2 : decide (60 < n) = true := decide_eq_true h2
      go_enter Tryd.func3, Tryd.ntmps3
      go_wp2_with fail
      go_ret
      exact ⟨rfl, Below.refl _ _⟩
    · obtain ⟨m, rfl⟩ : ∃ m : Nat, n = m := ⟨n.toNat, by omega⟩
      by_cases h3 : m ≤ 50
      · cases l
        · exact deep4_false_ok w m (by omega) h3 he
        · exact deep4_true_ok w m (by omega) h3 he
      · cases l
        · exact deep4_false_over w m (by omega) (by omega) he
        · exact deep4_true_over w m (by omega) (by omega) he
end Go.Proofs.YtnnbdidefgghjaaDoor
