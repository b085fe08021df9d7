/-
  Statements: whether two are alike, and that what is read fits (plain data).
-/
import Derived.Test.YtnnbdidefgghjaaDoorYe
import Derived.Test.YtnnbdidefgghjaaDoorSf
namespace Go.Proofs.YtnnbdidefgghjaaDoor
open Go.RowKit
open Px (RT tokAt)
open Pe (Ex)
open Ps (Sm)
open Qe (Q)

mutual
def sameM : Sm → Sm → Bool
  | .mk k n o d es bs ls _ r, .mk k2 n2 o2 d2 es2 bs2 ls2 _ r2 => k == k2 && n == n2 && (o == o2 && d == d2) && r == r2 && sameL es es2 && sameML bs bs2 && sameML ls ls2
def sameML : List Sm → List Sm → Bool
  | [], [] => true
  | x :: xs, y :: ys => sameM x y && sameML xs ys
  | _, _ => false
end
mutual
def fitM : Sm → Bool
  | .mk _ _ _ _ es bs ls _ _ => fitL es && decide (es.length ≤ 9000000000) && fitML bs && decide (bs.length ≤ 9000000000) && fitML ls && decide (ls.length ≤ 9000000000)
def fitML : List Sm → Bool
  | [] => true
  | x :: xs => fitM x && fitML xs
end
theorem fitML_mem : ∀ {xs : List Sm} {x : Sm}, fitML xs = true → x ∈ xs → fitM x = true
  | [], _, _, hm => by cases hm
  | y :: ys, x, h, hm => by
    rw [fitML, Bool.and_eq_true] at h
    rcases List.mem_cons.1 hm with rfl | hm
    · exact h.1
    · exact fitML_mem h.2 hm
theorem fitML_snoc : ∀ {xs : List Sm} {x : Sm}, fitML xs = true → fitM x = true → fitML (xs ++ [x]) = true
  | [], x, _, hx => by rw [List.nil_append, fitML, hx, fitML]; rfl
  | y :: ys, x, h, hx => by
    rw [fitML, Bool.and_eq_true] at h
    rw [List.cons_append, fitML, h.1, fitML_snoc h.2 hx]
    rfl
theorem sameML_len : ∀ (a b : List Sm), a.length ≠ b.length → sameML a b = false
  | [], [], h => absurd rfl h
  | [], _ :: _, _ => by rw [sameML]; all_goals simp
  | _ :: _, [], _ => by rw [sameML]; all_goals simp
  | x :: xs, y :: ys, h => by
    rw [sameML, sameML_len xs ys (by simpa using h), Bool.and_false]
theorem fit_zero : fitM Sm.zero = true := by unfold Sm.zero; rw [fitM, Sim.fit_nil, fitML]; rfl

namespace Sim
def FM (recQ : Q → Qs.Out) : Prop := ∀ q x, recQ q = some x → fitM x.1 = true
def FB (recQ : Q → Qs.OutB) : Prop := ∀ q x, recQ q = some x → fitML x.1 = true ∧ x.1.length ≤ 9000000000
def FX (r : Qs.RX) : Prop := ∀ q x, r q = some x → fitE x.1 = true
theorem fitM_of {k : Int} {n o : List UInt8} {d : Int} {es : List Ex} {bs ls : List Sm} {a r : Int} (h1 : fitL es = true) (h2 : es.length ≤ 9000000000) (h3 : fitML bs = true) (h4 : bs.length ≤ 9000000000) (h5 : fitML ls = true) (h6 : ls.length ≤ 9000000000) : fitM (.mk k n o d es bs ls a r) = true := by
  rw [fitM, h1, h3, h5]
  simp [h2, h4, h6]
theorem fitM_nil : fitML [] = true := by rw [fitML]
theorem fitM0 {k : Int} {n o : List UInt8} {d a r : Int} : fitM (.mk k n o d [] [] [] a r) = true := fitM_of fit_nil (by show 0 ≤ 9000000000; decide) fitM_nil (by show 0 ≤ 9000000000; decide) fitM_nil (by show 0 ≤ 9000000000; decide)
theorem fitM1 {k : Int} {n o : List UInt8} {d a r : Int} {e : Ex} (h : fitE e = true) : fitM (.mk k n o d [e] [] [] a r) = true := fitM_of (fit_one h) (by show 1 ≤ 9000000000; decide) fitM_nil (by show 0 ≤ 9000000000; decide) fitM_nil (by show 0 ≤ 9000000000; decide)
theorem fitM2 {k : Int} {n o : List UInt8} {d a r : Int} {e e2 : Ex} (h : fitE e = true) (h2 : fitE e2 = true) : fitM (.mk k n o d [e, e2] [] [] a r) = true := fitM_of (fit_two h h2) (by show 2 ≤ 9000000000; decide) fitM_nil (by show 0 ≤ 9000000000; decide) fitM_nil (by show 0 ≤ 9000000000; decide)

theorem fit_stmt {ts : List RT} {r : Qs.RX} (hx : FX r) {recB : Q → Qs.OutB} (hb : FB recB) : FM (Qs.stmt ts r recB) := by
  intro q x h
  unfold Qs.stmt at h
  split at h
  · unfold Qs.declared at h
    dsimp only at h
    split at h
    · split at h
      · cases h
      · rename_i e s2 he
        obtain rfl := Option.some.inj h
        exact fitM1 (hx _ _ he)
    · obtain rfl := Option.some.inj h
      exact fitM0
  · split at h
    · unfold Qs.choice at h
      split at h
      · cases h
      · rename_i e s1 he
        split at h
        · cases h
        · rename_i b s2 hb2
          obtain ⟨f1, f2⟩ := hb _ _ hb2
          split at h
          · split at h
            · cases h
            · rename_i b3 s3 hb3
              obtain ⟨f3, f4⟩ := hb _ _ hb3
              obtain rfl := Option.some.inj h
              exact fitM_of (fit_one (hx _ _ he)) (by show 1 ≤ 9000000000; decide) f1 f2 f3 f4
          · obtain rfl := Option.some.inj h
            exact fitM_of (fit_one (hx _ _ he)) (by show 1 ≤ 9000000000; decide) f1 f2 fitM_nil (by show 0 ≤ 9000000000; decide)
    · split at h
      · unfold Qs.loop at h
        split at h
        · cases h
        · rename_i e s1 he
          split at h
          · cases h
          · rename_i b s2 hb2
            obtain ⟨f1, f2⟩ := hb _ _ hb2
            obtain rfl := Option.some.inj h
            exact fitM_of (fit_one (hx _ _ he)) (by show 1 ≤ 9000000000; decide) f1 f2 fitM_nil (by show 0 ≤ 9000000000; decide)
      · split at h
        · unfold Qs.result at h
          split at h
          · obtain rfl := Option.some.inj h
            exact fitM0
          · split at h
            · cases h
            · rename_i e s2 he
              obtain rfl := Option.some.inj h
              exact fitM1 (hx _ _ he)
        · split at h
          · unfold Qs.output at h
            split at h
            · cases h
            · rename_i e s2 he
              obtain rfl := Option.some.inj h
              exact fitM1 (hx _ _ he)
          · unfold Qs.plain at h
            split at h
            · cases h
            · rename_i e s1 he
              split at h
              · unfold Qs.plainPut at h
                split at h
                · cases h
                · rename_i b s2 hb2
                  obtain rfl := Option.some.inj h
                  show fitM (if Ps.kindOf e = 4 then _ else _) = true
                  split
                  · exact fitM1 (hx _ _ hb2)
                  · exact fitM2 (hx _ _ he) (hx _ _ hb2)
              · obtain rfl := Option.some.inj h
                exact fitM1 (hx _ _ he)
theorem fit_stLoop {ts : List RT} {recS : Q → Qs.Out} (hs : FM recS) : ∀ (g : Nat) {l : List Sm} {q : Q} {x : List Sm × Q}, fitML l = true → Qs.stLoop ts recS g l q = some x → fitML x.1 = true ∧ x.1.length ≤ l.length + g
  | 0, _, _, _, _, h => by cases h
  | g + 1, l, q, x, hl, h => by
    rw [Qs.stLoop] at h
    split at h
    · split at h
      · cases h
      · rename_i y s2 hy
        obtain ⟨a, b⟩ := fit_stLoop hs g (fitML_snoc hl (hs _ _ hy)) h
        exact ⟨a, by rw [List.length_append, List.length_singleton] at b; omega⟩
    · obtain rfl := Option.some.inj h
      exact ⟨hl, by dsimp only; omega⟩
theorem fit_block {ts : List RT} {recS : Q → Qs.Out} (hs : FM recS) {g : Nat} (hg : g ≤ 9000000000) : FB (Qs.block ts recS g) := by
  intro q x h
  unfold Qs.block at h
  split at h
  · cases h
  · rename_i l s2 hl
    obtain rfl := Option.some.inj h
    obtain ⟨a, b⟩ := fit_stLoop hs g fitM_nil hl
    exact ⟨a, by dsimp only at b; rw [List.length_nil] at b; dsimp only; omega⟩
theorem fit_runs {ts : List RT} {r : Qs.RX} (hx : FX r) : ∀ f, f ≤ 9000000000 → FM (Qs.run ts r f).1 ∧ FB (Qs.run ts r f).2
  | 0, _ => ⟨fun q x h => (by cases h), fun q x h => (by cases h)⟩
  | f + 1, hf => ⟨fit_stmt hx (fit_runs hx f (by omega)).2, fit_block (fit_runs hx f (by omega)).1 (by omega)⟩
theorem fit_rx {ts : List RT} (hl : ts.length ≤ 800000000) : FX (rx ts) := fun q x h => fit_run ts (enough ts) (by unfold enough; omega) 0 q x h
theorem fit_parse {ts : List RT} (hl : ts.length ≤ 800000000) {k o : Int} {x : Sm × Int × Int × Int} (h : Qs.parse ts (rx ts) (enough ts) k o = some x) : fitM x.1 = true := by
  unfold Qs.parse at h
  split at h
  · cases h
  · rename_i y s hy
    obtain rfl := Option.some.inj h
    unfold Qs.stEnd
    split
    · exact (fit_runs (fit_rx hl) (enough ts) (by unfold enough; omega)).1 _ _ hy
    · exact fit_zero
theorem fit_parseB {ts : List RT} (hl : ts.length ≤ 800000000) {k o : Int} {x : List Sm × Int × Int × Int} (h : Qs.parseB ts (rx ts) (enough ts) k o = some x) : fitML x.1 = true ∧ x.1.length ≤ 9000000000 := by
  unfold Qs.parseB at h
  split at h
  · cases h
  · rename_i y s hy
    obtain rfl := Option.some.inj h
    unfold Qs.blEnd
    split
    · exact (fit_runs (fit_rx hl) (enough ts) (by unfold enough; omega)).2 _ _ hy
    · exact ⟨fitM_nil, by show 0 ≤ 9000000000; decide⟩
end Sim
end Go.Proofs.YtnnbdidefgghjaaDoor
