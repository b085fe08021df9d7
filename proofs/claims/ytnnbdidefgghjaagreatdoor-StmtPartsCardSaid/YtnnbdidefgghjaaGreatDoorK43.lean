/-
  An argument that reads as an expression is one, in memory; what it reads as stays while memory only grows; alike is an even relation.
  Law 4's own comparison of two lists of statements, their places too: of two that are the same it is true.
  What every law of chapter 3 asks besides: one text, read, and compared with itself.
  A token's text is no longer than the text.
  An argument that reads as a slice of tokens is one, in memory.
-/
import Derived.Test.YtnnbdidefgghjaaGreatDoorK16
import Derived.Test.YtnnbdidefgghjaaGreatDoorK39
import Derived.Test.YtnnbdidefgghjaaGreatDoorK41
import Derived.Test.YtnnbdidefgghjaaGreatDoorK42
import Derived.ChangeArms
import Derived.ChangeSame
import Derived.Deep.Slices
import Derived.Deep.RegionHeld3
import Derived.StillTailTactics
import Derived.SizedLaws
namespace Go.Proofs.YtnnbdidefgghjaaGreatDoor
open Go.RowKit Go.ChangeShapes Go.WideShapes Go.ChangeAt Go.ChangeMaps
open Px (RT tokAt)
open Pe

theorem cbs_of (s : ByteArray) : cbs s.data.toList = s := by simp [cbs]
theorem cells_one : Tryz.prog.cellsOf 3 = 1 ∧ Tryz.prog.cellsOf 9 = 1 ∧ Tryz.prog.cellsOf 35 = 2 ∧ Tryz.prog.cellsOf 71 = 3 ∧ Tryz.prog.cellsOf 36 = 1 ∧ Tryz.prog.cellsOf 73 = 11 := by
  refine ⟨?_, ?_, ?_, ?_, ?_, ?_⟩ <;> kernel_rfl

section
variable {H : Type} {enc : TypeId × Value → H} {w : World} {sp : Nat → Bool} {held : Bool}
theorem int_cell {n : Nat} {c : Value} {x : DataW H × List MemPlace} (h : DataW.trod enc Tryz.prog w 0 sp held n 3 [c] = some x) : ∃ k, c = .int .i64 k := by
  obtain ⟨k, hk, -⟩ := DataW.trod_int Tryz.underlying3 h
  exact ⟨k, (List.cons.inj hk).1⟩
end

/-! Alike is an even relation, whatever each says of where it stands. -/
mutual
theorem sameE_self : ∀ e : Ex, sameE e e = true
  | .mk k n s o d ks a b r e f => by
    rw [sameE, sameL_self ks]
    simp
theorem sameL_self : ∀ es : List Ex, sameL es es = true
  | [] => by rw [sameL]
  | e :: es => by rw [sameL, sameE_self e, sameL_self es]; rfl
end
/-- It stands elsewhere. -/
def put : Ex → Int → Ex
  | .mk k n s o d ks _ b r e f, a => .mk k n s o d ks a b r e f
end Go.Proofs.YtnnbdidefgghjaaGreatDoor
namespace Go.Proofs.YtnnbdidefgghjaaGreatDoor
open Go.RowKit
open Px (RT tokAt)
open Pe
open Ps (Sm PX)

mutual
theorem sameM_self : ∀ x : Sm, sameM x x = true
  | .mk k n o d es bs ls a r => by
    rw [sameM, sameL_self, sameML_self bs, sameML_self ls]
    simp
theorem sameML_self : ∀ xs : List Sm, sameML xs xs = true
  | [] => by rw [sameML]
  | x :: xs => by rw [sameML, sameM_self x, sameML_self xs]; rfl
end
def kidsOf : Ex → List Ex
  | .mk _ _ _ _ _ ks _ _ _ _ _ => ks
def PlOk (w : World) (ks : List Ex) : Prop := ∀ (w1 : World) (p q : Option Addr) (c d : Nat), Below w.heap.size w w1 → KidsAt w1 0 p ks → KidsAt w1 0 q ks → Calls Tryz.prog 25 #[.slice p ks.length c, .slice q ks.length d] w1 fun en w' => en = .returned (.bool true) ∧ Below w1.heap.size w1 w'

set_option maxRecDepth 8000 in
set_option maxHeartbeats 8000000 in
theorem places_step (w : World) (ks : List Ex) (p q : Option Addr) (c d : Nat) (hp : KidsAt w 0 p ks) (hq : KidsAt w 0 q ks) (hl : ks.length ≤ 9223372036854775807) (hel : ∀ e ∈ ks, PlOk w (kidsOf e)) :
    Calls Tryz.prog 25 #[.slice p ks.length c, .slice q ks.length d] w fun en w' => en = .returned (.bool true) ∧ Below w.heap.size w w' := by
  have HP := Lib.hid hp
  have HQ := Lib.hid hq
  have HEL := Lib.hid hel
  have HL := Lib.hid hl
  clear hp hq hel hl
  have hbl0 : ((ks.length : Int) != (ks.length : Int)) = false := bne_self_eq_false _
  go_enter Tryz.func25, Tryz.ntmps25
  go_wp2_with fail
  go_loopg [5] ks.length (fun m v wr => ∃ j : Nat, m + j = ks.length ∧ v = .int .i64 (j : Int) ∧ Below w.heap.size w wr)
  case atStart => exact ⟨0, rfl, rfl, Below.refl _ _⟩
  case round =>
    obtain ⟨j, hj, rfl, hb⟩ := hrel
    have HBE := Lib.hid hb
    have HJ := Lib.hid hj
    clear hb hj
    cases gk with
    | zero =>
      obtain rfl : j = ks.length := by have := HJ.out; omega
      have hd1 : decide ((ks.length : Int) < (ks.length : Int)) = false := decide_eq_false (by omega)
      go_wp2_with fail
      go_ret
      exact ⟨rfl, HBE.out⟩
    | succ m =>
      have hjl : j < ks.length := by have := HJ.out; omega
      have hd1 : decide ((j : Int) < (ks.length : Int)) = true := decide_eq_true (by omega)
      have hi1 : (j : Int) < (ks.length : Int) := by omega
      have hd2 : decide (ks.length ≤ j) = false := decide_eq_false (by omega)
      have hdw : wrap64 ((j : Int) + 1) = ((j + 1 : Nat) : Int) := by have := HL.out; simp [wrap64]; omega
      have he1 := List.getElem?_eq_getElem hjl
      have HE := Lib.hid (HEL.out _ (List.getElem_mem hjl))
      generalize ks[j] = e1 at he1 HE
      obtain ⟨bl, off, vs, rfl, hbl, hi, hc⟩ := (HP.out.below HBE.out).get he1
      obtain ⟨bl2, off2, vs2, rfl, hbl2, hi', hc2⟩ := (HQ.out.below HBE.out).get he1
      obtain ⟨ek, en, es, eo, ed, eks, ea, eb, er, ee, ef⟩ := e1
      obtain ⟨kp, kc, rfl, hkp⟩ := hi.kids
      obtain ⟨kq, kd, rfl, hkq⟩ := hi'.kids
      obtain ⟨x0, x1, x2, x3, x4, x5, x6, x7, x8, x9, xX⟩ := eleven_of hc
      obtain ⟨y0, y1, y2, y3, y4, y5, y6, y7, y8, y9, yX⟩ := eleven_of hc2
      have HE2 := Lib.hid (show ∀ w1 : World, Below wr.heap.size wr w1 → Calls Tryz.prog 25 #[.slice kp eks.length kc, .slice kq eks.length kd] w1 (fun en w' => en = .returned (.bool true) ∧ Below w1.heap.size w1 w') from fun w1 hb => HE.out w1 kp kq kc kd (below_seq HBE.out hb HBE.out.size) (hkp.below hb) (hkq.below hb))
      have hba : (ea != ea) = false := bne_self_eq_false _
      clear hc hc2 hi hi' he1 hkp hkq HE x0 x1 x2 x3 x4 x7 x8 x9 xX y0 y1 y2 y3 y4 y7 y8 y9 yX
      have HGO := Lib.hid (show ∀ w' : World, Below wr.heap.size wr w' → (w'.cell? ⟨bl, off + j * 11 + 5, none⟩ = some (.slice kp eks.length kc) ∧ w'.cell? ⟨bl, off + j * 11 + 6, none⟩ = some (.int .i64 ea) ∧ w'.cell? ⟨bl2, off2 + j * 11 + 5, none⟩ = some (.slice kq eks.length kd) ∧ w'.cell? ⟨bl2, off2 + j * 11 + 6, none⟩ = some (.int .i64 ea)) from fun w' hb => ⟨(hb.cell (p := ⟨bl, off + j * 11 + 5, none⟩) hbl).trans x5, (hb.cell (p := ⟨bl, off + j * 11 + 6, none⟩) hbl).trans x6, (hb.cell (p := ⟨bl2, off2 + j * 11 + 5, none⟩) hbl2).trans y5, (hb.cell (p := ⟨bl2, off2 + j * 11 + 6, none⟩) hbl2).trans y6⟩)
      have HB0 : Hid (Below wr.heap.size wr wr.drew) := (Below.refl _ _).drew
      have hi3 : (0 : Int) ≤ (j : Int) := by omega
      go_wp2_with fail
      go_region_held3 (fun w' => w'.cell? ⟨bl, off + j * 11 + 5, none⟩ = some (.slice kp eks.length kc) ∧ w'.cell? ⟨bl, off + j * 11 + 6, none⟩ = some (.int .i64 ea) ∧ w'.cell? ⟨bl2, off2 + j * 11 + 5, none⟩ = some (.slice kq eks.length kd) ∧ w'.cell? ⟨bl2, off2 + j * 11 + 6, none⟩ = some (.int .i64 ea)) (first | exact HGO.out _ HB0.out | exact HGO.out _ HB1.out) (first
        | (go_at_call 25; (with_reducible refine Calls.mono (HE2.out _ HB0.out) ?_); rintro en w1 ⟨rfl, hb⟩; have HB1 := Lib.hid (below_seq HB0.out hb HB0.out.size); clear hb))
      go_wp2_with fail
      go_roundg m
      case measure => omega
      case rel => exact ⟨j + 1, by have := HJ.out; omega, by first | rfl | simp [hdw], below_seq HBE.out HB1.out HBE.out.size⟩

theorem places_n : ∀ (n : Nat) (ks : List Ex), SizeOf.sizeOf ks ≤ n → fitL ks = true → ks.length ≤ 9223372036854775807 → ∀ w, PlOk w ks := by
  intro n
  induction n with
  | zero => intro ks h; cases ks <;> simp at h
  | succ n ih =>
    intro ks hs hf hl w w1 p q c d _ hp hq
    refine places_step w1 ks p q c d hp hq hl fun e he => ?_
    obtain ⟨ek, en, es, eo, ed, eks, ea, eb, er, ee, ef⟩ := e
    have h1 := List.sizeOf_lt_of_mem he
    simp only [Ex.mk.sizeOf_spec] at h1
    have h2 := fitL_mem hf he
    rw [fitE, Bool.and_eq_true] at h2
    exact ih eks (by omega) h2.2 (of_decide_eq_true h2.1) w1
theorem places_any (w : World) (ks : List Ex) (p q : Option Addr) (c d : Nat) {B B2 : Nat} (hp : KidsAt w B p ks) (hq : KidsAt w B2 q ks) (hf : fitL ks = true) (hl : ks.length ≤ 9223372036854775807) :
    Calls Tryz.prog 25 #[.slice p ks.length c, .slice q ks.length d] w fun en w' => en = .returned (.bool true) ∧ Below w.heap.size w w' :=
  places_n _ ks (Nat.le_refl _) hf hl w w p q c d (Below.refl _ _) (hp.lower (Nat.zero_le _)) (hq.lower (Nat.zero_le _))

def bodyOf : Sm → List Sm
  | .mk _ _ _ _ _ bs _ _ _ => bs
def elseOf : Sm → List Sm
  | .mk _ _ _ _ _ _ ls _ _ => ls
def AlOk (w : World) (ks : List Sm) : Prop := ∀ (w1 : World) (p q : Option Addr) (c d : Nat), Below w.heap.size w w1 → SsAt w1 0 p ks → SsAt w1 0 q ks → Calls Tryz.prog 12 #[.slice p ks.length c, .slice q ks.length d] w1 fun en w' => en = .returned (.bool true) ∧ Below w1.heap.size w1 w'

set_option maxRecDepth 8000 in
set_option maxHeartbeats 8000000 in
theorem alike_step (w : World) (ks : List Sm) (p q : Option Addr) (c d : Nat) (hp : SsAt w 0 p ks) (hq : SsAt w 0 q ks) (hl : ks.length ≤ 9223372036854775807) (hel : ∀ e ∈ ks, fitM e = true ∧ AlOk w (bodyOf e) ∧ AlOk w (elseOf e)) :
    Calls Tryz.prog 12 #[.slice p ks.length c, .slice q ks.length d] w fun en w' => en = .returned (.bool true) ∧ Below w.heap.size w w' := by
  have HP := Lib.hid hp
  have HQ := Lib.hid hq
  have HEL := Lib.hid hel
  have HL := Lib.hid hl
  clear hp hq hel hl
  have hbl0 : ((ks.length : Int) != (ks.length : Int)) = false := bne_self_eq_false _
  go_enter Tryz.func12, Tryz.ntmps12
  go_wp2_with fail
  go_loopg [5] ks.length (fun m v wr => ∃ j : Nat, m + j = ks.length ∧ v = .int .i64 (j : Int) ∧ Below w.heap.size w wr)
  case atStart => exact ⟨0, rfl, rfl, Below.refl _ _⟩
  case round =>
    obtain ⟨j, hj, rfl, hb⟩ := hrel
    have HBE := Lib.hid hb
    have HJ := Lib.hid hj
    clear hb hj
    cases gk with
    | zero =>
      obtain rfl : j = ks.length := by have := HJ.out; omega
      have hd1 : decide ((ks.length : Int) < (ks.length : Int)) = false := decide_eq_false (by omega)
      go_wp2_with fail
      go_ret
      exact ⟨rfl, HBE.out⟩
    | succ m =>
      have hjl : j < ks.length := by have := HJ.out; omega
      have hd1 : decide ((j : Int) < (ks.length : Int)) = true := decide_eq_true (by omega)
      have hi1 : (j : Int) < (ks.length : Int) := by omega
      have hd2 : decide (ks.length ≤ j) = false := decide_eq_false (by omega)
      have hdw : wrap64 ((j : Int) + 1) = ((j + 1 : Nat) : Int) := by have := HL.out; simp [wrap64]; omega
      have he1 := List.getElem?_eq_getElem hjl
      have HE := Lib.hid (HEL.out _ (List.getElem_mem hjl))
      generalize ks[j] = e1 at he1 HE
      obtain ⟨bl, off, vs, rfl, hbl, hi, hc⟩ := (HP.out.below HBE.out).get he1
      obtain ⟨bl2, off2, vs2, rfl, hbl2, hi', hc2⟩ := (HQ.out.below HBE.out).get he1
      have hsm := fun w1 (hb : Below wr.heap.size wr w1) => rssame_any w1 e1 e1 (hi.below hb) (hi'.below hb) HE.out.1
      rw [sameM_self] at hsm
      obtain ⟨ek, en, eo, ed, es, bs, ls, ea, er⟩ := e1
      obtain ⟨f1, f2, -⟩ := fitM_out HE.out.1
      obtain ⟨xep, xec, xbp, xbc, xlp, xlc, rfl, hxe, hxb, hxl⟩ := hi.parts
      obtain ⟨yep, yec, ybp, ybc, ylp, ylc, rfl, hye, hyb, hyl⟩ := hi'.parts
      obtain ⟨x0, x1, x2, x3, x4, x5, x6, x7, x8⟩ := nine_of hc
      obtain ⟨y0, y1, y2, y3, y4, y5, y6, y7, y8⟩ := nine_of hc2
      unfold smCells at hsm
      have HSM := Lib.hid hsm
      have HPL := Lib.hid (fun w1 (hb : Below wr.heap.size wr w1) => places_any w1 es xep yep xec yec (hxe.below hb) (hye.below hb) f1 (by omega))
      have HE1 := Lib.hid (show ∀ w1 : World, Below wr.heap.size wr w1 → Calls Tryz.prog 12 #[.slice xbp bs.length xbc, .slice ybp bs.length ybc] w1 (fun en w' => en = .returned (.bool true) ∧ Below w1.heap.size w1 w') from fun w1 hb => HE.out.2.1 w1 xbp ybp xbc ybc (below_seq HBE.out hb HBE.out.size) (hxb.below hb) (hyb.below hb))
      have HE2 := Lib.hid (show ∀ w1 : World, Below wr.heap.size wr w1 → Calls Tryz.prog 12 #[.slice xlp ls.length xlc, .slice ylp ls.length ylc] w1 (fun en w' => en = .returned (.bool true) ∧ Below w1.heap.size w1 w') from fun w1 hb => HE.out.2.2 w1 xlp ylp xlc ylc (below_seq HBE.out hb HBE.out.size) (hxl.below hb) (hyl.below hb))
      have hba : (ea != ea) = false := bne_self_eq_false _
      clear hc hc2 hi hi' he1 hxe hxb hxl hye hyb hyl HE hsm f1 f2
      have HGO := Lib.hid (show ∀ w' : World, Below wr.heap.size wr w' → (w'.cell? ⟨bl, off + j * 9, none⟩ = some (.int .i64 ek) ∧ w'.cell? ⟨bl, off + j * 9 + 1, none⟩ = some (.string (cbs en)) ∧ w'.cell? ⟨bl, off + j * 9 + 2, none⟩ = some (.string (cbs eo)) ∧ w'.cell? ⟨bl, off + j * 9 + 3, none⟩ = some (.int .i64 ed) ∧ w'.cell? ⟨bl, off + j * 9 + 4, none⟩ = some (.slice xep es.length xec) ∧ w'.cell? ⟨bl, off + j * 9 + 5, none⟩ = some (.slice xbp bs.length xbc) ∧ w'.cell? ⟨bl, off + j * 9 + 6, none⟩ = some (.slice xlp ls.length xlc) ∧ w'.cell? ⟨bl, off + j * 9 + 7, none⟩ = some (.int .i64 ea) ∧ w'.cell? ⟨bl, off + j * 9 + 8, none⟩ = some (.int .i64 er) ∧ w'.cell? ⟨bl2, off2 + j * 9, none⟩ = some (.int .i64 ek) ∧ w'.cell? ⟨bl2, off2 + j * 9 + 1, none⟩ = some (.string (cbs en)) ∧ w'.cell? ⟨bl2, off2 + j * 9 + 2, none⟩ = some (.string (cbs eo)) ∧ w'.cell? ⟨bl2, off2 + j * 9 + 3, none⟩ = some (.int .i64 ed) ∧ w'.cell? ⟨bl2, off2 + j * 9 + 4, none⟩ = some (.slice yep es.length yec) ∧ w'.cell? ⟨bl2, off2 + j * 9 + 5, none⟩ = some (.slice ybp bs.length ybc) ∧ w'.cell? ⟨bl2, off2 + j * 9 + 6, none⟩ = some (.slice ylp ls.length ylc) ∧ w'.cell? ⟨bl2, off2 + j * 9 + 7, none⟩ = some (.int .i64 ea) ∧ w'.cell? ⟨bl2, off2 + j * 9 + 8, none⟩ = some (.int .i64 er)) from fun w' hb => ⟨(hb.cell (p := ⟨bl, off + j * 9, none⟩) hbl).trans x0, (hb.cell (p := ⟨bl, off + j * 9 + 1, none⟩) hbl).trans x1, (hb.cell (p := ⟨bl, off + j * 9 + 2, none⟩) hbl).trans x2, (hb.cell (p := ⟨bl, off + j * 9 + 3, none⟩) hbl).trans x3, (hb.cell (p := ⟨bl, off + j * 9 + 4, none⟩) hbl).trans x4, (hb.cell (p := ⟨bl, off + j * 9 + 5, none⟩) hbl).trans x5, (hb.cell (p := ⟨bl, off + j * 9 + 6, none⟩) hbl).trans x6, (hb.cell (p := ⟨bl, off + j * 9 + 7, none⟩) hbl).trans x7, (hb.cell (p := ⟨bl, off + j * 9 + 8, none⟩) hbl).trans x8, (hb.cell (p := ⟨bl2, off2 + j * 9, none⟩) hbl2).trans y0, (hb.cell (p := ⟨bl2, off2 + j * 9 + 1, none⟩) hbl2).trans y1, (hb.cell (p := ⟨bl2, off2 + j * 9 + 2, none⟩) hbl2).trans y2, (hb.cell (p := ⟨bl2, off2 + j * 9 + 3, none⟩) hbl2).trans y3, (hb.cell (p := ⟨bl2, off2 + j * 9 + 4, none⟩) hbl2).trans y4, (hb.cell (p := ⟨bl2, off2 + j * 9 + 5, none⟩) hbl2).trans y5, (hb.cell (p := ⟨bl2, off2 + j * 9 + 6, none⟩) hbl2).trans y6, (hb.cell (p := ⟨bl2, off2 + j * 9 + 7, none⟩) hbl2).trans y7, (hb.cell (p := ⟨bl2, off2 + j * 9 + 8, none⟩) hbl2).trans y8⟩)
      have HB0 : Hid (Below wr.heap.size wr wr.drew) := (Below.refl _ _).drew
      have hi3 : (0 : Int) ≤ (j : Int) := by omega
      go_wp2_with fail
      simp only [List.append]
      go_region_held3 (fun w' => w'.cell? ⟨bl, off + j * 9, none⟩ = some (.int .i64 ek) ∧ w'.cell? ⟨bl, off + j * 9 + 1, none⟩ = some (.string (cbs en)) ∧ w'.cell? ⟨bl, off + j * 9 + 2, none⟩ = some (.string (cbs eo)) ∧ w'.cell? ⟨bl, off + j * 9 + 3, none⟩ = some (.int .i64 ed) ∧ w'.cell? ⟨bl, off + j * 9 + 4, none⟩ = some (.slice xep es.length xec) ∧ w'.cell? ⟨bl, off + j * 9 + 5, none⟩ = some (.slice xbp bs.length xbc) ∧ w'.cell? ⟨bl, off + j * 9 + 6, none⟩ = some (.slice xlp ls.length xlc) ∧ w'.cell? ⟨bl, off + j * 9 + 7, none⟩ = some (.int .i64 ea) ∧ w'.cell? ⟨bl, off + j * 9 + 8, none⟩ = some (.int .i64 er) ∧ w'.cell? ⟨bl2, off2 + j * 9, none⟩ = some (.int .i64 ek) ∧ w'.cell? ⟨bl2, off2 + j * 9 + 1, none⟩ = some (.string (cbs en)) ∧ w'.cell? ⟨bl2, off2 + j * 9 + 2, none⟩ = some (.string (cbs eo)) ∧ w'.cell? ⟨bl2, off2 + j * 9 + 3, none⟩ = some (.int .i64 ed) ∧ w'.cell? ⟨bl2, off2 + j * 9 + 4, none⟩ = some (.slice yep es.length yec) ∧ w'.cell? ⟨bl2, off2 + j * 9 + 5, none⟩ = some (.slice ybp bs.length ybc) ∧ w'.cell? ⟨bl2, off2 + j * 9 + 6, none⟩ = some (.slice ylp ls.length ylc) ∧ w'.cell? ⟨bl2, off2 + j * 9 + 7, none⟩ = some (.int .i64 ea) ∧ w'.cell? ⟨bl2, off2 + j * 9 + 8, none⟩ = some (.int .i64 er)) (first | exact HGO.out _ HB0.out | exact HGO.out _ HB1.out | exact HGO.out _ HB2.out | exact HGO.out _ HB3.out | exact HGO.out _ HB4.out) (first
        | (go_at_call 12; (with_reducible refine Calls.mono (HE2.out _ HB3.out) ?_); rintro en w4 ⟨rfl, hb⟩; have HB4 := Lib.hid (below_seq HB3.out hb HB3.out.size); clear hb)
        | (go_at_call 12; (with_reducible refine Calls.mono (HE1.out _ HB2.out) ?_); rintro en w3 ⟨rfl, hb⟩; have HB3 := Lib.hid (below_seq HB2.out hb HB2.out.size); clear hb)
        | (go_at_call 25; (with_reducible refine Calls.mono (HPL.out _ HB1.out) ?_); rintro en w2 ⟨rfl, hb⟩; have HB2 := Lib.hid (below_seq HB1.out hb HB1.out.size); clear hb)
        | (go_at_call 14; (with_reducible refine Calls.mono (HSM.out _ HB0.out) ?_); rintro en w1 ⟨rfl, hb⟩; have HB1 := Lib.hid (below_seq HB0.out hb HB0.out.size); clear hb))
      go_wp2_with fail
      go_roundg m
      case measure => omega
      case rel => exact ⟨j + 1, by have := HJ.out; omega, by first | rfl | simp [hdw], below_seq HBE.out HB4.out HBE.out.size⟩

theorem alike_n : ∀ (n : Nat) (ks : List Sm), SizeOf.sizeOf ks ≤ n → fitML ks = true → ks.length ≤ 9000000000 → ∀ w, AlOk w ks := by
  intro n
  induction n with
  | zero => intro ks h; cases ks <;> simp at h
  | succ n ih =>
    intro ks hs hf hl w w1 p q c d _ hp hq
    refine alike_step w1 ks p q c d hp hq (by omega) fun e he => ?_
    have h1 := List.sizeOf_lt_of_mem he
    have h2 := fitML_mem hf he
    refine ⟨h2, ?_, ?_⟩
    · obtain ⟨ek, en, eo, ed, es, bs, ls, ea, er⟩ := e
      obtain ⟨-, -, f3, f4, -, -⟩ := fitM_out h2
      simp only [Sm.mk.sizeOf_spec] at h1
      exact ih bs (by omega) f3 f4 w1
    · obtain ⟨ek, en, eo, ed, es, bs, ls, ea, er⟩ := e
      obtain ⟨-, -, -, -, f5, f6⟩ := fitM_out h2
      simp only [Sm.mk.sizeOf_spec] at h1
      exact ih ls (by omega) f5 f6 w1
/-- Two of one list. -/
theorem alike_any (w : World) (ks : List Sm) (p q : Option Addr) (c d : Nat) {B B2 : Nat} (hp : SsAt w B p ks) (hq : SsAt w B2 q ks) (hf : fitML ks = true) (hl : ks.length ≤ 9000000000) :
    Calls Tryz.prog 12 #[.slice p ks.length c, .slice q ks.length d] w fun en w' => en = .returned (.bool true) ∧ Below w.heap.size w w' :=
  alike_n _ ks (Nat.le_refl _) hf hl w w p q c d (Below.refl _ _) (hp.lower (Nat.zero_le _)) (hq.lower (Nat.zero_le _))
end Go.Proofs.YtnnbdidefgghjaaGreatDoor
namespace Go.Proofs.YtnnbdidefgghjaaGreatDoor
open Go.RowKit
open Px (RT tokAt)
open Pe

def toRT (t : Ln.Lx.Tk) : RT := ⟨t.kind, t.text, t.num, t.at_⟩
theorem cells_at : ∀ (us : List Ln.Lx.Tk) (j : Nat) (t : Ln.Lx.Tk), us[j]? = some t → (Ln.cellsOf us)[j * 4]? = some (.int .i64 t.kind) ∧ (Ln.cellsOf us)[j * 4 + 1]? = some (.string (cbs t.text)) ∧ (Ln.cellsOf us)[j * 4 + 2]? = some (.int .i64 t.num) ∧ (Ln.cellsOf us)[j * 4 + 3]? = some (.int .i64 t.at_)
  | [], j, t, h => by simp at h
  | u :: us, 0, t, h => by
    simp at h
    subst h
    exact ⟨rfl, rfl, rfl, rfl⟩
  | u :: us, j + 1, t, h => by
    have := cells_at us j t (by simpa using h)
    have hl : (Ln.tokCells u).length = 4 := rfl
    refine ⟨?_, ?_, ?_, ?_⟩ <;> rw [Ln.cellsOf, List.flatMap_cons]
    · rw [List.getElem?_append_right (by omega), hl, show (j + 1) * 4 - 4 = j * 4 from by omega]; exact this.1
    · rw [List.getElem?_append_right (by omega), hl, show (j + 1) * 4 + 1 - 4 = j * 4 + 1 from by omega]; exact this.2.1
    · rw [List.getElem?_append_right (by omega), hl, show (j + 1) * 4 + 2 - 4 = j * 4 + 2 from by omega]; exact this.2.2.1
    · rw [List.getElem?_append_right (by omega), hl, show (j + 1) * 4 + 3 - 4 = j * 4 + 3 from by omega]; exact this.2.2.2
theorem toks_of {w : World} {A : Option Addr} {c : Nat} {us : List Ln.Lx.Tk} (h : Ln.Lies w w.heap.size A (Ln.cellsOf us)) (hs : ∀ t ∈ us, t.text.length ≤ 281474976710656) : Toks w w.heap.size (.slice A us.length c) (us.map toRT) := by
  refine ⟨⟨A, us.length, c, rfl, by simp, ?_⟩, fun t ht => ?_⟩
  · cases us with
    | nil => exact .inl rfl
    | cons u us =>
      obtain ⟨g, hA, hg, hc⟩ := h (by simp [Ln.cellsOf, Ln.tokCells])
      refine .inr ⟨g, 0, hA, hg, Nat.ne_of_lt hg, fun j t ht => ?_⟩
      rw [List.getElem?_map, Option.map_eq_some_iff] at ht
      obtain ⟨t', ht', rfl⟩ := ht
      obtain ⟨h0, h1, h2, h3⟩ := cells_at (u :: us) j t' ht'
      rw [show 0 + j * 4 = j * 4 by omega]
      exact ⟨hc _ _ h0, hc _ _ h1, hc _ _ h2, hc _ _ h3⟩
  · obtain ⟨t', ht', rfl⟩ := List.mem_map.1 ht
    exact hs t' ht'
/-- Tokens of a text, by what they are. -/
theorem tokens_are (s : ByteArray) (hs : s.size ≤ maxLen) (us : List Ln.Lx.Tk) (E K : Nat) (h : Ln.Lx.toks s.data.toList = (us, E, K)) (w : World) :
    Calls Tryz.prog 7 #[.string s] w fun e w' => ∃ (A : Option Addr) (c : Nat), e = .returned (.tuple #[.slice A us.length c, .agg #[.int .i64 E, .int .i64 K]]) ∧ Ln.Lies w' w'.heap.size A (Ln.cellsOf us) ∧ Below w.heap.size w w' := by
  have := Ln.refTokens_any s hs w
  unfold Ln.TokRes at this
  rw [h] at this
  exact this

theorem cbs_inj {a b : List UInt8} (h : cbs a = cbs b) : a = b := by rw [← cbs_list a, ← cbs_list b, h]
end Go.Proofs.YtnnbdidefgghjaaGreatDoor
namespace Go.Proofs.YtnnbdidefgghjaaGreatDoor
open Go.RowKit
open Px (RT tokAt)
open Pe

theorem one_text {r : List UInt8} {kind : Nat} {text : List UInt8} {num m : Nat} (h : Ln.Lx.one r = some (kind, text, num, m)) : text.length ≤ r.length := by
  unfold Ln.Lx.one at h
  split at h
  · cases h
  · rename_i c r'
    split at h
    · split at h
      · simp only [Option.some.injEq, Prod.mk.injEq] at h
        rw [← h.2.1, List.length_take]; omega
      · split at h
        · simp only [Option.some.injEq, Prod.mk.injEq] at h
          rw [← h.2.1, List.length_take]; omega
        · cases h
    · split at h
      · split at h
        · cases h
        · simp only [Option.some.injEq, Prod.mk.injEq] at h
          rw [← h.2.1]; exact Nat.zero_le _
      · split at h
        · cases h
        · rename_i g hg
          simp only [Option.some.injEq, Prod.mk.injEq] at h
          have := Ln.Lx.signAt_le hg
          rw [← h.2.1]; exact this
theorem lexF_text : ∀ (f k : Nat) (r : List UInt8) (ts : List Ln.Lx.Tk), Ln.Lx.lexF f k r = .ok ts → ∀ t ∈ ts, t.text.length ≤ r.length
  | 0, _, _, _, h => by simp [Ln.Lx.lexF] at h
  | f + 1, k, [], ts, h => by
    simp only [Ln.Lx.lexF] at h
    injection h with h
    rw [← h]; intro t ht; cases ht
  | f + 1, k, c :: r, ts, h => by
    rw [Ln.Lx.lexF] at h
    split at h
    · cases h
    · rename_i kind text num m h1
      have hm := one_text h1
      split at h
      · cases h
      · rename_i us hu
        have := lexF_text f _ _ us hu
        injection h with h
        rw [← h]
        intro t ht
        rcases List.mem_cons.1 ht with rfl | ht
        · exact hm
        · have := this t ht
          rw [List.length_drop] at this
          omega
theorem toks_text (l : List UInt8) : ∀ t ∈ (Ln.Lx.toks l).1, t.text.length ≤ 281474976710656 := by
  unfold Ln.Lx.toks
  by_cases h : 6000 < l.length
  · rw [if_pos h]; intro t ht; cases ht
  · rw [if_neg h]
    cases h2 : Ln.Lx.lexAll l with
    | error k => intro t ht; cases ht
    | ok ts =>
      intro t ht
      rcases List.mem_append.1 ht with ht | ht
      · have := lexF_text _ _ _ ts h2 t ht
        rw [List.length_drop] at this
        omega
      · rw [List.mem_singleton] at ht
        subst ht
        exact Nat.zero_le _
end Go.Proofs.YtnnbdidefgghjaaGreatDoor
namespace Go.Proofs.YtnnbdidefgghjaaGreatDoor
open Go.RowKit Go.ChangeShapes Go.WideShapes Go.ChangeAt Go.ChangeMaps
open Px (RT tokAt)
open Pe

theorem addr_row4 (bl off i j : Nat) : ((⟨bl, off, none⟩ : Addr).add (i * 4)).add j = ⟨bl, off + i * 4 + j, none⟩ := by
  rw [Go.Deep.add_add, Addr.add]
  split
  · rename_i h
    rw [show off + i * 4 + j = off by omega]
  · rw [Nat.add_assoc]
theorem cells_tok : Tryz.prog.cellsOf 47 = 4 := by kernel_rfl
theorem four_list {cs : List Value} (h : cs.length = 4) : ∃ a b c d, cs = [a, b, c, d] := by
  match cs, h with
  | [a, b, c, d], _ => exact ⟨a, b, c, d, rfl⟩
theorem weights_all {H : Type} {P : Program} {e : TypeId} {d : DataW H} {n : Nat} (hn : n ∈ d.weights P e) : ∀ {ds : List (DataW H)} {i : Nat}, ds[i]? = some d → n ∈ DataW.weightsAll P e ds
  | [], _, h => by simp at h
  | d0 :: ds, 0, h => by
    simp only [List.getElem?_cons_zero, Option.some.injEq] at h
    subst h
    simp only [DataW.weightsAll, List.mem_append]
    exact .inl hn
  | d0 :: ds, i + 1, h => by
    simp only [List.getElem?_cons_succ] at h
    simp only [DataW.weightsAll, List.mem_append]
    exact .inr (weights_all hn h)

section
variable {H : Type} {enc : TypeId × Value → H} {w : World} {sp : Nat → Bool} {held : Bool}
theorem tok_of_trod {n : Nat} {cs : List Value} {x : DataW H × List MemPlace} (h : DataW.trod enc Tryz.prog w 0 sp held n 47 cs = some x) :
    ∃ t : RT, cs = [.int .i64 t.kind, .string (cbs t.text), .int .i64 t.num, .int .i64 t.at_] ∧ t.text.length ∈ x.1.weights Tryz.prog 47 := by
  obtain ⟨z1, z2, -, -, -, -⟩ := cells_one
  obtain ⟨xs, m, rfl, rfl, hl, hxs, hf⟩ := DataW.trod_struct Tryz.underlying47 h
  rw [cells_tok] at hl
  obtain ⟨c0, c1, c2, c3, rfl⟩ := four_list hl
  have hx : ∀ i, i < 4 → ∃ y, xs[i]? = some y := fun i hi => ⟨xs[i]'(by rw [hxs]; exact hi), List.getElem?_eq_getElem _⟩
  obtain ⟨y0, hy0⟩ := hx 0 (by decide)
  obtain ⟨y1, hy1⟩ := hx 1 (by decide)
  obtain ⟨y2, hy2⟩ := hx 2 (by decide)
  obtain ⟨y3, hy3⟩ := hx 3 (by decide)
  have f0 : DataW.trod enc Tryz.prog w 0 sp held m 3 [c0] = some y0 := by
    have h0 := hf 0 _ rfl
    have h1 : DataW.trod enc Tryz.prog w 0 sp held m 3 ((List.drop 0 [c0, c1, c2, c3]).take (Tryz.prog.cellsOf 3)) = some y0 := h0.trans hy0
    rw [z1] at h1
    exact h1
  have f1 : DataW.trod enc Tryz.prog w 0 sp held m 9 [c1] = some y1 := by
    have h0 := hf 1 _ rfl
    have h1 : DataW.trod enc Tryz.prog w 0 sp held m 9 ((List.drop 1 [c0, c1, c2, c3]).take (Tryz.prog.cellsOf 9)) = some y1 := h0.trans hy1
    rw [z2] at h1
    exact h1
  have f2 : DataW.trod enc Tryz.prog w 0 sp held m 3 [c2] = some y2 := by
    have h0 := hf 2 _ rfl
    have h1 : DataW.trod enc Tryz.prog w 0 sp held m 3 ((List.drop 2 [c0, c1, c2, c3]).take (Tryz.prog.cellsOf 3)) = some y2 := h0.trans hy2
    rw [z1] at h1
    exact h1
  have f3 : DataW.trod enc Tryz.prog w 0 sp held m 3 [c3] = some y3 := by
    have h0 := hf 3 _ rfl
    have h1 : DataW.trod enc Tryz.prog w 0 sp held m 3 ((List.drop 3 [c0, c1, c2, c3]).take (Tryz.prog.cellsOf 3)) = some y3 := h0.trans hy3
    rw [z1] at h1
    exact h1
  obtain ⟨a0, rfl⟩ := int_cell f0
  obtain ⟨s, hs, hv, -⟩ := DataW.trod_string Tryz.underlying9 f1
  obtain rfl := (List.cons.inj hs).1
  obtain ⟨a2, rfl⟩ := int_cell f2
  obtain ⟨a3, rfl⟩ := int_cell f3
  refine ⟨⟨a0, s.data.toList, a2, a3⟩, by rw [cbs_of], ?_⟩
  have hy : (xs.map (·.1))[1]? = some (DataW.lit (.string s.data.toList) : DataW H) := by
    rw [List.getElem?_map, hy1, hv]; rfl
  simp only [DataW.weights, Tryz.underlying47]
  exact DataW.weights_mem_each (j := 1) (t := 9) rfl hy _ (by simp [DataW.weights])
theorem toks_row {bl : Nat} {B : Nat} : ∀ (len off : Nat), (∀ i, i < len → ∃ t : RT, t.text.length ≤ B ∧ w.cell? ⟨bl, off + i * 4, none⟩ = some (.int .i64 t.kind) ∧ w.cell? ⟨bl, off + i * 4 + 1, none⟩ = some (.string (cbs t.text)) ∧ w.cell? ⟨bl, off + i * 4 + 2, none⟩ = some (.int .i64 t.num) ∧ w.cell? ⟨bl, off + i * 4 + 3, none⟩ = some (.int .i64 t.at_)) →
    ∃ ts : List RT, ts.length = len ∧ (∀ t ∈ ts, t.text.length ≤ B) ∧ ∀ j t, ts[j]? = some t → w.cell? ⟨bl, off + j * 4, none⟩ = some (.int .i64 t.kind) ∧ w.cell? ⟨bl, off + j * 4 + 1, none⟩ = some (.string (cbs t.text)) ∧ w.cell? ⟨bl, off + j * 4 + 2, none⟩ = some (.int .i64 t.num) ∧ w.cell? ⟨bl, off + j * 4 + 3, none⟩ = some (.int .i64 t.at_)
  | 0, off, _ => ⟨[], rfl, fun t ht => by simp at ht, fun j t ht => by simp at ht⟩
  | len + 1, off, h => by
    obtain ⟨t, htl, hc⟩ := h 0 (Nat.succ_pos _)
    obtain ⟨ts, hl, hts, hcs⟩ := toks_row len (off + 4) fun i hlt => by
      have := h (i + 1) (Nat.succ_lt_succ hlt)
      rw [show off + (i + 1) * 4 = off + 4 + i * 4 by omega] at this
      exact this
    refine ⟨t :: ts, by simp [hl], fun u hu => ?_, fun j u hj => ?_⟩
    · rcases List.mem_cons.1 hu with rfl | hu
      · exact htl
      · exact hts u hu
    · cases j with
      | zero =>
        simp only [List.getElem?_cons_zero, Option.some.injEq] at hj
        subst hj
        exact hc
      | succ j =>
        simp only [List.getElem?_cons_succ] at hj
        have := hcs j u hj
        rw [show off + 4 + j * 4 = off + (j + 1) * 4 by omega] at this
        exact this
theorem slice_val {P : Program} {W : World} {t e : TypeId} {v : Value} {r : Reach} {b0 : Nat} (ht : P.underlying t = some (.slice e)) (hv : Value.okWide P W r b0 t v) : ∃ p n c, v = .slice p n c := by
  simp only [Value.okWide, Cell.okWide, ht] at hv
  cases v <;> first | exact ⟨_, _, _, rfl⟩ | (exfalso; simp [Cell.ok, ht] at hv; done)
theorem toks_of_trod {p : Option Addr} {n c : Nat} {d : DataW H} {ps : List MemPlace} (h : DataW.Trod enc Tryz.prog w 0 sp held 22 (.slice p n c) d ps) (hz : ∀ n ∈ d.weights Tryz.prog 22, n ≤ reachBytes) : ∃ ts, Toks w w.heap.size (.slice p n c) ts := by
  obtain ⟨fuel, h⟩ := h
  have hB : reachBytes ≤ 281474976710656 := by decide
  rcases DataW.trod_slice Tryz.underlying22 h with ⟨h0, -⟩ | ⟨a, len, cap, elems, rest, k, rfl, h0, hx, -, -, -, hel, hat, -, -⟩
  · simp only [Value.cells, List.cons.injEq, Value.slice.injEq, and_true] at h0
    obtain ⟨rfl, rfl, rfl⟩ := h0
    exact ⟨[], ⟨⟨none, 0, 0, rfl, rfl, .inl rfl⟩, fun t ht => by simp at ht⟩⟩
  · simp only [Value.cells, List.cons.injEq, Value.slice.injEq, and_true] at h0
    obtain ⟨h1, h2, h3⟩ := h0
    obtain rfl := h1.symm
    obtain rfl := h2.symm
    obtain rfl := h3.symm
    rw [cells_tok] at hat
    obtain rfl := congrArg Prod.fst hx
    by_cases hz0 : len = 0
    · subst hz0
      exact ⟨[], ⟨⟨some a, 0, cap, rfl, rfl, .inl rfl⟩, fun t ht => by simp at ht⟩⟩
    · obtain ⟨bl, off, spot⟩ := a
      have hall : ∀ i, i < len → ∃ t : RT, t.text.length ≤ 281474976710656 ∧ ∀ j, j < 4 → w.cell? (((⟨bl, off, spot⟩ : Addr).add (i * 4)).add j) = [Value.int .i64 t.kind, .string (cbs t.text), .int .i64 t.num, .int .i64 t.at_][j]? := by
        intro i hi
        have h1 := hat i hi
        have hei : elems[i]? = some (elems[i]'(by rw [hel]; exact hi)) := List.getElem?_eq_getElem _
        rw [hei, Option.bind_eq_some_iff] at h1
        obtain ⟨cs, hcs, ht⟩ := h1
        obtain ⟨t, rfl, hw⟩ := tok_of_trod ht
        refine ⟨t, ?_, (World.cells?_some hcs).2.2⟩
        refine Nat.le_trans (hz _ ?_) hB
        simp only [DataW.weights, Tryz.underlying22]
        refine List.mem_cons_of_mem _ (List.mem_append.2 (.inl (weights_all (i := i) hw ?_)))
        rw [List.getElem?_map, hei]; rfl
      obtain ⟨t0, -, hc0⟩ := hall 0 (Nat.pos_of_ne_zero hz0)
      have hcell : w.cell? (((⟨bl, off, spot⟩ : Addr).add (0 * 4)).add 0) = some (.int .i64 t0.kind) := hc0 0 (by decide)
      have hspot : spot = none := by simpa [Addr.add] using World.cell?_spot hcell
      subst hspot
      have hbl : bl < w.heap.size := by
        rcases Nat.lt_or_ge bl w.heap.size with h1 | h1
        · exact h1
        · exfalso
          have h2 : w.heap[bl]? = none := Array.getElem?_eq_none h1
          simp [World.cell?, Addr.add, h2] at hcell
      obtain ⟨ts, hl, hsh, hcs⟩ := toks_row (w := w) (bl := bl) (B := 281474976710656) len off fun i hi => by
        obtain ⟨t, htl, hc⟩ := hall i hi
        have c0 := hc 0 (by decide)
        have c1 := hc 1 (by decide)
        have c2 := hc 2 (by decide)
        have c3 := hc 3 (by decide)
        rw [addr_row4] at c0 c1 c2 c3
        exact ⟨t, htl, c0, c1, c2, c3⟩
      exact ⟨ts, ⟨⟨some ⟨bl, off, none⟩, len, cap, rfl, hl, .inr ⟨bl, off, rfl, hbl, Nat.ne_of_lt hbl, hcs⟩⟩, hsh⟩⟩
end
end Go.Proofs.YtnnbdidefgghjaaGreatDoor
