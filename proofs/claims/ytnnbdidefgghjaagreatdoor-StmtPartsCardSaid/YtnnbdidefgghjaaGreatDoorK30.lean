/-
  What the answer's reader (runrigref3) does with statements, step by step, in plain data (no program). rx: what it does with an expression.
  The contracts of the answer's reader (runrigref3) over the plain machine: all of its steps together.
  The answer's reader of statements (runrigref3), its contracts over the plain machine: the frame.
-/
import Derived.Test.YtnnbdidefgghjaaGreatDoorK10
import Derived.Test.YtnnbdidefgghjaaGreatDoorK20
import Derived.Test.YtnnbdidefgghjaaGreatDoorK01
import Derived.Test.YtnnbdidefgghjaaGreatDoorK26
import Derived.Test.YtnnbdidefgghjaaGreatDoorK24
import Derived.Test.YtnnbdidefgghjaaGreatDoorK27
import Derived.Test.YtnnbdidefgghjaaGreatDoorK29
namespace Go.Proofs.YtnnbdidefgghjaaGreatDoor
namespace Qs
open Go.RowKit
open Px (RT tokAt isT levelT)
open Pe (Ex inc dec)
open Qe (Q)
open Ps (Sm kindOf nameOf)

abbrev Out := Option (Sm × Q)
abbrev OutB := Option (List Sm × Q)
abbrev RX := Q → Option (Ex × Q)

/-- A keyword, a name, a colon and a type. -/
def decl (ts : List RT) (s : Q) : List UInt8 × List UInt8 × Nat × Q :=
  ((Qe.name ts (Qe.next s)).1, Qe.of ts (Qe.take ts (Qe.name ts (Qe.next s)).2 false [58]))
def declared (ts : List RT) (rx : RX) (s : Q) : Out :=
  let d := decl ts s
  if (tokAt ts s.k).text = [108, 101, 116] then
    match rx (Qe.take ts d.2.2.2 false [61]) with
    | none => none
    | some (e, s2) => some (.mk 2 d.1 d.2.1 d.2.2.1 [e] [] [] (tokAt ts s.k).at_ 0, Qe.take ts s2 false [59])
  else some (.mk 1 d.1 d.2.1 d.2.2.1 [] [] [] (tokAt ts s.k).at_ 0, Qe.take ts d.2.2.2 false [59])
def choice (ts : List RT) (rx : RX) (recB : Q → OutB) (s : Q) : Out :=
  match rx (Qe.next s) with
  | none => none
  | some (e, s1) =>
    match recB s1 with
    | none => none
    | some (b, s2) =>
      if Qe.is ts s2 true [101, 108, 115, 101] then
        match recB (Qe.next s2) with
        | none => none
        | some (b2, s3) => some (.mk 5 [] [] 0 [e] b b2 (tokAt ts s.k).at_ 0, s3)
      else some (.mk 5 [] [] 0 [e] b [] (tokAt ts s.k).at_ 0, s2)
def loop (ts : List RT) (rx : RX) (recB : Q → OutB) (s : Q) : Out :=
  match rx (Qe.next s) with
  | none => none
  | some (e, s1) =>
    match recB s1 with
    | none => none
    | some (b, s2) => some (.mk 6 [] [] 0 [e] b [] (tokAt ts s.k).at_ 0, s2)
def result (ts : List RT) (rx : RX) (s : Q) : Out :=
  if Qe.is ts (Qe.next s) false [59] then some (.mk 7 [] [] 0 [] [] [] (tokAt ts s.k).at_ 0, Qe.take ts (Qe.next s) false [59])
  else match rx (Qe.next s) with
    | none => none
    | some (e, s2) => some (.mk 7 [] [] 0 [e] [] [] (tokAt ts s.k).at_ 0, Qe.take ts s2 false [59])
def output (ts : List RT) (rx : RX) (s : Q) : Out :=
  match rx (Qe.next s) with
  | none => none
  | some (e, s2) => some (.mk 8 [] [] 0 [e] [] [] (tokAt ts s.k).at_ 0, Qe.take ts s2 false [59])
/-- What stands behind a first expression that no sign = follows. -/
def plainDo (ts : List RT) (at_ : Int) (e : Ex) (s : Q) : Sm × Q :=
  (.mk 9 [] [] 0 [e] [] [] at_ 0, Qe.take ts (if Qe.is ts s false [59] = true ∧ kindOf e ≠ 7 then Qe.fail ts s 2 else s) false [59])
def plainPut (ts : List RT) (rx : RX) (at_ : Int) (e : Ex) (s : Q) : Out :=
  match rx (Qe.take ts (if kindOf e ≠ 4 ∧ kindOf e ≠ 5 ∧ kindOf e ≠ 6 then Qe.fail ts s 2 else s) false [61]) with
  | none => none
  | some (b, s2) => some (if kindOf e = 4 then .mk 3 (nameOf e) [] 0 [b] [] [] at_ 0 else .mk 4 [] [] 0 [e, b] [] [] at_ 0, Qe.take ts s2 false [59])
def plain (ts : List RT) (rx : RX) (at_ : Int) (s : Q) : Out :=
  match rx s with
  | none => none
  | some (e, s1) => if Qe.is ts s1 false [61] then plainPut ts rx at_ e s1 else some (plainDo ts at_ e s1)
def stmt (ts : List RT) (rx : RX) (recB : Q → OutB) (s : Q) : Out :=
  if Qe.is ts s true [118, 97, 114] || Qe.is ts s true [108, 101, 116] then declared ts rx s
  else if Qe.is ts s true [105, 102] then choice ts rx recB s
  else if Qe.is ts s true [119, 104, 105, 108, 101] then loop ts rx recB s
  else if Qe.is ts s true [114, 101, 116, 117, 114, 110] then result ts rx s
  else if Qe.is ts s true [112, 114, 105, 110, 116] then output ts rx s
  else plain ts rx (tokAt ts s.k).at_ s
def stLoop (ts : List RT) (recS : Q → Out) : Nat → List Sm → Q → OutB
  | 0, _, _ => none
  | g + 1, l, s =>
    if s.E = 0 ∧ Qe.is ts s false [125] = false then
      match recS s with
      | none => none
      | some (x, s2) => stLoop ts recS g (l ++ [x]) s2
    else some (l, s)
def block (ts : List RT) (recS : Q → Out) (g : Nat) (s : Q) : OutB :=
  match stLoop ts recS g [] (Qe.opens ts s [123]) with
  | none => none
  | some (l, s2) => some (l, Qe.closes ts s2 [125])
/-- By so much fuel: a statement; a block. -/
def run (ts : List RT) (rx : RX) : Nat → (Q → Out) × (Q → OutB)
  | 0 => (fun _ => none, fun _ => none)
  | f + 1 => (stmt ts rx (run ts rx f).2, block ts (run ts rx f).1 f)
def stEnd (x : Sm) (s : Q) : Sm × Int × Int × Int := if s.E = 0 then (x, s.k, 0, 0) else (Sm.zero, 0, s.E, s.F)
def blEnd (l : List Sm) (s : Q) : List Sm × Int × Int × Int := if s.E = 0 then (l, s.k, 0, 0) else ([], 0, s.E, s.F)
def parse (ts : List RT) (rx : RX) (f : Nat) (k o : Int) : Option (Sm × Int × Int × Int) :=
  match (run ts rx f).1 ⟨k, max o 0, 0, 0⟩ with
  | none => none
  | some (x, s) => some (stEnd x s)
def parseB (ts : List RT) (rx : RX) (f : Nat) (k o : Int) : Option (List Sm × Int × Int × Int) :=
  match (run ts rx f).2 ⟨k, max o 0, 0, 0⟩ with
  | none => none
  | some (l, s) => some (blEnd l s)
end Qs
end Go.Proofs.YtnnbdidefgghjaaGreatDoor
namespace Go.Proofs.YtnnbdidefgghjaaGreatDoor
open Go.RowKit
open Px (RT tokAt isT)
open Pe (inc dec Ex)
open Qe (Q)

theorem qun_some {ts : List RT} {rec : Nat → Q → Qe.Out} {g : Nat} {s : Q} {x : Ex × Q} (h : Qe.unary ts rec g s = some x) (hv : Qe.is ts s false [45] = false) (hv2 : Qe.is ts s false [33] = false) : ∃ e s2, Qe.first ts rec g s = some (e, s2) ∧ Qe.behind ts rec g e s2 = some x := by
  rw [Qe.unary, if_neg (by rw [hv]; decide), if_neg (by rw [hv2]; decide)] at h
  split at h
  · cases h
  · rename_i e s2 he
    exact ⟨e, s2, he, h⟩

set_option maxRecDepth 8000 in
set_option maxHeartbeats 4000000 in
theorem qUnary_else (w : World) (R : Nat) (S : Value) (ts : List RT) (s : Q) (h : Qr w R S ts s) (rec : Nat → Q → Qe.Out) (hrec : QRecOk ts rec) (hv0 : Qe.is ts s false [45] = false) (hv1 : Qe.is ts s false [33] = false) (gg : Nat) (hgg : gg ≤ 1000000000) (e0 : Ex) (s1 : Q) (he : Qe.first ts rec gg s = some (e0, s1)) (x : Ex × Q) (hx : Qe.behind ts rec gg e0 s1 = some x) :
    Calls Tryz.prog 73 #[.pointer (some ⟨R, 0, none⟩)] w (QPost w.heap.size w R S ts x) := by
  have HE := Lib.hid (fun w1 hh => qFirst_any w1 R S ts s hh rec hrec gg hgg (e0, s1) he)
  have HX := Lib.hid hx
  have HREC := Lib.hid hrec
  have HV0 := Lib.hid hv0
  have HV1 := Lib.hid hv1
  have htk := fun w1 hh => qTok_any w1 R S ts s hh
  generalize tokAt ts s.k = t at htk
  unfold tokW at htk
  have HTK := Lib.hid htk
  clear htk hrec he hx hv0 hv1 hgg
  have hlt := h.lt
  have HH := Lib.hid h
  have F := Lib.hid ((Fq.start h).alloc (.cells #[.int .i64 0, .int .i64 0, .string ⟨#[]⟩, .string ⟨#[]⟩, .int .i64 0, .slice none 0 0, .int .i64 0, .int .i64 0, .int .i64 0, .int .i64 0, .int .i64 0] 73))
  clear h 
  go_enter Tryz.func73, Tryz.ntmps73
  go_wp2_with fail
  refine (HTK.out _ F.out.qr).mono ?_
  rintro e u1 ⟨rfl, hb⟩
  have F2 := Lib.hid (F.out.go hb)
  clear F
  have F := F2
  clear F2
  clear hb
  go_wp2_with fail
  have F2 := Lib.hid (F.out.alloc (.cells #[.int .i64 t.kind, .string (cbs t.text), .int .i64 t.num, .int .i64 t.at_] 47))
  clear F
  have F := F2
  clear F2
  refine (qIs_any _ R S ts _ F.out.qr ⟨#[45]⟩ (by decide) false (by decide)).mono ?_
  rintro e u2 ⟨rfl, hb⟩
  have F2 := Lib.hid (F.out.go hb)
  clear F
  have F := F2
  clear F2
  clear hb
  try rw [HV0.out]
  go_wp2_with fail
  refine (qIs_any _ R S ts _ F.out.qr ⟨#[33]⟩ (by decide) false (by decide)).mono ?_
  rintro e u3 ⟨rfl, hb⟩
  have F2 := Lib.hid (F.out.go hb)
  clear F
  have F := F2
  clear F2
  clear hb
  try rw [HV1.out]
  go_wp2_with fail
  have hRB := F.out.qr.lt
  have hNB := heap_lt' (F.out.keep _ (List.Mem.tail _ (List.Mem.head _))).1
  refine (HE.out _ F.out.qr).mono ?_
  rintro e u4 ⟨qk, qn, qs, qo, qd, qp, ql, qc, qa, qb, qr, qe, qf, rfl, hi, hr, hg⟩
  have F2 := Lib.hid ((F.out.step hr hg).tree hi hNB hRB)
  clear F
  have F := F2
  clear F2
  clear hi hr hg hRB hNB
  go_wp2_with fail
  have HTR := Lib.hid (F.out.trees _ (List.Mem.head _))
  refine (qBehind_any _ R S ts s1 F.out.qr rec HREC.out (w.heap.size + 1) (by omega) (Nat.succ_le_of_lt (heap_lt' (F.out.keep _ (List.Mem.tail _ (List.Mem.head _))).1)) gg e0 qk qn qs qo qd qp ql qc qa qb qr qe qf (Is.lower HTR.out.2.1 _ HTR.out.1) x HX.out).mono ?_
  rintro e u9 ⟨zk, zn, zs, zo, zd, zp, zl, zc, za, zb, zr, ze, zf, rfl, hi, hr, hg⟩
  have F2 := Lib.hid ((F.out.step hr hg).tree hi (Nat.lt_succ_self _) (by omega))
  clear F
  have F := F2
  clear F2
  clear hi hr hg HTR
  have hk := (F.out.keep _ (List.Mem.tail _ (List.Mem.head _)))
  obtain ⟨⟨d0, d1, d2, d3, d4, d5, d6, d7, d8, d9, dX⟩, g0, g1, g2, g3, g4, g5, g6, g7, g8, g9, gX⟩ := hen hk.1
  have hld := heap_lt' hk.1
  have hnd := hk.2
  clear hk
  go_wp2_with fail
  have hn := (Nw.start F.out.gr).put11 (B := w.heap.size) (Nat.le_refl _) (c0 := .int .i64 zk) (c1 := .int .i64 zn) (c2 := .string (cbs zs)) (c3 := .string (cbs zo)) (c4 := .int .i64 zd) (c5 := .slice zp zl zc) (c6 := .int .i64 za) (c7 := .int .i64 zb) (c8 := .int .i64 zr) (c9 := .int .i64 ze) (c10 := .int .i64 zf)
  exact bodyPost_ret (v := .agg #[.int .i64 zk, .int .i64 zn, .string (cbs zs), .string (cbs zo), .int .i64 zd, .slice zp zl zc, .int .i64 za, .int .i64 zb, .int .i64 zr, .int .i64 ze, .int .i64 zf]) (by simp [results, Tryz.results73, go_sem, d0, d1, d2, d3, d4, d5, d6, d7, d8, d9, dX]) rfl ⟨_, _, _, _, _, _, _, _, _, _, _, _, _, rfl, Is.lower (Nat.le_of_lt (F.out.trees _ (List.Mem.head _)).2.1) _ ((F.out.trees _ (List.Mem.head _)).1.put11 (F.out.trees _ (List.Mem.head _)).2.1), HH.out.fin F.out.qr hn, hn.gr⟩

theorem qUnary_any (w : World) (R : Nat) (S : Value) (ts : List RT) (s : Q) (h : Qr w R S ts s) (rec : Nat → Q → Qe.Out) (hrec : QRecOk ts rec) (gg : Nat) (hgg : gg ≤ 1000000000) (x : Ex × Q) (hx : Qe.unary ts rec gg s = some x) :
    Calls Tryz.prog 73 #[.pointer (some ⟨R, 0, none⟩)] w (QPost w.heap.size w R S ts x) := by
  cases hv : Qe.is ts s false [45] with
  | true =>
    rw [Qe.unary, if_pos hv] at hx
    obtain ⟨e0, s2, he, rfl⟩ := qpre_some hx
    exact qUnary_45 w R S ts s h rec hrec hv e0 s2 he
  | false =>
    cases hv2 : Qe.is ts s false [33] with
    | true =>
      rw [Qe.unary, if_neg (by rw [hv]; decide), if_pos hv2] at hx
      obtain ⟨e0, s2, he, rfl⟩ := qpre_some hx
      exact qUnary_33 w R S ts s h rec hrec hv hv2 e0 s2 he
    | false =>
      obtain ⟨e0, s1, he, hb⟩ := qun_some hx hv hv2
      exact qUnary_else w R S ts s h rec hrec hv hv2 gg hgg e0 s1 he x hb

set_option maxRecDepth 8000 in
set_option maxHeartbeats 4000000 in
theorem qExpr_top (w : World) (R : Nat) (S : Value) (ts : List RT) (s : Q) (h : Qr w R S ts s) (rec : Nat → Q → Qe.Out) (hrec : QRecOk ts rec) (gg : Nat) (hgg : gg ≤ 1000000000) (x : Ex × Q) (hx : Qe.unary ts rec gg s = some x) :
    Calls Tryz.prog 55 #[.pointer (some ⟨R, 0, none⟩), .int .i64 5] w (QPost w.heap.size w R S ts x) := by
  have HE := Lib.hid (fun w1 hh => qUnary_any w1 R S ts s hh rec hrec gg hgg x hx)
  clear hrec hx hgg
  have hlt := h.lt
  have HH := Lib.hid h
  have F := Lib.hid ((Fq.start h).alloc (.cells #[.int .i64 0, .int .i64 0, .string ⟨#[]⟩, .string ⟨#[]⟩, .int .i64 0, .slice none 0 0, .int .i64 0, .int .i64 0, .int .i64 0, .int .i64 0, .int .i64 0] 73))
  clear h 
  go_enter Tryz.func55, Tryz.ntmps55
  go_wp2_with fail
  have hRB := F.out.qr.lt
  have hNB := heap_lt' (F.out.keep _ (List.Mem.head _)).1
  refine (HE.out _ F.out.qr).mono ?_
  rintro e u1 ⟨qk, qn, qs, qo, qd, qp, ql, qc, qa, qb, qr, qe, qf, rfl, hi, hr, hg⟩
  have F2 := Lib.hid ((F.out.step hr hg).tree hi hNB hRB)
  clear F
  have F := F2
  clear F2
  clear hi hr hg hRB hNB
  have hk := (F.out.keep _ (List.Mem.head _))
  obtain ⟨⟨d0, d1, d2, d3, d4, d5, d6, d7, d8, d9, dX⟩, g0, g1, g2, g3, g4, g5, g6, g7, g8, g9, gX⟩ := hen hk.1
  have hld := heap_lt' hk.1
  have hnd := hk.2
  clear hk
  go_wp2_with fail
  have hn := (Nw.start F.out.gr).put11 (B := w.heap.size) (Nat.le_refl _) (c0 := .int .i64 qk) (c1 := .int .i64 qn) (c2 := .string (cbs qs)) (c3 := .string (cbs qo)) (c4 := .int .i64 qd) (c5 := .slice qp ql qc) (c6 := .int .i64 qa) (c7 := .int .i64 qb) (c8 := .int .i64 qr) (c9 := .int .i64 qe) (c10 := .int .i64 qf)
  exact bodyPost_ret (v := .agg #[.int .i64 qk, .int .i64 qn, .string (cbs qs), .string (cbs qo), .int .i64 qd, .slice qp ql qc, .int .i64 qa, .int .i64 qb, .int .i64 qr, .int .i64 qe, .int .i64 qf]) (by simp [results, Tryz.results55, go_sem, d0, d1, d2, d3, d4, d5, d6, d7, d8, d9, dX]) rfl ⟨_, _, _, _, _, _, _, _, _, _, _, _, _, rfl, Is.lower (Nat.le_of_lt (F.out.trees _ (List.Mem.head _)).2.1) _ ((F.out.trees _ (List.Mem.head _)).1.put11 (F.out.trees _ (List.Mem.head _)).2.1), HH.out.fin F.out.qr hn, hn.gr⟩

/-- Its contract, by so much fuel. -/
theorem qrun_ok (ts : List RT) : ∀ f, f ≤ 1000000000 → QRecOk ts (Qe.run ts f) := by
  intro f
  induction f with
  | zero => intro _ n s x _ hx; cases hx
  | succ f ih =>
    intro hf n s x hn hx w R S h
    have hrec := ih (by omega)
    rw [Qe.run] at hx
    dsimp only at hx
    by_cases h5 : n = 5
    · subst h5
      rw [if_pos rfl] at hx
      exact qExpr_top w R S ts s h _ hrec f (by omega) x hx
    · rw [if_neg h5] at hx
      split at hx
      · cases hx
      · rename_i e0 s1 he
        exact qExpr_low w R S ts s h _ hrec n (by omega) f e0 s1 he x hx
end Go.Proofs.YtnnbdidefgghjaaGreatDoor
namespace Go.Proofs.YtnnbdidefgghjaaGreatDoor
open Go.RowKit
open Px (RT tokAt isT)
open Pe (inc dec Ex)
open Qe (Q)
open Ps (Sm kindOf nameOf)

def QrK (R : Nat) (S : Value) (ts : List RT) (s : Q) (w : World) : Prop := Qr w R S ts s
section
variable {w wr : World} {R : Nat} {S : Value} {ts : List RT} {s : Q} {L : List (Nat × Obj)} {T : List (Nat × World)}
theorem Fr.ofq (h : Qr w R S ts s) : Fr w R (QrK R S ts) s [] [] w := Fr.start (QrK R S ts) h h.lt fun _ _ _ n hA => Qr.fin h hA n
theorem Fr.qr (h : Fr w R (QrK R S ts) s L T wr) : Qr wr R S ts s := h.rd
theorem Fr.setk (h : Fr w R (QrK R S ts) s L T wr) : Fr w R (QrK R S ts) (Qe.next s) L T (wr.setCell ⟨R, 1, none⟩ (.int .i64 (inc s.k))) :=
  h.step (h.qr.set_k (inc s.k)) ((Gr.refl R wr).set 1 _)
end
/-- What a step that reads a statement ends in. -/
def QStPost (w : World) (R : Nat) (S : Value) (ts : List RT) (x : Sm × Q) (e : Ending) (w' : World) : Prop :=
  ∃ (kind : Int) (name ofn : List UInt8) (dims : Int) (ep : Option Addr) (el ec : Nat) (bp : Option Addr) (bl bc : Nat) (lp : Option Addr) (ll lc : Nat) (at_ ref : Int),
    e = .returned (.agg #[.int .i64 kind, .string (cbs name), .string (cbs ofn), .int .i64 dims, .slice ep el ec, .slice bp bl bc, .slice lp ll lc, .int .i64 at_, .int .i64 ref]) ∧
    SIs w' w.heap.size x.1 (smCells kind name ofn dims (.slice ep el ec) (.slice bp bl bc) (.slice lp ll lc) at_ ref) ∧ Qr w' R S ts x.2 ∧ Gr R w w'
def QBlPost (w : World) (R : Nat) (S : Value) (ts : List RT) (x : List Sm × Q) (e : Ending) (w' : World) : Prop :=
  ∃ (p : Option Addr) (c : Nat), e = .returned (.slice p x.1.length (x.1.length + c)) ∧ SsAt w' w.heap.size p x.1 ∧ Qr w' R S ts x.2 ∧ Gr R w w'
def QXOk (ts : List RT) (rx : Qs.RX) : Prop := ∀ (s : Q) (x : Ex × Q), rx s = some x → ∀ (w : World) (R : Nat) (S : Value), Qr w R S ts s →
  Calls Tryz.prog 55 #[.pointer (some ⟨R, 0, none⟩), .int .i64 0] w (QPost w.heap.size w R S ts x)
def QBlOk (ts : List RT) (recB : Q → Qs.OutB) : Prop := ∀ (s : Q) (x : List Sm × Q), recB s = some x → ∀ (w : World) (R : Nat) (S : Value), Qr w R S ts s →
  Calls Tryz.prog 20 #[.pointer (some ⟨R, 0, none⟩)] w (QBlPost w R S ts x)
def QStOk (ts : List RT) (recS : Q → Qs.Out) : Prop := ∀ (s : Q) (x : Sm × Q), recS s = some x → ∀ (w : World) (R : Nat) (S : Value), Qr w R S ts s →
  Calls Tryz.prog 38 #[.pointer (some ⟨R, 0, none⟩)] w (QStPost w R S ts x)
theorem qx_ok (ts : List RT) (f : Nat) (hf : f ≤ 1000000000) : QXOk ts (Qe.run ts f 0) := fun s x hx w R S h => qrun_ok ts f hf 0 s x (by decide) hx w R S h

theorem KidsAt.two {w : World} {B bl : Nat} {T : TypeId} {e e2 : Ex} {vs vs2 : List Value} {A : Array Value} (hb : w.heap[bl]? = some (.cells A T (0, 0))) (hne : B ≤ bl) (hi : Is w B e vs) (hi2 : Is w B e2 vs2) (hA : A = ⟨vs ++ vs2⟩) : KidsAt w B (some ⟨bl, 0, none⟩) [e, e2] := by
  subst hA
  refine .inr ⟨bl, 0, rfl, heap_lt' hb, hne, At.of_row hb [e, e2] 0 [vs, vs2] rfl (two_all hi hi2) fun i _ => ?_⟩
  simp
end Go.Proofs.YtnnbdidefgghjaaGreatDoor
