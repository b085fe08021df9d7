/-
  The contracts of the project's cursor over tokens, second part: what is taken, what is seen, the first fault.
  The contracts of the project's cursor over tokens, third part: a sign, a name, a text of its own, the end.
-/
import Derived.Test.YtnadaedibicaaaaGreatDoorK06
import Derived.Test.YtnadaedibicaaaaGreatDoorShelf
namespace Go.Proofs.YtnadaedibicaaaaGreatDoor
open Go.RowKit
open Px (RT tokAt)
open Pe

theorem Gr.box {R B : Nat} {w w1 : World} {o : Obj} (h : Gr R w w1) (hb : w.heap[B]? = some o) (hne : B ≠ R) : w1.heap[B]? = some o := (h.block _ (Array.getElem?_eq_some_iff.1 hb).1 hne).trans hb
theorem alloc_box {w : World} {B : Nat} {o : Obj} (o2 : Obj) (hb : w.heap[B]? = some o) : (w.alloc o2).heap[B]? = some o :=
  (Gr.alloc (Gr.refl (w.heap.size) w) o2).box hb (Nat.ne_of_lt (Array.getElem?_eq_some_iff.1 hb).1)
theorem heap_lt' {w : World} {B : Nat} {o : Obj} (h : w.heap[B]? = some o) : B < w.heap.size := (Array.getElem?_eq_some_iff.1 h).1

theorem below_seq {B : Nat} {w w1 w2 : World} (h : Below B w w1) (hb : Below w1.heap.size w1 w2) (hB : B ≤ w1.heap.size) : Below B w w2 := ⟨hb.os.trans h.os, hb.tape.trans h.tape, hb.output.trans h.output, Nat.le_trans h.size hb.size, fun i hi => (hb.block i (Nat.lt_of_lt_of_le hi hB)).trans (h.block i hi)⟩
theorem size_alloc (w : World) (o : Obj) : (w.alloc o).heap.size = w.heap.size + 1 := Array.size_push _
theorem mine {R : Nat} {w w1 : World} {o : Obj} (hg : Gr R (w.alloc o) w1) (hR : R < w.heap.size) : w1.heap[w.heap.size]? = some o := hg.box (heap_alloc_new w _) (Nat.ne_of_gt hR)
theorem mineB {w w1 : World} {o : Obj} (hb : Below (w.alloc o).heap.size (w.alloc o) w1) : w1.heap[w.heap.size]? = some o := (hb.block _ (by rw [size_alloc]; omega)).trans (heap_alloc_new w _)

/-- From one world on only memory that is new to w is made or written. -/
structure Nw (R : Nat) (w wA wB : World) : Prop where
  below : Below w.heap.size wA wB
  gr : Gr R w wB
theorem Nw.start {R : Nat} {w wA : World} (h : Gr R w wA) : Nw R w wA wA := ⟨Below.refl _ _, h⟩
theorem Nw.set {R : Nat} {w wA wB : World} (h : Nw R w wA wB) {p : Addr} (hp : w.heap.size ≤ p.block) (u : Value) : Nw R w wA (wB.setCell p u) := ⟨h.below.setCell hp u, h.gr.setNew hp u⟩
theorem Nw.alloc {R : Nat} {w wA wB : World} (h : Nw R w wA wB) (o : Obj) : Nw R w wA (wB.alloc o) := ⟨h.below.alloc h.gr.size o, h.gr.alloc o⟩
theorem Nw.drawn {R : Nat} {w wA wB : World} (h : Nw R w wA wB) (n : Nat) : Nw R w wA (wB.drewN n) := ⟨drawn_bl h.below n, h.gr.drawn n⟩
theorem Cu.fin {w wA wB : World} {R : Nat} {T : TypeId} {S : Value} {X X2 : List Value} {ts : List RT} {s0 s : Cs} (h0 : Cu w R T S X ts s0) (hA : Cu wA R T S X2 ts s) (n : Nw R w wA wB) : Cu wB R T S X2 ts s :=
  ⟨(n.below.block R h0.lt).trans hA.row, h0.toks.gr n.gr⟩
theorem Cu.keep {w wB : World} {R : Nat} {T : TypeId} {S : Value} {X : List Value} {ts : List RT} {s0 : Cs} (h0 : Cu w R T S X ts s0) (n : Nw R w w wB) : Cu wB R T S X ts s0 := h0.fin h0 n

set_option maxHeartbeats 1000000 in
theorem next_any (w : World) (R : Nat) (T : TypeId) (S : Value) (X : List Value) (ts : List RT) (s : Cs) (h : Cu w R T S X ts s) :
    Calls Tryz.prog 69 #[.pointer (some ⟨R, 0, none⟩)] w fun e w' => e = .returned (tokW (peek ts s)) ∧ Cu w' R T S X ts (next s) ∧ Gr R w w' := by
  have h1 := h.go ((Below.refl w.heap.size w).alloc (Nat.le_refl _) (.cells #[.int .i64 0, .string ⟨#[]⟩, .int .i64 0, .int .i64 0] 66))
  have hp := peek_any _ R T S X ts s h1
  have hlt := h.lt
  generalize peek ts s = t at hp ⊢
  unfold tokW at hp
  have HP := Lib.hid hp
  have HH := Lib.hid h
  have H1 := Lib.hid h1
  have hne : R ≠ w.heap.size := Nat.ne_of_lt hlt
  have hne2 : w.heap.size ≠ R := fun e => hne e.symm
  clear h hp h1
  go_enter Tryz.func69, Tryz.ntmps69
  go_wp2_with (first
    | (go_at_call 44; refine (HP.out).mono ?_; rintro e w1 ⟨rfl, hb1⟩; have hr1 := H1.out.go hb1; obtain ⟨⟨c0, c1, c2, c3⟩, fr, hRl⟩ := hr1.cells; have HR1 := Lib.hid hr1; clear hr1; have fr1 := fr 1; clear fr c0 c2 c3; have hk1 := mine (Gr.of hb1) hlt; obtain ⟨⟨d0, d1, d2, d3⟩, g0, g1, g2, g3⟩ := quad hk1; have hl1 := heap_lt' hk1; clear hk1; have hn1 : w.heap.size ≠ w1.heap.size := Nat.ne_of_lt hl1; have hn2 : w1.heap.size ≠ w.heap.size := fun e => hn1 e.symm; have hn3 : R ≠ w1.heap.size := Nat.ne_of_lt hRl; have hn4 : w1.heap.size ≠ R := fun e => hn3 e.symm; have HB1 := Lib.hid hb1; clear hb1))
  refine bodyPost_ret (v := tokW t) (by simp [tokW, results, Tryz.results69, go_sem, hl1, d0, d1, d2, d3]) rfl ⟨rfl, ?_⟩
  have hn := ((((((Nw.start (((Gr.alloc (Gr.refl R w) _).below HB1.out).set 1 (.int .i64 (wrap64 (s.k + 1))))).set (p := ⟨w.heap.size, 0, none⟩) (Nat.le_refl _) (.int .i64 t.kind)).set (p := ⟨w.heap.size, 1, none⟩) (Nat.le_refl _) (.string (cbs t.text))).set (p := ⟨w.heap.size, 2, none⟩) (Nat.le_refl _) (.int .i64 t.num)).set (p := ⟨w.heap.size, 3, none⟩) (Nat.le_refl _) (.int .i64 t.at_))).alloc (.cells #[.int .i64 t.kind, .string (cbs t.text), .int .i64 t.num, .int .i64 t.at_] 66)
  exact ⟨HH.out.fin (HR1.out.set_k (inc s.k)) hn, hn.gr⟩

set_option maxHeartbeats 1000000 in
theorem sees_any (w : World) (R : Nat) (T : TypeId) (S : Value) (X : List Value) (ts : List RT) (s : Cs) (h : Cu w R T S X ts s) (kind : Int) (text : ByteArray) :
    Calls Tryz.prog 45 #[.pointer (some ⟨R, 0, none⟩), .int .i64 kind, .string text] w fun e w' => e = .returned (.bool (sees ts s kind text.data.toList)) ∧ Below w.heap.size w w' := by
  have hp := peek_any _ R T S X ts s h
  unfold sees
  generalize peek ts s = t at hp ⊢
  unfold tokW at hp
  have htx : ((cbs t.text).toList == text.toList) = (t.text == text.data.toList) := by rw [cbs_list, Lib.toList_data]
  generalize (t.text == text.data.toList) = tx at htx ⊢
  have HP := Lib.hid hp
  generalize hR : (decide (t.kind = kind) && tx) = res
  have HR := Lib.hid hR
  clear h hp hR
  go_enter Tryz.func45, Tryz.ntmps45
  go_wp2_with (first
    | (go_at_call 44; refine (HP.out).mono ?_; rintro e w1 ⟨rfl, hb1⟩))
  all_goals go_ret
  all_goals refine ⟨cret_bool ?_, hb1.alloc hb1.size _⟩
  all_goals (rw [← HR.out]; clear HR HP; try simp_all)

set_option maxHeartbeats 1000000 in
theorem seesSign_any (w : World) (R : Nat) (T : TypeId) (S : Value) (X : List Value) (ts : List RT) (s : Cs) (h : Cu w R T S X ts s) (text : ByteArray) :
    Calls Tryz.prog 75 #[.pointer (some ⟨R, 0, none⟩), .string text] w fun e w' => e = .returned (.bool (sees ts s 4 text.data.toList)) ∧ Below w.heap.size w w' := by
  have hp := sees_any _ R T S X ts s h 4 text
  generalize sees ts s 4 text.data.toList = res at hp ⊢
  clear h
  go_enter Tryz.func75, Tryz.ntmps75
  go_wp2_with (first
    | (go_at_call 45; refine (hp).mono ?_; rintro e w1 ⟨rfl, hb1⟩))
  go_ret
  exact ⟨rfl, hb1⟩

set_option maxHeartbeats 1000000 in
theorem fail_any (w : World) (R : Nat) (T : TypeId) (S : Value) (X : List Value) (ts : List RT) (s : Cs) (h : Cu w R T S X ts s) (q : Int) :
    Calls Tryz.prog 50 #[.pointer (some ⟨R, 0, none⟩), .int .i64 q] w fun e w' => e = .returned (.tuple #[]) ∧ Cu w' R T S X ts (fail ts s q) ∧ Gr R w w' := by
  obtain ⟨⟨c0, c1, c2, c3⟩, fr, hR⟩ := h.cells
  have hp := peek_any _ R T S X ts s h
  have HH := Lib.hid h
  by_cases hE : s.E = 0
  · have hf : fail ts s q = ⟨s.k, q, (tokAt ts s.k).at_⟩ := by unfold fail; rw [if_pos hE]
    have hpk : peek ts s = tokAt ts s.k := by unfold peek; rw [if_pos hE]
    rw [hE] at c2
    rw [hpk] at hp
    rw [hf]
    generalize tokAt ts s.k = t at hp ⊢
    unfold tokW at hp
    have hfd : ∀ w1 : World, (Instr.field 66 (.agg #[.int .i64 t.kind, .string (cbs t.text), .int .i64 t.num, .int .i64 t.at_]) 3).run Tryz.prog w1 = .ok (.int .i64 t.at_) w1 := fun _ => by kernel_rfl
    have HP := Lib.hid hp
    clear h hp hE hf hpk c0 c1 c3 fr
    go_enter Tryz.func50, Tryz.ntmps50
    go_wp2_with (first
      | (go_at_call 44; refine (HP.out).mono ?_; rintro e w1 ⟨rfl, hb1⟩; have hr1 := HH.out.go hb1; obtain ⟨⟨c0, c1, c2, c3⟩, fr, hRl⟩ := hr1.cells; have HR1 := Lib.hid hr1; clear hr1; have fr2 := fr 2; have fr3 := fr 3; clear fr))
    have hg : Gr R w ((w1.setCell ⟨R, 2, none⟩ (.int .i64 q)).setCell ⟨R, 3, none⟩ (.int .i64 t.at_)) := ((Gr.of hb1).set 2 _).set 3 _
    first
      | exact bodyPost_end (results_none rfl _ _ _) rfl ⟨rfl, HR1.out.set_f q t.at_, hg⟩
      | exact bodyPost_ret (results_none rfl _ _ _) rfl ⟨rfl, HR1.out.set_f q t.at_, hg⟩
  · have hf : fail ts s q = s := by unfold fail; rw [if_neg hE]
    have hd0 : (s.E == 0) = false := by simpa using hE
    rw [hf]
    clear h hp hf hE c0 c1 c3 fr
    go_enter Tryz.func50, Tryz.ntmps50
    go_wp2_with fail
    first
      | exact bodyPost_end (results_none rfl _ _ _) rfl ⟨rfl, HH.out, Gr.refl _ _⟩
      | exact bodyPost_ret (results_none rfl _ _ _) rfl ⟨rfl, HH.out, Gr.refl _ _⟩

end Go.Proofs.YtnadaedibicaaaaGreatDoor
namespace Go.Proofs.YtnadaedibicaaaaGreatDoor
open Go.RowKit
open Px (RT tokAt)
open Pe

theorem cbs_size (l : List UInt8) : (cbs l).size = l.length := by simp [cbs, ByteArray.size]

set_option maxHeartbeats 1000000 in
theorem clone_any (w : World) (s : ByteArray) (hs : s.size ≤ 281474976710656) :
    Calls Tryz.prog 101 #[.string s] w fun e w' => e = .returned (.string s) ∧ Below w.heap.size w w' := by
  go_enter Tryz.func101, Tryz.ntmps101
  go_wp2_with (go_at_call 111; refine (Any.stringslite_Clone Tryz.laysM316 s _ hs).mono ?_; rintro e w1 ⟨rfl, hb⟩)
  go_ret
  exact ⟨rfl, hb⟩

set_option maxHeartbeats 1000000 in
theorem text_any (w : World) (R : Nat) (T : TypeId) (S : Value) (X : List Value) (ts : List RT) (s : Cs) (h : Cu w R T S X ts s) :
    Calls Tryz.prog 103 #[.pointer (some ⟨R, 0, none⟩)] w fun e w' => e = .returned (.string (cbs (peek ts s).text)) ∧ Cu w' R T S X ts (next s) ∧ Gr R w w' := by
  have hp := next_any w R T S X ts s h
  have hsz := h.toks.peek s
  generalize peek ts s = t at hp hsz ⊢
  unfold tokW at hp
  have hfd : ∀ w1 : World, (Instr.field 66 (.agg #[.int .i64 t.kind, .string (cbs t.text), .int .i64 t.num, .int .i64 t.at_]) 1).run Tryz.prog w1 = .ok (.string (cbs t.text)) w1 := fun _ => by kernel_rfl
  have HP := Lib.hid hp
  have HS := Lib.hid hsz
  clear h hp hsz
  go_enter Tryz.func103, Tryz.ntmps103
  go_wp2_with (first
    | (go_at_call 69; refine (HP.out).mono ?_; rintro e w1 ⟨rfl, hr1, hg1⟩; have HR1 := Lib.hid hr1; have HG1 := Lib.hid hg1; clear hr1 hg1)
    | (go_at_call 101; refine (clone_any w1 (cbs t.text) (by rw [cbs_size]; exact HS.out)).mono ?_; rintro e w2 ⟨rfl, hb2⟩))
  go_ret
  exact ⟨rfl, HR1.out.go hb2, HG1.out.below hb2⟩

set_option maxHeartbeats 1000000 in
theorem sign_any (w : World) (R : Nat) (T : TypeId) (S : Value) (X : List Value) (ts : List RT) (s : Cs) (h : Cu w R T S X ts s) (text : ByteArray) :
    Calls Tryz.prog 71 #[.pointer (some ⟨R, 0, none⟩), .string text] w fun e w' => e = .returned (tokW (sign ts s text.data.toList).1) ∧ Cu w' R T S X ts (sign ts s text.data.toList).2 ∧ Gr R w w' := by
  have h1 := h.go ((Below.refl w.heap.size w).alloc (Nat.le_refl _) (.cells #[.int .i64 0, .string ⟨#[]⟩, .int .i64 0, .int .i64 0] 66))
  have hs := seesSign_any _ R T S X ts s h1 text
  have hlt := h.lt
  cases hb : sees ts s 4 text.data.toList with
  | true =>
    have hsg : sign ts s text.data.toList = (peek ts s, next s) := by simp [sign, failUnless, hb]
    rw [hsg]
    rw [hb] at hs
    have hp : ∀ w1, Cu w1 R T S X ts s → Calls Tryz.prog 69 #[.pointer (some ⟨R, 0, none⟩)] w1 _ := fun w1 h1 => next_any w1 R T S X ts s h1
    dsimp only
    generalize peek ts s = t at hp ⊢
    unfold tokW at hp
    have HP := Lib.hid hp
    have HH := Lib.hid h
    have H1 := Lib.hid h1
    have HS := Lib.hid hs
    clear h h1 hs hp hsg hb
    go_enter Tryz.func71, Tryz.ntmps71
    go_wp2_with (first
      | (go_at_call 75; refine (HS.out).mono ?_; rintro e w1 ⟨rfl, hb1⟩; have HG1 := Lib.hid (Gr.of (R := R) hb1); have HR1 := Lib.hid (H1.out.go hb1); clear hb1)
      | (go_at_call 69; refine (HP.out _ HR1.out).mono ?_; rintro e w2 ⟨rfl, hr2, hg2⟩; have HG2 := Lib.hid (HG1.out.trans hg2); have HR2 := Lib.hid hr2; clear hr2 hg2; have hk := mine HG2.out hlt; obtain ⟨⟨d0, d1, d2, d3⟩, g0, g1, g2, g3⟩ := quad hk; have hl := heap_lt' hk; clear hk))
    have hn := ((((Nw.start ((Gr.alloc (Gr.refl R w) _).trans HG2.out)).set (p := ⟨w.heap.size, 0, none⟩) (Nat.le_refl _) (.int .i64 t.kind)).set (p := ⟨w.heap.size, 1, none⟩) (Nat.le_refl _) (.string (cbs t.text))).set (p := ⟨w.heap.size, 2, none⟩) (Nat.le_refl _) (.int .i64 t.num)).set (p := ⟨w.heap.size, 3, none⟩) (Nat.le_refl _) (.int .i64 t.at_)
    exact bodyPost_ret (v := tokW t) (by simp [tokW, results, Tryz.results71, go_sem, d0, d1, d2, d3]) rfl ⟨rfl, HH.out.fin HR2.out hn, hn.gr⟩
  | false =>
    have hsg : sign ts s text.data.toList = (peek ts (fail ts s 2), next (fail ts s 2)) := by simp [sign, failUnless, hb]
    rw [hsg]
    rw [hb] at hs
    have hp : ∀ w1, Cu w1 R T S X ts (fail ts s 2) → Calls Tryz.prog 69 #[.pointer (some ⟨R, 0, none⟩)] w1 _ := fun w1 h1 => next_any w1 R T S X ts (fail ts s 2) h1
    dsimp only
    generalize peek ts (fail ts s 2) = t at hp ⊢
    unfold tokW at hp
    have HP := Lib.hid hp
    have HH := Lib.hid h
    have H1 := Lib.hid h1
    have HS := Lib.hid hs
    clear h h1 hs hp hsg hb
    go_enter Tryz.func71, Tryz.ntmps71
    go_wp2_with (first
      | (go_at_call 75; refine (HS.out).mono ?_; rintro e w1 ⟨rfl, hb1⟩; have HG1 := Lib.hid (Gr.of (R := R) hb1); have HR1 := Lib.hid (H1.out.go hb1); clear hb1)
      | (go_at_call 50; refine (fail_any _ R T S X ts s HR1.out 2).mono ?_; rintro e wf ⟨rfl, hrf, hgf⟩; have HGF := Lib.hid (HG1.out.trans hgf); have HRF := Lib.hid hrf; clear hrf hgf)
      | (go_at_call 69; refine (HP.out _ HRF.out).mono ?_; rintro e w2 ⟨rfl, hr2, hg2⟩; have HG2 := Lib.hid (HGF.out.trans hg2); have HR2 := Lib.hid hr2; clear hr2 hg2; have hk := mine HG2.out hlt; obtain ⟨⟨d0, d1, d2, d3⟩, g0, g1, g2, g3⟩ := quad hk; have hl := heap_lt' hk; clear hk))
    have hn := ((((Nw.start ((Gr.alloc (Gr.refl R w) _).trans HG2.out)).set (p := ⟨w.heap.size, 0, none⟩) (Nat.le_refl _) (.int .i64 t.kind)).set (p := ⟨w.heap.size, 1, none⟩) (Nat.le_refl _) (.string (cbs t.text))).set (p := ⟨w.heap.size, 2, none⟩) (Nat.le_refl _) (.int .i64 t.num)).set (p := ⟨w.heap.size, 3, none⟩) (Nat.le_refl _) (.int .i64 t.at_)
    exact bodyPost_ret (v := tokW t) (by simp [tokW, results, Tryz.results71, go_sem, d0, d1, d2, d3]) rfl ⟨rfl, HH.out.fin HR2.out hn, hn.gr⟩

set_option maxHeartbeats 1000000 in
theorem name_any (w : World) (R : Nat) (T : TypeId) (S : Value) (X : List Value) (ts : List RT) (s : Cs) (h : Cu w R T S X ts s) :
    Calls Tryz.prog 70 #[.pointer (some ⟨R, 0, none⟩)] w fun e w' => e = .returned (.string (cbs (name ts s).1)) ∧ Cu w' R T S X ts (name ts s).2 ∧ Gr R w w' := by
  have hp := peek_any w R T S X ts s h
  unfold tokW at hp
  have hfd : ∀ w1 : World, (Instr.field 66 (.agg #[.int .i64 (peek ts s).kind, .string (cbs (peek ts s).text), .int .i64 (peek ts s).num, .int .i64 (peek ts s).at_]) 0).run Tryz.prog w1 = .ok (.int .i64 (peek ts s).kind) w1 := fun _ => by kernel_rfl
  by_cases hk : (peek ts s).kind = 1
  · have hsg : name ts s = ((peek ts s).text, next s) := by simp [name, failUnless, hk]
    rw [hsg]
    have ht : ∀ w1, Cu w1 R T S X ts s → Calls Tryz.prog 103 #[.pointer (some ⟨R, 0, none⟩)] w1 _ := fun w1 h1 => text_any w1 R T S X ts s h1
    dsimp only
    generalize peek ts s = t at hp hfd hk ht ⊢
    have hd : (t.kind != 1) = false := by simp [hk]
    have HP := Lib.hid hp
    have HH := Lib.hid h
    have HT := Lib.hid ht
    clear h hp hsg hk ht
    go_enter Tryz.func70, Tryz.ntmps70
    go_wp2_with (first
      | (go_at_call 44; refine (HP.out).mono ?_; rintro e w1 ⟨rfl, hb1⟩; have HR1 := Lib.hid (HH.out.go hb1); have HG1 := Lib.hid (Gr.of (R := R) hb1); clear hb1)
      | (go_at_call 103; refine (HT.out _ HR1.out).mono ?_; rintro e w2 ⟨rfl, hr2, hg2⟩; have HR2 := Lib.hid hr2; have HG2 := Lib.hid (HG1.out.trans hg2); clear hr2 hg2))
    go_ret
    exact ⟨rfl, HR2.out, HG2.out⟩
  · have hsg : name ts s = ((peek ts (fail ts s 2)).text, next (fail ts s 2)) := by simp [name, failUnless, hk]
    rw [hsg]
    dsimp only
    generalize peek ts s = t at hp hfd hk
    have hd : (t.kind != 1) = true := by simp [hk]
    have ht : ∀ w1, Cu w1 R T S X ts (fail ts s 2) → Calls Tryz.prog 103 #[.pointer (some ⟨R, 0, none⟩)] w1 _ := fun w1 h1 => text_any w1 R T S X ts (fail ts s 2) h1
    generalize (peek ts (fail ts s 2)).text = tx at ht ⊢
    have HP := Lib.hid hp
    have HH := Lib.hid h
    have HT := Lib.hid ht
    clear h hp hsg hk ht
    go_enter Tryz.func70, Tryz.ntmps70
    go_wp2_with (first
      | (go_at_call 44; refine (HP.out).mono ?_; rintro e w1 ⟨rfl, hb1⟩; have HR1 := Lib.hid (HH.out.go hb1); have HG1 := Lib.hid (Gr.of (R := R) hb1); clear hb1)
      | (go_at_call 50; refine (fail_any _ R T S X ts s HR1.out 2).mono ?_; rintro e wf ⟨rfl, hrf, hgf⟩; have HGF := Lib.hid (HG1.out.trans hgf); have HRF := Lib.hid hrf; clear hrf hgf)
      | (go_at_call 103; refine (HT.out _ HRF.out).mono ?_; rintro e w2 ⟨rfl, hr2, hg2⟩; have HR2 := Lib.hid hr2; have HG2 := Lib.hid (HGF.out.trans hg2); clear hr2 hg2))
    go_ret
    exact ⟨rfl, HR2.out, HG2.out⟩
end Go.Proofs.YtnadaedibicaaaaGreatDoor
