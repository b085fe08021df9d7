/-
  The contracts of the project's reader of statements: one that begins with an expression; any statement.
-/
import Derived.Test.YtnadaedibicaaaaGreatDoorK31
import Derived.Deep.RegionHeld3
namespace Go.Proofs.YtnadaedibicaaaaGreatDoor
open Go.RowKit
open Px (RT tokAt)
open Pe
open Ps (Sm PX)

theorem Rq.maps {w : World} {R M1 M2 : Nat} {S : Value} {ts : List RT} {s : St} (h : Rq w R M1 M2 S ts s) : w.cell? ⟨R, 5, none⟩ = some (.map (some M1)) ∧ w.cell? ⟨R, 6, none⟩ = some (.map (some M2)) := by
  have hr := h.cu.row
  constructor <;> (rw [cell_of_row _ _ _ _ _ _ hr]; simp)
theorem Fr.tail {σ : Type} {w wr : World} {R : Nat} {K : σ → World → Prop} {s : σ} {a : Nat × Obj} {L : List (Nat × Obj)} {T : List (Nat × World)} (h : Fr w R K s (a :: L) T wr) : Fr w R K s L T wr :=
  ⟨h.rd, h.gr, h.lt, h.held, fun p hp => h.keep p (List.Mem.tail _ hp), (List.pairwise_cons.1 h.nd).2, h.ag, fun p hp => h.sep p (List.Mem.tail _ hp)⟩
theorem le_of_ag {B : Nat} {w w' : World} (h : Ag B w w') (hB : B ≤ w.heap.size) : B ≤ w'.heap.size := Nat.le_trans hB h.size
/-- The token at hand, whatever it is. -/
@[reducible] def PeekOk (R M1 M2 : Nat) (S : Value) (ts : List RT) (s : St) (t : RT) : Prop := ∀ w1 : World, Rq w1 R M1 M2 S ts s →
  Calls Tryz.prog 44 #[.pointer (some ⟨R, 0, none⟩)] w1 fun e w' => e = .returned (.agg #[.int .i64 t.kind, .string (cbs t.text), .int .i64 t.num, .int .i64 t.at_]) ∧ Below w1.heap.size w1 w'
theorem peek_ok (R M1 M2 : Nat) (S : Value) (ts : List RT) (s : St) {t : RT} (ht : peek ts s.c = t) : PeekOk R M1 M2 S ts s t := by
  intro w1 h
  have := peek_any w1 R 151 S _ ts s.c h.cu
  rw [ht] at this
  exact this

set_option maxRecDepth 8000 in
set_option maxHeartbeats 4000000 in
theorem from_call (w : World) (R M1 M2 : Nat) (S : Value) (ts : List RT) (s : St) (h : Rq w R M1 M2 S ts s) (P : PX) (hP : POk ts P) (hK : (peek ts (Ps.rd P s).2.c).kind = 4) (hT : (peek ts (Ps.rd P s).2.c).text = [59]) :
    Calls Tryz.prog 143 #[.pointer (some ⟨R, 0, none⟩)] w (StPost w R M1 M2 S ts (Ps.call ts (Ps.rd P s).1 (Ps.rd P s).2)) := by
  obtain ⟨x, s1, hX⟩ : ∃ x s1, Ps.rd P s = (x, s1) := ⟨_, _, rfl⟩
  rw [hX]
  rw [hX] at hT
  rw [hX] at hK
  have HX := Lib.hid hX
  dsimp only at hT ⊢
  obtain ⟨t, ht⟩ : ∃ t, peek ts s1.c = t := ⟨_, rfl⟩
  have HPK := Lib.hid (peek_ok R M1 M2 S ts s1 ht)
  rw [ht] at hT
  have HT := Lib.hid hT
  have HP := Lib.hid hP
  dsimp only at hK
  rw [ht] at hK
  have hkb : (t.kind != 4) = false := by simp [hK]
  clear hK
  have hfd : ∀ w1 : World, (Instr.field 66 (.agg #[.int .i64 t.kind, .string (cbs t.text), .int .i64 t.num, .int .i64 t.at_]) 1).run Tryz.prog w1 = .ok (.string (cbs t.text)) w1 := fun _ => by kernel_rfl
  have hfd0 : ∀ w1 : World, (Instr.field 66 (.agg #[.int .i64 t.kind, .string (cbs t.text), .int .i64 t.num, .int .i64 t.at_]) 0).run Tryz.prog w1 = .ok (.int .i64 t.kind) w1 := fun _ => by kernel_rfl
  clear hX hT ht hP
  have hlt := h.lt
  have HH := Lib.hid h
  have F := Lib.hid ((Fr.of h).alloc (.cells #[.int .i64 0, .string ⟨#[]⟩, .string ⟨#[]⟩, .int .i64 0, .slice none 0 0, .slice none 0 0, .slice none 0 0, .int .i64 0, .int .i64 0] 101))
  clear h
  go_enter Tryz.func143, Tryz.ntmps143
  go_wp2_with fail
  have hex := sexpression_any _ R M1 M2 S ts _ F.out.rq P HP.out
  have hX : Ps.rd P s = (x, s1) := HX.out
  rw [hX] at hex
  clear hX
  have hRB := F.out.rq.lt
  have hZ0 := heap_lt' (F.out.keep _ (List.Mem.head _)).1
  refine (hex).mono ?_
  rintro e u1 ⟨qk, qn, qs, qo, qd, qp, ql, qc, qa, qb, qr, qe, qf, rfl, hi, hr, hg⟩
  have Hq := Lib.hid hi
  have hqz := hg.size
  have F2 := Lib.hid (F.out.call hr hg)
  clear F
  have F := F2
  clear F2
  clear hi hr hg
  clear hex
  go_wp2_with fail
  have F2 := Lib.hid (F.out.alloc (.cells #[.int .i64 qk, .int .i64 qn, .string (cbs qs), .string (cbs qo), .int .i64 qd, .slice qp ql qc, .int .i64 qa, .int .i64 qb, .int .i64 qr, .int .i64 qe, .int .i64 qf] 106))
  clear F
  have F := F2
  clear F2
  have hneZ := Nat.ne_of_gt ((List.pairwise_cons.1 F.out.nd).1 _ (List.Mem.head _))
  have hnZe := Ne.symm hneZ
  dsimp only at hneZ hnZe
  have F2 := Lib.hid (F.out.go (Below.refl _ _).drew)
  clear F
  have F := F2
  clear F2
  have o6 := F.out.rq.maps.2
  go_region_held3 (fun w' => w'.cell? ⟨R, 6, none⟩ = some (.map (some M2))) (first | exact o6 | exact oo) (first
    | (go_at_call 44; (with_reducible refine Calls.mono (HPK.out _ F.out.rq) ?_); rintro e wp ⟨rfl, hb⟩; have F4 := Lib.hid (F.out.go hb); clear hb; have oo := F4.out.rq.maps.2; have hlk := ssign_at0 HT.out F4.out.rq.m2))
  clear F oo o6
  have F := F4
  clear F4
  go_wp2_with fail
  refine (HPK.out _ F.out.rq).mono ?_
  rintro e u2 ⟨rfl, hb⟩
  have F2 := Lib.hid (F.out.go hb)
  clear F
  have F := F2
  clear F2
  clear hb
  have hk := (F.out.keep _ (List.Mem.head _)).1
  obtain ⟨⟨x0, x1, x2, x3, x4, x5, x6, x7, x8, x9, xX⟩, y0, y1, y2, y3, y4, y5, y6, y7, y8, y9, yX⟩ := hen hk
  have hlx := heap_lt' hk
  clear hk
  go_wp2_with fail
  have hie := Hq.out.ag (F.out.ag _ (List.Mem.head _)).1
  have hB0 := (F.out.ag _ (List.Mem.head _)).2
  refine (scall_any _ R M1 M2 S ts s1 F.out.rq x qk qn qs qo qd qp ql qc qa qb qr qe qf _ _ hRB (Nat.le_refl _) (le_of_ag (F.out.ag _ (List.Mem.head _)).1 hqz) hie).mono ?_
  rintro e w9 ⟨sk, sn, so, sd, sep, sel, sec, sbp, sbl, sbc, slp, sll, slc, sa, sr, rfl, hi, hr, hg⟩
  have Hst := Lib.hid hi
  have F2 := Lib.hid (((F.out.tail).step hr hg).tree hB0 (fun p hp => by rw [List.mem_singleton.1 hp]; exact hZ0))
  clear F
  have F := F2
  clear F2 hi hr hg hie hB0
  have hk := (F.out.keep _ (List.Mem.head _)).1
  obtain ⟨⟨d0, d1, d2, d3, d4, d5, d6, d7, d8⟩, g0, g1, g2, g3, g4, g5, g6, g7, g8⟩ := nen hk
  have hld := heap_lt' hk
  clear hk
  go_wp2_with fail
  have F2 := Lib.hid (F.out.put9 0 rfl (c0 := .int .i64 sk) (c1 := .string (cbs sn)) (c2 := .string (cbs so)) (c3 := .int .i64 sd) (c4 := .slice sep sel sec) (c5 := .slice sbp sbl sbc) (c6 := .slice slp sll slc) (c7 := .int .i64 sa) (c8 := .int .i64 sr))
  clear F
  have F := F2
  clear F2
  exact bodyPost_ret (v := .agg #[.int .i64 sk, .string (cbs sn), .string (cbs so), .int .i64 sd, .slice sep sel sec, .slice sbp sbl sbc, .slice slp sll slc, .int .i64 sa, .int .i64 sr]) (by simp [results, Tryz.results143, go_sem, d0, d1, d2, d3, d4, d5, d6, d7, d8]) rfl ⟨sk, sn, so, sd, sep, sel, sec, sbp, sbl, sbc, slp, sll, slc, sa, sr, rfl, SIs.lower (F.out.ag _ (List.Mem.head _)).2 _ (SIs.ag (F.out.ag _ (List.Mem.head _)).1 _ Hst.out), F.out.rq, F.out.gr⟩

set_option maxRecDepth 8000 in
set_option maxHeartbeats 4000000 in
theorem from_assign (w : World) (R M1 M2 : Nat) (S : Value) (ts : List RT) (s : St) (h : Rq w R M1 M2 S ts s) (P : PX) (hP : POk ts P) (hK : (peek ts (Ps.rd P s).2.c).kind = 4) (hT : (peek ts (Ps.rd P s).2.c).text = [61]) :
    Calls Tryz.prog 143 #[.pointer (some ⟨R, 0, none⟩)] w (StPost w R M1 M2 S ts (Ps.assignment ts P (Ps.rd P s).1 (Ps.rd P s).2)) := by
  obtain ⟨x, s1, hX⟩ : ∃ x s1, Ps.rd P s = (x, s1) := ⟨_, _, rfl⟩
  rw [hX]
  rw [hX] at hT
  rw [hX] at hK
  have HX := Lib.hid hX
  dsimp only at hT ⊢
  obtain ⟨t, ht⟩ : ∃ t, peek ts s1.c = t := ⟨_, rfl⟩
  have HPK := Lib.hid (peek_ok R M1 M2 S ts s1 ht)
  rw [ht] at hT
  have HT := Lib.hid hT
  have HP := Lib.hid hP
  dsimp only at hK
  rw [ht] at hK
  have hkb : (t.kind != 4) = false := by simp [hK]
  clear hK
  have hfd : ∀ w1 : World, (Instr.field 66 (.agg #[.int .i64 t.kind, .string (cbs t.text), .int .i64 t.num, .int .i64 t.at_]) 1).run Tryz.prog w1 = .ok (.string (cbs t.text)) w1 := fun _ => by kernel_rfl
  have hfd0 : ∀ w1 : World, (Instr.field 66 (.agg #[.int .i64 t.kind, .string (cbs t.text), .int .i64 t.num, .int .i64 t.at_]) 0).run Tryz.prog w1 = .ok (.int .i64 t.kind) w1 := fun _ => by kernel_rfl
  clear hX hT ht hP
  have hlt := h.lt
  have HH := Lib.hid h
  have F := Lib.hid ((Fr.of h).alloc (.cells #[.int .i64 0, .string ⟨#[]⟩, .string ⟨#[]⟩, .int .i64 0, .slice none 0 0, .slice none 0 0, .slice none 0 0, .int .i64 0, .int .i64 0] 101))
  clear h
  go_enter Tryz.func143, Tryz.ntmps143
  go_wp2_with fail
  have hex := sexpression_any _ R M1 M2 S ts _ F.out.rq P HP.out
  have hX : Ps.rd P s = (x, s1) := HX.out
  rw [hX] at hex
  clear hX
  have hRB := F.out.rq.lt
  have hZ0 := heap_lt' (F.out.keep _ (List.Mem.head _)).1
  refine (hex).mono ?_
  rintro e u1 ⟨qk, qn, qs, qo, qd, qp, ql, qc, qa, qb, qr, qe, qf, rfl, hi, hr, hg⟩
  have Hq := Lib.hid hi
  have hqz := hg.size
  have F2 := Lib.hid (F.out.call hr hg)
  clear F
  have F := F2
  clear F2
  clear hi hr hg
  clear hex
  go_wp2_with fail
  have F2 := Lib.hid (F.out.alloc (.cells #[.int .i64 qk, .int .i64 qn, .string (cbs qs), .string (cbs qo), .int .i64 qd, .slice qp ql qc, .int .i64 qa, .int .i64 qb, .int .i64 qr, .int .i64 qe, .int .i64 qf] 106))
  clear F
  have F := F2
  clear F2
  have hneZ := Nat.ne_of_gt ((List.pairwise_cons.1 F.out.nd).1 _ (List.Mem.head _))
  have hnZe := Ne.symm hneZ
  dsimp only at hneZ hnZe
  have F2 := Lib.hid (F.out.go (Below.refl _ _).drew)
  clear F
  have F := F2
  clear F2
  have o6 := F.out.rq.maps.2
  go_region_held3 (fun w' => w'.cell? ⟨R, 6, none⟩ = some (.map (some M2))) (first | exact o6 | exact oo) (first
    | (go_at_call 44; (with_reducible refine Calls.mono (HPK.out _ F.out.rq) ?_); rintro e wp ⟨rfl, hb⟩; have F4 := Lib.hid (F.out.go hb); clear hb; have oo := F4.out.rq.maps.2; have hlk := ssign_at1 HT.out F4.out.rq.m2))
  clear F oo o6
  have F := F4
  clear F4
  go_wp2_with fail
  refine (HPK.out _ F.out.rq).mono ?_
  rintro e u2 ⟨rfl, hb⟩
  have F2 := Lib.hid (F.out.go hb)
  clear F
  have F := F2
  clear F2
  clear hb
  have hk := (F.out.keep _ (List.Mem.head _)).1
  obtain ⟨⟨x0, x1, x2, x3, x4, x5, x6, x7, x8, x9, xX⟩, y0, y1, y2, y3, y4, y5, y6, y7, y8, y9, yX⟩ := hen hk
  have hlx := heap_lt' hk
  clear hk
  go_wp2_with fail
  have hie := Hq.out.ag (F.out.ag _ (List.Mem.head _)).1
  have hB0 := (F.out.ag _ (List.Mem.head _)).2
  refine (sassign_any _ R M1 M2 S ts s1 F.out.rq x qk qn qs qo qd qp ql qc qa qb qr qe qf _ _ hRB (Nat.le_refl _) (le_of_ag (F.out.ag _ (List.Mem.head _)).1 hqz) hie P HP.out).mono ?_
  rintro e w9 ⟨sk, sn, so, sd, sep, sel, sec, sbp, sbl, sbc, slp, sll, slc, sa, sr, rfl, hi, hr, hg⟩
  have Hst := Lib.hid hi
  have F2 := Lib.hid (((F.out.tail).step hr hg).tree hB0 (fun p hp => by rw [List.mem_singleton.1 hp]; exact hZ0))
  clear F
  have F := F2
  clear F2 hi hr hg hie hB0
  have hk := (F.out.keep _ (List.Mem.head _)).1
  obtain ⟨⟨d0, d1, d2, d3, d4, d5, d6, d7, d8⟩, g0, g1, g2, g3, g4, g5, g6, g7, g8⟩ := nen hk
  have hld := heap_lt' hk
  clear hk
  go_wp2_with fail
  have F2 := Lib.hid (F.out.put9 0 rfl (c0 := .int .i64 sk) (c1 := .string (cbs sn)) (c2 := .string (cbs so)) (c3 := .int .i64 sd) (c4 := .slice sep sel sec) (c5 := .slice sbp sbl sbc) (c6 := .slice slp sll slc) (c7 := .int .i64 sa) (c8 := .int .i64 sr))
  clear F
  have F := F2
  clear F2
  exact bodyPost_ret (v := .agg #[.int .i64 sk, .string (cbs sn), .string (cbs so), .int .i64 sd, .slice sep sel sec, .slice sbp sbl sbc, .slice slp sll slc, .int .i64 sa, .int .i64 sr]) (by simp [results, Tryz.results143, go_sem, d0, d1, d2, d3, d4, d5, d6, d7, d8]) rfl ⟨sk, sn, so, sd, sep, sel, sec, sbp, sbl, sbc, slp, sll, slc, sa, sr, rfl, SIs.lower (F.out.ag _ (List.Mem.head _)).2 _ (SIs.ag (F.out.ag _ (List.Mem.head _)).1 _ Hst.out), F.out.rq, F.out.gr⟩

set_option maxRecDepth 8000 in
set_option maxHeartbeats 4000000 in
theorem from_kind0 (w : World) (R M1 M2 : Nat) (S : Value) (ts : List RT) (s : St) (h : Rq w R M1 M2 S ts s) (P : PX) (hP : POk ts P) (hK : ¬ (peek ts (Ps.rd P s).2.c).kind = 4) (hT : (peek ts (Ps.rd P s).2.c).text = [59]) :
    Calls Tryz.prog 143 #[.pointer (some ⟨R, 0, none⟩)] w (StPost w R M1 M2 S ts (Ps.refuse ts (Ps.rd P s).2)) := by
  obtain ⟨x, s1, hX⟩ : ∃ x s1, Ps.rd P s = (x, s1) := ⟨_, _, rfl⟩
  rw [hX]
  rw [hX] at hT
  rw [hX] at hK
  have HX := Lib.hid hX
  dsimp only at hT ⊢
  obtain ⟨t, ht⟩ : ∃ t, peek ts s1.c = t := ⟨_, rfl⟩
  have HPK := Lib.hid (peek_ok R M1 M2 S ts s1 ht)
  rw [ht] at hT
  have HT := Lib.hid hT
  have HP := Lib.hid hP
  dsimp only at hK
  rw [ht] at hK
  have hkb : (t.kind != 4) = true := by simpa using hK
  clear hK
  have hfd : ∀ w1 : World, (Instr.field 66 (.agg #[.int .i64 t.kind, .string (cbs t.text), .int .i64 t.num, .int .i64 t.at_]) 1).run Tryz.prog w1 = .ok (.string (cbs t.text)) w1 := fun _ => by kernel_rfl
  have hfd0 : ∀ w1 : World, (Instr.field 66 (.agg #[.int .i64 t.kind, .string (cbs t.text), .int .i64 t.num, .int .i64 t.at_]) 0).run Tryz.prog w1 = .ok (.int .i64 t.kind) w1 := fun _ => by kernel_rfl
  clear hX hT ht hP
  have hlt := h.lt
  have HH := Lib.hid h
  have F := Lib.hid ((Fr.of h).alloc (.cells #[.int .i64 0, .string ⟨#[]⟩, .string ⟨#[]⟩, .int .i64 0, .slice none 0 0, .slice none 0 0, .slice none 0 0, .int .i64 0, .int .i64 0] 101))
  clear h
  go_enter Tryz.func143, Tryz.ntmps143
  go_wp2_with fail
  have hex := sexpression_any _ R M1 M2 S ts _ F.out.rq P HP.out
  have hX : Ps.rd P s = (x, s1) := HX.out
  rw [hX] at hex
  clear hX
  have hRB := F.out.rq.lt
  have hZ0 := heap_lt' (F.out.keep _ (List.Mem.head _)).1
  refine (hex).mono ?_
  rintro e u1 ⟨qk, qn, qs, qo, qd, qp, ql, qc, qa, qb, qr, qe, qf, rfl, hi, hr, hg⟩
  have Hq := Lib.hid hi
  have hqz := hg.size
  have F2 := Lib.hid (F.out.call hr hg)
  clear F
  have F := F2
  clear F2
  clear hi hr hg
  clear hex
  go_wp2_with fail
  have F2 := Lib.hid (F.out.alloc (.cells #[.int .i64 qk, .int .i64 qn, .string (cbs qs), .string (cbs qo), .int .i64 qd, .slice qp ql qc, .int .i64 qa, .int .i64 qb, .int .i64 qr, .int .i64 qe, .int .i64 qf] 106))
  clear F
  have F := F2
  clear F2
  have hneZ := Nat.ne_of_gt ((List.pairwise_cons.1 F.out.nd).1 _ (List.Mem.head _))
  have hnZe := Ne.symm hneZ
  dsimp only at hneZ hnZe
  have F2 := Lib.hid (F.out.go (Below.refl _ _).drew)
  clear F
  have F := F2
  clear F2
  have o6 := F.out.rq.maps.2
  go_region_held3 (fun w' => w'.cell? ⟨R, 6, none⟩ = some (.map (some M2))) (first | exact o6 | exact oo) (first
    | (go_at_call 44; (with_reducible refine Calls.mono (HPK.out _ F.out.rq) ?_); rintro e wp ⟨rfl, hb⟩; have F4 := Lib.hid (F.out.go hb); clear hb; have oo := F4.out.rq.maps.2; have hlk := ssign_at0 HT.out F4.out.rq.m2))
  clear F oo o6
  have F := F4
  clear F4
  go_wp2_with fail
  refine (HPK.out _ F.out.rq).mono ?_
  rintro e u2 ⟨rfl, hb⟩
  have F2 := Lib.hid (F.out.go hb)
  clear F
  have F := F2
  clear F2
  clear hb
  go_wp2_with fail
  refine (srefuse_any _ R M1 M2 S ts _ F.out.rq).mono ?_
  rintro e u3 ⟨sk, sn, so, sd, sep, sel, sec, sbp, sbl, sbc, slp, sll, slc, sa, sr, rfl, hi, hr, hg⟩
  have Hst := Lib.hid hi
  have F2 := Lib.hid (F.out.call hr hg)
  clear F
  have F := F2
  clear F2
  clear hi hr hg
  have hk := (F.out.keep _ (List.Mem.tail _ (List.Mem.head _))).1
  obtain ⟨⟨d0, d1, d2, d3, d4, d5, d6, d7, d8⟩, g0, g1, g2, g3, g4, g5, g6, g7, g8⟩ := nen hk
  have hld := heap_lt' hk
  clear hk
  go_wp2_with fail
  have F2 := Lib.hid (F.out.put9 1 rfl (c0 := .int .i64 sk) (c1 := .string (cbs sn)) (c2 := .string (cbs so)) (c3 := .int .i64 sd) (c4 := .slice sep sel sec) (c5 := .slice sbp sbl sbc) (c6 := .slice slp sll slc) (c7 := .int .i64 sa) (c8 := .int .i64 sr))
  clear F
  have F := F2
  clear F2
  exact bodyPost_ret (v := .agg #[.int .i64 sk, .string (cbs sn), .string (cbs so), .int .i64 sd, .slice sep sel sec, .slice sbp sbl sbc, .slice slp sll slc, .int .i64 sa, .int .i64 sr]) (by simp [results, Tryz.results143, go_sem, d0, d1, d2, d3, d4, d5, d6, d7, d8]) rfl ⟨sk, sn, so, sd, sep, sel, sec, sbp, sbl, sbc, slp, sll, slc, sa, sr, rfl, SIs.lower (F.out.ag _ (List.Mem.head _)).2 _ (SIs.ag (F.out.ag _ (List.Mem.head _)).1 _ Hst.out), F.out.rq, F.out.gr⟩

set_option maxRecDepth 8000 in
set_option maxHeartbeats 4000000 in
theorem from_kind1 (w : World) (R M1 M2 : Nat) (S : Value) (ts : List RT) (s : St) (h : Rq w R M1 M2 S ts s) (P : PX) (hP : POk ts P) (hK : ¬ (peek ts (Ps.rd P s).2.c).kind = 4) (hT : (peek ts (Ps.rd P s).2.c).text = [61]) :
    Calls Tryz.prog 143 #[.pointer (some ⟨R, 0, none⟩)] w (StPost w R M1 M2 S ts (Ps.refuse ts (Ps.rd P s).2)) := by
  obtain ⟨x, s1, hX⟩ : ∃ x s1, Ps.rd P s = (x, s1) := ⟨_, _, rfl⟩
  rw [hX]
  rw [hX] at hT
  rw [hX] at hK
  have HX := Lib.hid hX
  dsimp only at hT ⊢
  obtain ⟨t, ht⟩ : ∃ t, peek ts s1.c = t := ⟨_, rfl⟩
  have HPK := Lib.hid (peek_ok R M1 M2 S ts s1 ht)
  rw [ht] at hT
  have HT := Lib.hid hT
  have HP := Lib.hid hP
  dsimp only at hK
  rw [ht] at hK
  have hkb : (t.kind != 4) = true := by simpa using hK
  clear hK
  have hfd : ∀ w1 : World, (Instr.field 66 (.agg #[.int .i64 t.kind, .string (cbs t.text), .int .i64 t.num, .int .i64 t.at_]) 1).run Tryz.prog w1 = .ok (.string (cbs t.text)) w1 := fun _ => by kernel_rfl
  have hfd0 : ∀ w1 : World, (Instr.field 66 (.agg #[.int .i64 t.kind, .string (cbs t.text), .int .i64 t.num, .int .i64 t.at_]) 0).run Tryz.prog w1 = .ok (.int .i64 t.kind) w1 := fun _ => by kernel_rfl
  clear hX hT ht hP
  have hlt := h.lt
  have HH := Lib.hid h
  have F := Lib.hid ((Fr.of h).alloc (.cells #[.int .i64 0, .string ⟨#[]⟩, .string ⟨#[]⟩, .int .i64 0, .slice none 0 0, .slice none 0 0, .slice none 0 0, .int .i64 0, .int .i64 0] 101))
  clear h
  go_enter Tryz.func143, Tryz.ntmps143
  go_wp2_with fail
  have hex := sexpression_any _ R M1 M2 S ts _ F.out.rq P HP.out
  have hX : Ps.rd P s = (x, s1) := HX.out
  rw [hX] at hex
  clear hX
  have hRB := F.out.rq.lt
  have hZ0 := heap_lt' (F.out.keep _ (List.Mem.head _)).1
  refine (hex).mono ?_
  rintro e u1 ⟨qk, qn, qs, qo, qd, qp, ql, qc, qa, qb, qr, qe, qf, rfl, hi, hr, hg⟩
  have Hq := Lib.hid hi
  have hqz := hg.size
  have F2 := Lib.hid (F.out.call hr hg)
  clear F
  have F := F2
  clear F2
  clear hi hr hg
  clear hex
  go_wp2_with fail
  have F2 := Lib.hid (F.out.alloc (.cells #[.int .i64 qk, .int .i64 qn, .string (cbs qs), .string (cbs qo), .int .i64 qd, .slice qp ql qc, .int .i64 qa, .int .i64 qb, .int .i64 qr, .int .i64 qe, .int .i64 qf] 106))
  clear F
  have F := F2
  clear F2
  have hneZ := Nat.ne_of_gt ((List.pairwise_cons.1 F.out.nd).1 _ (List.Mem.head _))
  have hnZe := Ne.symm hneZ
  dsimp only at hneZ hnZe
  have F2 := Lib.hid (F.out.go (Below.refl _ _).drew)
  clear F
  have F := F2
  clear F2
  have o6 := F.out.rq.maps.2
  go_region_held3 (fun w' => w'.cell? ⟨R, 6, none⟩ = some (.map (some M2))) (first | exact o6 | exact oo) (first
    | (go_at_call 44; (with_reducible refine Calls.mono (HPK.out _ F.out.rq) ?_); rintro e wp ⟨rfl, hb⟩; have F4 := Lib.hid (F.out.go hb); clear hb; have oo := F4.out.rq.maps.2; have hlk := ssign_at1 HT.out F4.out.rq.m2))
  clear F oo o6
  have F := F4
  clear F4
  go_wp2_with fail
  refine (HPK.out _ F.out.rq).mono ?_
  rintro e u2 ⟨rfl, hb⟩
  have F2 := Lib.hid (F.out.go hb)
  clear F
  have F := F2
  clear F2
  clear hb
  go_wp2_with fail
  refine (srefuse_any _ R M1 M2 S ts _ F.out.rq).mono ?_
  rintro e u3 ⟨sk, sn, so, sd, sep, sel, sec, sbp, sbl, sbc, slp, sll, slc, sa, sr, rfl, hi, hr, hg⟩
  have Hst := Lib.hid hi
  have F2 := Lib.hid (F.out.call hr hg)
  clear F
  have F := F2
  clear F2
  clear hi hr hg
  have hk := (F.out.keep _ (List.Mem.tail _ (List.Mem.head _))).1
  obtain ⟨⟨d0, d1, d2, d3, d4, d5, d6, d7, d8⟩, g0, g1, g2, g3, g4, g5, g6, g7, g8⟩ := nen hk
  have hld := heap_lt' hk
  clear hk
  go_wp2_with fail
  have F2 := Lib.hid (F.out.put9 1 rfl (c0 := .int .i64 sk) (c1 := .string (cbs sn)) (c2 := .string (cbs so)) (c3 := .int .i64 sd) (c4 := .slice sep sel sec) (c5 := .slice sbp sbl sbc) (c6 := .slice slp sll slc) (c7 := .int .i64 sa) (c8 := .int .i64 sr))
  clear F
  have F := F2
  clear F2
  exact bodyPost_ret (v := .agg #[.int .i64 sk, .string (cbs sn), .string (cbs so), .int .i64 sd, .slice sep sel sec, .slice sbp sbl sbc, .slice slp sll slc, .int .i64 sa, .int .i64 sr]) (by simp [results, Tryz.results143, go_sem, d0, d1, d2, d3, d4, d5, d6, d7, d8]) rfl ⟨sk, sn, so, sd, sep, sel, sec, sbp, sbl, sbc, slp, sll, slc, sa, sr, rfl, SIs.lower (F.out.ag _ (List.Mem.head _)).2 _ (SIs.ag (F.out.ag _ (List.Mem.head _)).1 _ Hst.out), F.out.rq, F.out.gr⟩

set_option maxRecDepth 8000 in
set_option maxHeartbeats 4000000 in
theorem from_miss (w : World) (R M1 M2 : Nat) (S : Value) (ts : List RT) (s : St) (h : Rq w R M1 M2 S ts s) (P : PX) (hP : POk ts P) (hT : ¬ (peek ts (Ps.rd P s).2.c).text = [59]) (hT2 : ¬ (peek ts (Ps.rd P s).2.c).text = [61]) :
    Calls Tryz.prog 143 #[.pointer (some ⟨R, 0, none⟩)] w (StPost w R M1 M2 S ts (Ps.refuse ts (Ps.rd P s).2)) := by
  obtain ⟨x, s1, hX⟩ : ∃ x s1, Ps.rd P s = (x, s1) := ⟨_, _, rfl⟩
  rw [hX]
  rw [hX] at hT
  rw [hX] at hT2
  have HX := Lib.hid hX
  dsimp only at hT ⊢
  obtain ⟨t, ht⟩ : ∃ t, peek ts s1.c = t := ⟨_, rfl⟩
  have HPK := Lib.hid (peek_ok R M1 M2 S ts s1 ht)
  rw [ht] at hT
  have HT := Lib.hid hT
  have HP := Lib.hid hP
  dsimp only at hT2
  rw [ht] at hT2
  have HT2 := Lib.hid hT2
  clear hT2
  have hfd : ∀ w1 : World, (Instr.field 66 (.agg #[.int .i64 t.kind, .string (cbs t.text), .int .i64 t.num, .int .i64 t.at_]) 1).run Tryz.prog w1 = .ok (.string (cbs t.text)) w1 := fun _ => by kernel_rfl
  have hfd0 : ∀ w1 : World, (Instr.field 66 (.agg #[.int .i64 t.kind, .string (cbs t.text), .int .i64 t.num, .int .i64 t.at_]) 0).run Tryz.prog w1 = .ok (.int .i64 t.kind) w1 := fun _ => by kernel_rfl
  clear hX hT ht hP
  have hlt := h.lt
  have HH := Lib.hid h
  have F := Lib.hid ((Fr.of h).alloc (.cells #[.int .i64 0, .string ⟨#[]⟩, .string ⟨#[]⟩, .int .i64 0, .slice none 0 0, .slice none 0 0, .slice none 0 0, .int .i64 0, .int .i64 0] 101))
  clear h
  go_enter Tryz.func143, Tryz.ntmps143
  go_wp2_with fail
  have hex := sexpression_any _ R M1 M2 S ts _ F.out.rq P HP.out
  have hX : Ps.rd P s = (x, s1) := HX.out
  rw [hX] at hex
  clear hX
  have hRB := F.out.rq.lt
  have hZ0 := heap_lt' (F.out.keep _ (List.Mem.head _)).1
  refine (hex).mono ?_
  rintro e u1 ⟨qk, qn, qs, qo, qd, qp, ql, qc, qa, qb, qr, qe, qf, rfl, hi, hr, hg⟩
  have Hq := Lib.hid hi
  have hqz := hg.size
  have F2 := Lib.hid (F.out.call hr hg)
  clear F
  have F := F2
  clear F2
  clear hi hr hg
  clear hex
  go_wp2_with fail
  have F2 := Lib.hid (F.out.alloc (.cells #[.int .i64 qk, .int .i64 qn, .string (cbs qs), .string (cbs qo), .int .i64 qd, .slice qp ql qc, .int .i64 qa, .int .i64 qb, .int .i64 qr, .int .i64 qe, .int .i64 qf] 106))
  clear F
  have F := F2
  clear F2
  have hneZ := Nat.ne_of_gt ((List.pairwise_cons.1 F.out.nd).1 _ (List.Mem.head _))
  have hnZe := Ne.symm hneZ
  dsimp only at hneZ hnZe
  have F2 := Lib.hid (F.out.go (Below.refl _ _).drew)
  clear F
  have F := F2
  clear F2
  have o6 := F.out.rq.maps.2
  go_region_held3 (fun w' => w'.cell? ⟨R, 6, none⟩ = some (.map (some M2))) (first | exact o6 | exact oo) (first
    | (go_at_call 44; (with_reducible refine Calls.mono (HPK.out _ F.out.rq) ?_); rintro e wp ⟨rfl, hb⟩; have F4 := Lib.hid (F.out.go hb); clear hb; have oo := F4.out.rq.maps.2; have hlk := ssign_miss HT.out HT2.out F4.out.rq.m2))
  clear F oo o6
  have F := F4
  clear F4
  go_wp2_with fail
  refine (srefuse_any _ R M1 M2 S ts _ F.out.rq).mono ?_
  rintro e u2 ⟨sk, sn, so, sd, sep, sel, sec, sbp, sbl, sbc, slp, sll, slc, sa, sr, rfl, hi, hr, hg⟩
  have Hst := Lib.hid hi
  have F2 := Lib.hid (F.out.call hr hg)
  clear F
  have F := F2
  clear F2
  clear hi hr hg
  have hk := (F.out.keep _ (List.Mem.tail _ (List.Mem.head _))).1
  obtain ⟨⟨d0, d1, d2, d3, d4, d5, d6, d7, d8⟩, g0, g1, g2, g3, g4, g5, g6, g7, g8⟩ := nen hk
  have hld := heap_lt' hk
  clear hk
  go_wp2_with fail
  have F2 := Lib.hid (F.out.put9 1 rfl (c0 := .int .i64 sk) (c1 := .string (cbs sn)) (c2 := .string (cbs so)) (c3 := .int .i64 sd) (c4 := .slice sep sel sec) (c5 := .slice sbp sbl sbc) (c6 := .slice slp sll slc) (c7 := .int .i64 sa) (c8 := .int .i64 sr))
  clear F
  have F := F2
  clear F2
  exact bodyPost_ret (v := .agg #[.int .i64 sk, .string (cbs sn), .string (cbs so), .int .i64 sd, .slice sep sel sec, .slice sbp sbl sbc, .slice slp sll slc, .int .i64 sa, .int .i64 sr]) (by simp [results, Tryz.results143, go_sem, d0, d1, d2, d3, d4, d5, d6, d7, d8]) rfl ⟨sk, sn, so, sd, sep, sel, sec, sbp, sbl, sbc, slp, sll, slc, sa, sr, rfl, SIs.lower (F.out.ag _ (List.Mem.head _)).2 _ (SIs.ag (F.out.ag _ (List.Mem.head _)).1 _ Hst.out), F.out.rq, F.out.gr⟩

theorem from_any (w : World) (R M1 M2 : Nat) (S : Value) (ts : List RT) (s : St) (h : Rq w R M1 M2 S ts s) (P : PX) (hP : POk ts P) :
    Calls Tryz.prog 143 #[.pointer (some ⟨R, 0, none⟩)] w (StPost w R M1 M2 S ts (Ps.fromExpr ts P s)) := by
  by_cases h1 : (peek ts (Ps.rd P s).2.c).text = [59]
  · by_cases hK : (peek ts (Ps.rd P s).2.c).kind = 4
    · have := from_call w R M1 M2 S ts s h P hP hK h1
      rw [show Ps.fromExpr ts P s = Ps.call ts (Ps.rd P s).1 (Ps.rd P s).2 from by simp only [Ps.fromExpr, if_pos hK, if_pos h1]]
      exact this
    · have := from_kind0 w R M1 M2 S ts s h P hP hK h1
      rw [show Ps.fromExpr ts P s = Ps.refuse ts (Ps.rd P s).2 from by simp only [Ps.fromExpr, if_neg hK]]
      exact this
  · by_cases h2 : (peek ts (Ps.rd P s).2.c).text = [61]
    · by_cases hK : (peek ts (Ps.rd P s).2.c).kind = 4
      · have := from_assign w R M1 M2 S ts s h P hP hK h2
        rw [show Ps.fromExpr ts P s = Ps.assignment ts P (Ps.rd P s).1 (Ps.rd P s).2 from by simp only [Ps.fromExpr, if_pos hK, if_neg h1, if_pos h2]]
        exact this
      · have := from_kind1 w R M1 M2 S ts s h P hP hK h2
        rw [show Ps.fromExpr ts P s = Ps.refuse ts (Ps.rd P s).2 from by simp only [Ps.fromExpr, if_neg hK]]
        exact this
    · have := from_miss w R M1 M2 S ts s h P hP h1 h2
      rw [show Ps.fromExpr ts P s = Ps.refuse ts (Ps.rd P s).2 from by
        by_cases hK : (peek ts (Ps.rd P s).2.c).kind = 4
        · simp only [Ps.fromExpr, if_pos hK, if_neg h1, if_neg h2]
        · simp only [Ps.fromExpr, if_neg hK]]
      exact this

set_option maxRecDepth 8000 in
set_option maxHeartbeats 4000000 in
theorem st_variable (w : World) (R M1 M2 : Nat) (S : Value) (ts : List RT) (s : St) (h : Rq w R M1 M2 S ts s) (y : Sm × St) (hF : ∀ w1 : World, Rq w1 R M1 M2 S ts s → Calls Tryz.prog 135 #[.pointer (some ⟨R, 0, none⟩)] w1 (StPost w1 R M1 M2 S ts y)) (hK : (peek ts s.c).kind = 3) (hL : ∀ w1 : World, w1.heap[M1]? = some (.map smapWord 6) → (Instr.lookup 148 (.map (some M1)) (.string (cbs (peek ts s.c).text)) true).run Tryz.prog w1 = .ok (.tuple #[.func (.func 135) #[] #[], .bool true]) w1) :
    Calls Tryz.prog 128 #[.pointer (some ⟨R, 0, none⟩)] w (StPost w R M1 M2 S ts (y.1.put (peek ts s.c).at_, y.2)) := by
  obtain ⟨t, ht⟩ : ∃ t, peek ts s.c = t := ⟨_, rfl⟩
  have HPK := Lib.hid (peek_ok R M1 M2 S ts s ht)
  rw [ht] at hL ⊢
  have HL := Lib.hid hL
  have HF := Lib.hid hF
  rw [ht] at hK
  have hkb : (t.kind != 3) = false := by simp [hK]
  clear hK
  clear ht hL hF
  have hlt := h.lt
  have HH := Lib.hid h
  have F := Lib.hid ((Fr.of h).alloc (.cells #[.int .i64 0, .string ⟨#[]⟩, .string ⟨#[]⟩, .int .i64 0, .slice none 0 0, .slice none 0 0, .slice none 0 0, .int .i64 0, .int .i64 0] 101))
  clear h
  go_enter Tryz.func128, Tryz.ntmps128
  go_wp2_with fail
  refine (HPK.out _ F.out.rq).mono ?_
  rintro e u1 ⟨rfl, hb⟩
  have F2 := Lib.hid (F.out.go hb)
  clear F
  have F := F2
  clear F2
  clear hb
  go_wp2_with fail
  have F2 := Lib.hid (F.out.alloc (.cells #[.int .i64 t.kind, .string (cbs t.text), .int .i64 t.num, .int .i64 t.at_] 66))
  clear F
  have F := F2
  clear F2
  have hntokZ := Nat.ne_of_gt ((List.pairwise_cons.1 F.out.nd).1 _ (List.Mem.head _))
  have hnZtok := Ne.symm hntokZ
  dsimp only at hntokZ hnZtok
  have hnt : R ≠ u1.heap.size := Nat.ne_of_lt (Nat.lt_of_lt_of_le hlt (F.out.keep _ (List.Mem.head _)).2)
  have hnt2 := Ne.symm hnt
  have F2 := Lib.hid (F.out.go (Below.refl _ _).drew)
  clear F
  have F := F2
  clear F2
  have o5 := F.out.rq.maps.1
  have hlk := HL.out _ F.out.rq.m1
  have hk := (F.out.keep _ (List.Mem.head _)).1
  obtain ⟨⟨t0, t1, t2, t3⟩, -⟩ := quad hk
  have hlt2 := heap_lt' hk
  clear hk
  go_region
  clear o5 hlk t0 t1 t2 t3 hlt2
  have hk := (F.out.keep _ (List.Mem.head _)).1
  obtain ⟨⟨t0, t1, t2, t3⟩, -⟩ := quad hk
  have hlt2 := heap_lt' hk
  clear hk
  go_wp2_with fail
  clear t0 t1 t2 t3 hlt2
  refine (HF.out _ F.out.rq).mono ?_
  rintro e u2 ⟨sk, sn, so, sd, sep, sel, sec, sbp, sbl, sbc, slp, sll, slc, sa, sr, rfl, hi, hr, hg⟩
  have Hst := Lib.hid hi
  have F2 := Lib.hid (F.out.call hr hg)
  clear F
  have F := F2
  clear F2
  clear hi hr hg
  have hk := (F.out.keep _ (List.Mem.head _)).1
  obtain ⟨⟨t0, t1, t2, t3⟩, -⟩ := quad hk
  have hlt2 := heap_lt' hk
  clear hk
  have hk := (F.out.keep _ (List.Mem.tail _ (List.Mem.head _))).1
  obtain ⟨⟨d0, d1, d2, d3, d4, d5, d6, d7, d8⟩, g0, g1, g2, g3, g4, g5, g6, g7, g8⟩ := nen hk
  have hld := heap_lt' hk
  clear hk
  go_wp2_with fail
  have F2 := Lib.hid (F.out.put9 1 rfl (c0 := .int .i64 sk) (c1 := .string (cbs sn)) (c2 := .string (cbs so)) (c3 := .int .i64 sd) (c4 := .slice sep sel sec) (c5 := .slice sbp sbl sbc) (c6 := .slice slp sll slc) (c7 := .int .i64 t.at_) (c8 := .int .i64 sr))
  clear F
  have F := F2
  clear F2
  have F2 := Lib.hid (F.out.alloc2 (.cells #[.int .i64 sk, .string (cbs sn), .string (cbs so), .int .i64 sd, .slice sep sel sec, .slice sbp sbl sbc, .slice slp sll slc, .int .i64 t.at_, .int .i64 sr] 101) (b := u2.heap.size) (by simp only [size_set]))
  clear F
  have F := F2
  clear F2
  exact bodyPost_ret (v := .agg #[.int .i64 sk, .string (cbs sn), .string (cbs so), .int .i64 sd, .slice sep sel sec, .slice sbp sbl sbc, .slice slp sll slc, .int .i64 t.at_, .int .i64 sr]) (by simp [results, Tryz.results128, go_sem, hld, d0, d1, d2, d3, d4, d5, d6, d7, d8]) rfl ⟨sk, sn, so, sd, sep, sel, sec, sbp, sbl, sbc, slp, sll, slc, t.at_, sr, rfl, SIs.put (SIs.lower (F.out.ag _ (List.Mem.head _)).2 _ (SIs.ag (F.out.ag _ (List.Mem.head _)).1 _ Hst.out)) t.at_, F.out.rq, F.out.gr⟩

set_option maxRecDepth 8000 in
set_option maxHeartbeats 4000000 in
theorem st_definition (w : World) (R M1 M2 : Nat) (S : Value) (ts : List RT) (s : St) (h : Rq w R M1 M2 S ts s) (y : Sm × St) (hF : ∀ w1 : World, Rq w1 R M1 M2 S ts s → Calls Tryz.prog 136 #[.pointer (some ⟨R, 0, none⟩)] w1 (StPost w1 R M1 M2 S ts y)) (hK : (peek ts s.c).kind = 3) (hL : ∀ w1 : World, w1.heap[M1]? = some (.map smapWord 6) → (Instr.lookup 148 (.map (some M1)) (.string (cbs (peek ts s.c).text)) true).run Tryz.prog w1 = .ok (.tuple #[.func (.func 136) #[] #[], .bool true]) w1) :
    Calls Tryz.prog 128 #[.pointer (some ⟨R, 0, none⟩)] w (StPost w R M1 M2 S ts (y.1.put (peek ts s.c).at_, y.2)) := by
  obtain ⟨t, ht⟩ : ∃ t, peek ts s.c = t := ⟨_, rfl⟩
  have HPK := Lib.hid (peek_ok R M1 M2 S ts s ht)
  rw [ht] at hL ⊢
  have HL := Lib.hid hL
  have HF := Lib.hid hF
  rw [ht] at hK
  have hkb : (t.kind != 3) = false := by simp [hK]
  clear hK
  clear ht hL hF
  have hlt := h.lt
  have HH := Lib.hid h
  have F := Lib.hid ((Fr.of h).alloc (.cells #[.int .i64 0, .string ⟨#[]⟩, .string ⟨#[]⟩, .int .i64 0, .slice none 0 0, .slice none 0 0, .slice none 0 0, .int .i64 0, .int .i64 0] 101))
  clear h
  go_enter Tryz.func128, Tryz.ntmps128
  go_wp2_with fail
  refine (HPK.out _ F.out.rq).mono ?_
  rintro e u1 ⟨rfl, hb⟩
  have F2 := Lib.hid (F.out.go hb)
  clear F
  have F := F2
  clear F2
  clear hb
  go_wp2_with fail
  have F2 := Lib.hid (F.out.alloc (.cells #[.int .i64 t.kind, .string (cbs t.text), .int .i64 t.num, .int .i64 t.at_] 66))
  clear F
  have F := F2
  clear F2
  have hntokZ := Nat.ne_of_gt ((List.pairwise_cons.1 F.out.nd).1 _ (List.Mem.head _))
  have hnZtok := Ne.symm hntokZ
  dsimp only at hntokZ hnZtok
  have hnt : R ≠ u1.heap.size := Nat.ne_of_lt (Nat.lt_of_lt_of_le hlt (F.out.keep _ (List.Mem.head _)).2)
  have hnt2 := Ne.symm hnt
  have F2 := Lib.hid (F.out.go (Below.refl _ _).drew)
  clear F
  have F := F2
  clear F2
  have o5 := F.out.rq.maps.1
  have hlk := HL.out _ F.out.rq.m1
  have hk := (F.out.keep _ (List.Mem.head _)).1
  obtain ⟨⟨t0, t1, t2, t3⟩, -⟩ := quad hk
  have hlt2 := heap_lt' hk
  clear hk
  go_region
  clear o5 hlk t0 t1 t2 t3 hlt2
  have hk := (F.out.keep _ (List.Mem.head _)).1
  obtain ⟨⟨t0, t1, t2, t3⟩, -⟩ := quad hk
  have hlt2 := heap_lt' hk
  clear hk
  go_wp2_with fail
  clear t0 t1 t2 t3 hlt2
  refine (HF.out _ F.out.rq).mono ?_
  rintro e u2 ⟨sk, sn, so, sd, sep, sel, sec, sbp, sbl, sbc, slp, sll, slc, sa, sr, rfl, hi, hr, hg⟩
  have Hst := Lib.hid hi
  have F2 := Lib.hid (F.out.call hr hg)
  clear F
  have F := F2
  clear F2
  clear hi hr hg
  have hk := (F.out.keep _ (List.Mem.head _)).1
  obtain ⟨⟨t0, t1, t2, t3⟩, -⟩ := quad hk
  have hlt2 := heap_lt' hk
  clear hk
  have hk := (F.out.keep _ (List.Mem.tail _ (List.Mem.head _))).1
  obtain ⟨⟨d0, d1, d2, d3, d4, d5, d6, d7, d8⟩, g0, g1, g2, g3, g4, g5, g6, g7, g8⟩ := nen hk
  have hld := heap_lt' hk
  clear hk
  go_wp2_with fail
  have F2 := Lib.hid (F.out.put9 1 rfl (c0 := .int .i64 sk) (c1 := .string (cbs sn)) (c2 := .string (cbs so)) (c3 := .int .i64 sd) (c4 := .slice sep sel sec) (c5 := .slice sbp sbl sbc) (c6 := .slice slp sll slc) (c7 := .int .i64 t.at_) (c8 := .int .i64 sr))
  clear F
  have F := F2
  clear F2
  have F2 := Lib.hid (F.out.alloc2 (.cells #[.int .i64 sk, .string (cbs sn), .string (cbs so), .int .i64 sd, .slice sep sel sec, .slice sbp sbl sbc, .slice slp sll slc, .int .i64 t.at_, .int .i64 sr] 101) (b := u2.heap.size) (by simp only [size_set]))
  clear F
  have F := F2
  clear F2
  exact bodyPost_ret (v := .agg #[.int .i64 sk, .string (cbs sn), .string (cbs so), .int .i64 sd, .slice sep sel sec, .slice sbp sbl sbc, .slice slp sll slc, .int .i64 t.at_, .int .i64 sr]) (by simp [results, Tryz.results128, go_sem, hld, d0, d1, d2, d3, d4, d5, d6, d7, d8]) rfl ⟨sk, sn, so, sd, sep, sel, sec, sbp, sbl, sbc, slp, sll, slc, t.at_, sr, rfl, SIs.put (SIs.lower (F.out.ag _ (List.Mem.head _)).2 _ (SIs.ag (F.out.ag _ (List.Mem.head _)).1 _ Hst.out)) t.at_, F.out.rq, F.out.gr⟩

set_option maxRecDepth 8000 in
set_option maxHeartbeats 4000000 in
theorem st_choice (w : World) (R M1 M2 : Nat) (S : Value) (ts : List RT) (s : St) (h : Rq w R M1 M2 S ts s) (y : Sm × St) (hF : ∀ w1 : World, Rq w1 R M1 M2 S ts s → Calls Tryz.prog 137 #[.pointer (some ⟨R, 0, none⟩)] w1 (StPost w1 R M1 M2 S ts y)) (hK : (peek ts s.c).kind = 3) (hL : ∀ w1 : World, w1.heap[M1]? = some (.map smapWord 6) → (Instr.lookup 148 (.map (some M1)) (.string (cbs (peek ts s.c).text)) true).run Tryz.prog w1 = .ok (.tuple #[.func (.func 137) #[] #[], .bool true]) w1) :
    Calls Tryz.prog 128 #[.pointer (some ⟨R, 0, none⟩)] w (StPost w R M1 M2 S ts (y.1.put (peek ts s.c).at_, y.2)) := by
  obtain ⟨t, ht⟩ : ∃ t, peek ts s.c = t := ⟨_, rfl⟩
  have HPK := Lib.hid (peek_ok R M1 M2 S ts s ht)
  rw [ht] at hL ⊢
  have HL := Lib.hid hL
  have HF := Lib.hid hF
  rw [ht] at hK
  have hkb : (t.kind != 3) = false := by simp [hK]
  clear hK
  clear ht hL hF
  have hlt := h.lt
  have HH := Lib.hid h
  have F := Lib.hid ((Fr.of h).alloc (.cells #[.int .i64 0, .string ⟨#[]⟩, .string ⟨#[]⟩, .int .i64 0, .slice none 0 0, .slice none 0 0, .slice none 0 0, .int .i64 0, .int .i64 0] 101))
  clear h
  go_enter Tryz.func128, Tryz.ntmps128
  go_wp2_with fail
  refine (HPK.out _ F.out.rq).mono ?_
  rintro e u1 ⟨rfl, hb⟩
  have F2 := Lib.hid (F.out.go hb)
  clear F
  have F := F2
  clear F2
  clear hb
  go_wp2_with fail
  have F2 := Lib.hid (F.out.alloc (.cells #[.int .i64 t.kind, .string (cbs t.text), .int .i64 t.num, .int .i64 t.at_] 66))
  clear F
  have F := F2
  clear F2
  have hntokZ := Nat.ne_of_gt ((List.pairwise_cons.1 F.out.nd).1 _ (List.Mem.head _))
  have hnZtok := Ne.symm hntokZ
  dsimp only at hntokZ hnZtok
  have hnt : R ≠ u1.heap.size := Nat.ne_of_lt (Nat.lt_of_lt_of_le hlt (F.out.keep _ (List.Mem.head _)).2)
  have hnt2 := Ne.symm hnt
  have F2 := Lib.hid (F.out.go (Below.refl _ _).drew)
  clear F
  have F := F2
  clear F2
  have o5 := F.out.rq.maps.1
  have hlk := HL.out _ F.out.rq.m1
  have hk := (F.out.keep _ (List.Mem.head _)).1
  obtain ⟨⟨t0, t1, t2, t3⟩, -⟩ := quad hk
  have hlt2 := heap_lt' hk
  clear hk
  go_region
  clear o5 hlk t0 t1 t2 t3 hlt2
  have hk := (F.out.keep _ (List.Mem.head _)).1
  obtain ⟨⟨t0, t1, t2, t3⟩, -⟩ := quad hk
  have hlt2 := heap_lt' hk
  clear hk
  go_wp2_with fail
  clear t0 t1 t2 t3 hlt2
  refine (HF.out _ F.out.rq).mono ?_
  rintro e u2 ⟨sk, sn, so, sd, sep, sel, sec, sbp, sbl, sbc, slp, sll, slc, sa, sr, rfl, hi, hr, hg⟩
  have Hst := Lib.hid hi
  have F2 := Lib.hid (F.out.call hr hg)
  clear F
  have F := F2
  clear F2
  clear hi hr hg
  have hk := (F.out.keep _ (List.Mem.head _)).1
  obtain ⟨⟨t0, t1, t2, t3⟩, -⟩ := quad hk
  have hlt2 := heap_lt' hk
  clear hk
  have hk := (F.out.keep _ (List.Mem.tail _ (List.Mem.head _))).1
  obtain ⟨⟨d0, d1, d2, d3, d4, d5, d6, d7, d8⟩, g0, g1, g2, g3, g4, g5, g6, g7, g8⟩ := nen hk
  have hld := heap_lt' hk
  clear hk
  go_wp2_with fail
  have F2 := Lib.hid (F.out.put9 1 rfl (c0 := .int .i64 sk) (c1 := .string (cbs sn)) (c2 := .string (cbs so)) (c3 := .int .i64 sd) (c4 := .slice sep sel sec) (c5 := .slice sbp sbl sbc) (c6 := .slice slp sll slc) (c7 := .int .i64 t.at_) (c8 := .int .i64 sr))
  clear F
  have F := F2
  clear F2
  have F2 := Lib.hid (F.out.alloc2 (.cells #[.int .i64 sk, .string (cbs sn), .string (cbs so), .int .i64 sd, .slice sep sel sec, .slice sbp sbl sbc, .slice slp sll slc, .int .i64 t.at_, .int .i64 sr] 101) (b := u2.heap.size) (by simp only [size_set]))
  clear F
  have F := F2
  clear F2
  exact bodyPost_ret (v := .agg #[.int .i64 sk, .string (cbs sn), .string (cbs so), .int .i64 sd, .slice sep sel sec, .slice sbp sbl sbc, .slice slp sll slc, .int .i64 t.at_, .int .i64 sr]) (by simp [results, Tryz.results128, go_sem, hld, d0, d1, d2, d3, d4, d5, d6, d7, d8]) rfl ⟨sk, sn, so, sd, sep, sel, sec, sbp, sbl, sbc, slp, sll, slc, t.at_, sr, rfl, SIs.put (SIs.lower (F.out.ag _ (List.Mem.head _)).2 _ (SIs.ag (F.out.ag _ (List.Mem.head _)).1 _ Hst.out)) t.at_, F.out.rq, F.out.gr⟩

set_option maxRecDepth 8000 in
set_option maxHeartbeats 4000000 in
theorem st_loop (w : World) (R M1 M2 : Nat) (S : Value) (ts : List RT) (s : St) (h : Rq w R M1 M2 S ts s) (y : Sm × St) (hF : ∀ w1 : World, Rq w1 R M1 M2 S ts s → Calls Tryz.prog 138 #[.pointer (some ⟨R, 0, none⟩)] w1 (StPost w1 R M1 M2 S ts y)) (hK : (peek ts s.c).kind = 3) (hL : ∀ w1 : World, w1.heap[M1]? = some (.map smapWord 6) → (Instr.lookup 148 (.map (some M1)) (.string (cbs (peek ts s.c).text)) true).run Tryz.prog w1 = .ok (.tuple #[.func (.func 138) #[] #[], .bool true]) w1) :
    Calls Tryz.prog 128 #[.pointer (some ⟨R, 0, none⟩)] w (StPost w R M1 M2 S ts (y.1.put (peek ts s.c).at_, y.2)) := by
  obtain ⟨t, ht⟩ : ∃ t, peek ts s.c = t := ⟨_, rfl⟩
  have HPK := Lib.hid (peek_ok R M1 M2 S ts s ht)
  rw [ht] at hL ⊢
  have HL := Lib.hid hL
  have HF := Lib.hid hF
  rw [ht] at hK
  have hkb : (t.kind != 3) = false := by simp [hK]
  clear hK
  clear ht hL hF
  have hlt := h.lt
  have HH := Lib.hid h
  have F := Lib.hid ((Fr.of h).alloc (.cells #[.int .i64 0, .string ⟨#[]⟩, .string ⟨#[]⟩, .int .i64 0, .slice none 0 0, .slice none 0 0, .slice none 0 0, .int .i64 0, .int .i64 0] 101))
  clear h
  go_enter Tryz.func128, Tryz.ntmps128
  go_wp2_with fail
  refine (HPK.out _ F.out.rq).mono ?_
  rintro e u1 ⟨rfl, hb⟩
  have F2 := Lib.hid (F.out.go hb)
  clear F
  have F := F2
  clear F2
  clear hb
  go_wp2_with fail
  have F2 := Lib.hid (F.out.alloc (.cells #[.int .i64 t.kind, .string (cbs t.text), .int .i64 t.num, .int .i64 t.at_] 66))
  clear F
  have F := F2
  clear F2
  have hntokZ := Nat.ne_of_gt ((List.pairwise_cons.1 F.out.nd).1 _ (List.Mem.head _))
  have hnZtok := Ne.symm hntokZ
  dsimp only at hntokZ hnZtok
  have hnt : R ≠ u1.heap.size := Nat.ne_of_lt (Nat.lt_of_lt_of_le hlt (F.out.keep _ (List.Mem.head _)).2)
  have hnt2 := Ne.symm hnt
  have F2 := Lib.hid (F.out.go (Below.refl _ _).drew)
  clear F
  have F := F2
  clear F2
  have o5 := F.out.rq.maps.1
  have hlk := HL.out _ F.out.rq.m1
  have hk := (F.out.keep _ (List.Mem.head _)).1
  obtain ⟨⟨t0, t1, t2, t3⟩, -⟩ := quad hk
  have hlt2 := heap_lt' hk
  clear hk
  go_region
  clear o5 hlk t0 t1 t2 t3 hlt2
  have hk := (F.out.keep _ (List.Mem.head _)).1
  obtain ⟨⟨t0, t1, t2, t3⟩, -⟩ := quad hk
  have hlt2 := heap_lt' hk
  clear hk
  go_wp2_with fail
  clear t0 t1 t2 t3 hlt2
  refine (HF.out _ F.out.rq).mono ?_
  rintro e u2 ⟨sk, sn, so, sd, sep, sel, sec, sbp, sbl, sbc, slp, sll, slc, sa, sr, rfl, hi, hr, hg⟩
  have Hst := Lib.hid hi
  have F2 := Lib.hid (F.out.call hr hg)
  clear F
  have F := F2
  clear F2
  clear hi hr hg
  have hk := (F.out.keep _ (List.Mem.head _)).1
  obtain ⟨⟨t0, t1, t2, t3⟩, -⟩ := quad hk
  have hlt2 := heap_lt' hk
  clear hk
  have hk := (F.out.keep _ (List.Mem.tail _ (List.Mem.head _))).1
  obtain ⟨⟨d0, d1, d2, d3, d4, d5, d6, d7, d8⟩, g0, g1, g2, g3, g4, g5, g6, g7, g8⟩ := nen hk
  have hld := heap_lt' hk
  clear hk
  go_wp2_with fail
  have F2 := Lib.hid (F.out.put9 1 rfl (c0 := .int .i64 sk) (c1 := .string (cbs sn)) (c2 := .string (cbs so)) (c3 := .int .i64 sd) (c4 := .slice sep sel sec) (c5 := .slice sbp sbl sbc) (c6 := .slice slp sll slc) (c7 := .int .i64 t.at_) (c8 := .int .i64 sr))
  clear F
  have F := F2
  clear F2
  have F2 := Lib.hid (F.out.alloc2 (.cells #[.int .i64 sk, .string (cbs sn), .string (cbs so), .int .i64 sd, .slice sep sel sec, .slice sbp sbl sbc, .slice slp sll slc, .int .i64 t.at_, .int .i64 sr] 101) (b := u2.heap.size) (by simp only [size_set]))
  clear F
  have F := F2
  clear F2
  exact bodyPost_ret (v := .agg #[.int .i64 sk, .string (cbs sn), .string (cbs so), .int .i64 sd, .slice sep sel sec, .slice sbp sbl sbc, .slice slp sll slc, .int .i64 t.at_, .int .i64 sr]) (by simp [results, Tryz.results128, go_sem, hld, d0, d1, d2, d3, d4, d5, d6, d7, d8]) rfl ⟨sk, sn, so, sd, sep, sel, sec, sbp, sbl, sbc, slp, sll, slc, t.at_, sr, rfl, SIs.put (SIs.lower (F.out.ag _ (List.Mem.head _)).2 _ (SIs.ag (F.out.ag _ (List.Mem.head _)).1 _ Hst.out)) t.at_, F.out.rq, F.out.gr⟩

set_option maxRecDepth 8000 in
set_option maxHeartbeats 4000000 in
theorem st_result (w : World) (R M1 M2 : Nat) (S : Value) (ts : List RT) (s : St) (h : Rq w R M1 M2 S ts s) (y : Sm × St) (hF : ∀ w1 : World, Rq w1 R M1 M2 S ts s → Calls Tryz.prog 139 #[.pointer (some ⟨R, 0, none⟩)] w1 (StPost w1 R M1 M2 S ts y)) (hK : (peek ts s.c).kind = 3) (hL : ∀ w1 : World, w1.heap[M1]? = some (.map smapWord 6) → (Instr.lookup 148 (.map (some M1)) (.string (cbs (peek ts s.c).text)) true).run Tryz.prog w1 = .ok (.tuple #[.func (.func 139) #[] #[], .bool true]) w1) :
    Calls Tryz.prog 128 #[.pointer (some ⟨R, 0, none⟩)] w (StPost w R M1 M2 S ts (y.1.put (peek ts s.c).at_, y.2)) := by
  obtain ⟨t, ht⟩ : ∃ t, peek ts s.c = t := ⟨_, rfl⟩
  have HPK := Lib.hid (peek_ok R M1 M2 S ts s ht)
  rw [ht] at hL ⊢
  have HL := Lib.hid hL
  have HF := Lib.hid hF
  rw [ht] at hK
  have hkb : (t.kind != 3) = false := by simp [hK]
  clear hK
  clear ht hL hF
  have hlt := h.lt
  have HH := Lib.hid h
  have F := Lib.hid ((Fr.of h).alloc (.cells #[.int .i64 0, .string ⟨#[]⟩, .string ⟨#[]⟩, .int .i64 0, .slice none 0 0, .slice none 0 0, .slice none 0 0, .int .i64 0, .int .i64 0] 101))
  clear h
  go_enter Tryz.func128, Tryz.ntmps128
  go_wp2_with fail
  refine (HPK.out _ F.out.rq).mono ?_
  rintro e u1 ⟨rfl, hb⟩
  have F2 := Lib.hid (F.out.go hb)
  clear F
  have F := F2
  clear F2
  clear hb
  go_wp2_with fail
  have F2 := Lib.hid (F.out.alloc (.cells #[.int .i64 t.kind, .string (cbs t.text), .int .i64 t.num, .int .i64 t.at_] 66))
  clear F
  have F := F2
  clear F2
  have hntokZ := Nat.ne_of_gt ((List.pairwise_cons.1 F.out.nd).1 _ (List.Mem.head _))
  have hnZtok := Ne.symm hntokZ
  dsimp only at hntokZ hnZtok
  have hnt : R ≠ u1.heap.size := Nat.ne_of_lt (Nat.lt_of_lt_of_le hlt (F.out.keep _ (List.Mem.head _)).2)
  have hnt2 := Ne.symm hnt
  have F2 := Lib.hid (F.out.go (Below.refl _ _).drew)
  clear F
  have F := F2
  clear F2
  have o5 := F.out.rq.maps.1
  have hlk := HL.out _ F.out.rq.m1
  have hk := (F.out.keep _ (List.Mem.head _)).1
  obtain ⟨⟨t0, t1, t2, t3⟩, -⟩ := quad hk
  have hlt2 := heap_lt' hk
  clear hk
  go_region
  clear o5 hlk t0 t1 t2 t3 hlt2
  have hk := (F.out.keep _ (List.Mem.head _)).1
  obtain ⟨⟨t0, t1, t2, t3⟩, -⟩ := quad hk
  have hlt2 := heap_lt' hk
  clear hk
  go_wp2_with fail
  clear t0 t1 t2 t3 hlt2
  refine (HF.out _ F.out.rq).mono ?_
  rintro e u2 ⟨sk, sn, so, sd, sep, sel, sec, sbp, sbl, sbc, slp, sll, slc, sa, sr, rfl, hi, hr, hg⟩
  have Hst := Lib.hid hi
  have F2 := Lib.hid (F.out.call hr hg)
  clear F
  have F := F2
  clear F2
  clear hi hr hg
  have hk := (F.out.keep _ (List.Mem.head _)).1
  obtain ⟨⟨t0, t1, t2, t3⟩, -⟩ := quad hk
  have hlt2 := heap_lt' hk
  clear hk
  have hk := (F.out.keep _ (List.Mem.tail _ (List.Mem.head _))).1
  obtain ⟨⟨d0, d1, d2, d3, d4, d5, d6, d7, d8⟩, g0, g1, g2, g3, g4, g5, g6, g7, g8⟩ := nen hk
  have hld := heap_lt' hk
  clear hk
  go_wp2_with fail
  have F2 := Lib.hid (F.out.put9 1 rfl (c0 := .int .i64 sk) (c1 := .string (cbs sn)) (c2 := .string (cbs so)) (c3 := .int .i64 sd) (c4 := .slice sep sel sec) (c5 := .slice sbp sbl sbc) (c6 := .slice slp sll slc) (c7 := .int .i64 t.at_) (c8 := .int .i64 sr))
  clear F
  have F := F2
  clear F2
  have F2 := Lib.hid (F.out.alloc2 (.cells #[.int .i64 sk, .string (cbs sn), .string (cbs so), .int .i64 sd, .slice sep sel sec, .slice sbp sbl sbc, .slice slp sll slc, .int .i64 t.at_, .int .i64 sr] 101) (b := u2.heap.size) (by simp only [size_set]))
  clear F
  have F := F2
  clear F2
  exact bodyPost_ret (v := .agg #[.int .i64 sk, .string (cbs sn), .string (cbs so), .int .i64 sd, .slice sep sel sec, .slice sbp sbl sbc, .slice slp sll slc, .int .i64 t.at_, .int .i64 sr]) (by simp [results, Tryz.results128, go_sem, hld, d0, d1, d2, d3, d4, d5, d6, d7, d8]) rfl ⟨sk, sn, so, sd, sep, sel, sec, sbp, sbl, sbc, slp, sll, slc, t.at_, sr, rfl, SIs.put (SIs.lower (F.out.ag _ (List.Mem.head _)).2 _ (SIs.ag (F.out.ag _ (List.Mem.head _)).1 _ Hst.out)) t.at_, F.out.rq, F.out.gr⟩

set_option maxRecDepth 8000 in
set_option maxHeartbeats 4000000 in
theorem st_output (w : World) (R M1 M2 : Nat) (S : Value) (ts : List RT) (s : St) (h : Rq w R M1 M2 S ts s) (y : Sm × St) (hF : ∀ w1 : World, Rq w1 R M1 M2 S ts s → Calls Tryz.prog 140 #[.pointer (some ⟨R, 0, none⟩)] w1 (StPost w1 R M1 M2 S ts y)) (hK : (peek ts s.c).kind = 3) (hL : ∀ w1 : World, w1.heap[M1]? = some (.map smapWord 6) → (Instr.lookup 148 (.map (some M1)) (.string (cbs (peek ts s.c).text)) true).run Tryz.prog w1 = .ok (.tuple #[.func (.func 140) #[] #[], .bool true]) w1) :
    Calls Tryz.prog 128 #[.pointer (some ⟨R, 0, none⟩)] w (StPost w R M1 M2 S ts (y.1.put (peek ts s.c).at_, y.2)) := by
  obtain ⟨t, ht⟩ : ∃ t, peek ts s.c = t := ⟨_, rfl⟩
  have HPK := Lib.hid (peek_ok R M1 M2 S ts s ht)
  rw [ht] at hL ⊢
  have HL := Lib.hid hL
  have HF := Lib.hid hF
  rw [ht] at hK
  have hkb : (t.kind != 3) = false := by simp [hK]
  clear hK
  clear ht hL hF
  have hlt := h.lt
  have HH := Lib.hid h
  have F := Lib.hid ((Fr.of h).alloc (.cells #[.int .i64 0, .string ⟨#[]⟩, .string ⟨#[]⟩, .int .i64 0, .slice none 0 0, .slice none 0 0, .slice none 0 0, .int .i64 0, .int .i64 0] 101))
  clear h
  go_enter Tryz.func128, Tryz.ntmps128
  go_wp2_with fail
  refine (HPK.out _ F.out.rq).mono ?_
  rintro e u1 ⟨rfl, hb⟩
  have F2 := Lib.hid (F.out.go hb)
  clear F
  have F := F2
  clear F2
  clear hb
  go_wp2_with fail
  have F2 := Lib.hid (F.out.alloc (.cells #[.int .i64 t.kind, .string (cbs t.text), .int .i64 t.num, .int .i64 t.at_] 66))
  clear F
  have F := F2
  clear F2
  have hntokZ := Nat.ne_of_gt ((List.pairwise_cons.1 F.out.nd).1 _ (List.Mem.head _))
  have hnZtok := Ne.symm hntokZ
  dsimp only at hntokZ hnZtok
  have hnt : R ≠ u1.heap.size := Nat.ne_of_lt (Nat.lt_of_lt_of_le hlt (F.out.keep _ (List.Mem.head _)).2)
  have hnt2 := Ne.symm hnt
  have F2 := Lib.hid (F.out.go (Below.refl _ _).drew)
  clear F
  have F := F2
  clear F2
  have o5 := F.out.rq.maps.1
  have hlk := HL.out _ F.out.rq.m1
  have hk := (F.out.keep _ (List.Mem.head _)).1
  obtain ⟨⟨t0, t1, t2, t3⟩, -⟩ := quad hk
  have hlt2 := heap_lt' hk
  clear hk
  go_region
  clear o5 hlk t0 t1 t2 t3 hlt2
  have hk := (F.out.keep _ (List.Mem.head _)).1
  obtain ⟨⟨t0, t1, t2, t3⟩, -⟩ := quad hk
  have hlt2 := heap_lt' hk
  clear hk
  go_wp2_with fail
  clear t0 t1 t2 t3 hlt2
  refine (HF.out _ F.out.rq).mono ?_
  rintro e u2 ⟨sk, sn, so, sd, sep, sel, sec, sbp, sbl, sbc, slp, sll, slc, sa, sr, rfl, hi, hr, hg⟩
  have Hst := Lib.hid hi
  have F2 := Lib.hid (F.out.call hr hg)
  clear F
  have F := F2
  clear F2
  clear hi hr hg
  have hk := (F.out.keep _ (List.Mem.head _)).1
  obtain ⟨⟨t0, t1, t2, t3⟩, -⟩ := quad hk
  have hlt2 := heap_lt' hk
  clear hk
  have hk := (F.out.keep _ (List.Mem.tail _ (List.Mem.head _))).1
  obtain ⟨⟨d0, d1, d2, d3, d4, d5, d6, d7, d8⟩, g0, g1, g2, g3, g4, g5, g6, g7, g8⟩ := nen hk
  have hld := heap_lt' hk
  clear hk
  go_wp2_with fail
  have F2 := Lib.hid (F.out.put9 1 rfl (c0 := .int .i64 sk) (c1 := .string (cbs sn)) (c2 := .string (cbs so)) (c3 := .int .i64 sd) (c4 := .slice sep sel sec) (c5 := .slice sbp sbl sbc) (c6 := .slice slp sll slc) (c7 := .int .i64 t.at_) (c8 := .int .i64 sr))
  clear F
  have F := F2
  clear F2
  have F2 := Lib.hid (F.out.alloc2 (.cells #[.int .i64 sk, .string (cbs sn), .string (cbs so), .int .i64 sd, .slice sep sel sec, .slice sbp sbl sbc, .slice slp sll slc, .int .i64 t.at_, .int .i64 sr] 101) (b := u2.heap.size) (by simp only [size_set]))
  clear F
  have F := F2
  clear F2
  exact bodyPost_ret (v := .agg #[.int .i64 sk, .string (cbs sn), .string (cbs so), .int .i64 sd, .slice sep sel sec, .slice sbp sbl sbc, .slice slp sll slc, .int .i64 t.at_, .int .i64 sr]) (by simp [results, Tryz.results128, go_sem, hld, d0, d1, d2, d3, d4, d5, d6, d7, d8]) rfl ⟨sk, sn, so, sd, sep, sel, sec, sbp, sbl, sbc, slp, sll, slc, t.at_, sr, rfl, SIs.put (SIs.lower (F.out.ag _ (List.Mem.head _)).2 _ (SIs.ag (F.out.ag _ (List.Mem.head _)).1 _ Hst.out)) t.at_, F.out.rq, F.out.gr⟩

set_option maxRecDepth 8000 in
set_option maxHeartbeats 4000000 in
theorem st_kind (w : World) (R M1 M2 : Nat) (S : Value) (ts : List RT) (s : St) (h : Rq w R M1 M2 S ts s) (y : Sm × St) (hF : ∀ w1 : World, Rq w1 R M1 M2 S ts s → Calls Tryz.prog 143 #[.pointer (some ⟨R, 0, none⟩)] w1 (StPost w1 R M1 M2 S ts y)) (kf : Nat) (hK : ¬ (peek ts s.c).kind = 3) (hL : ∀ w1 : World, w1.heap[M1]? = some (.map smapWord 6) → (Instr.lookup 148 (.map (some M1)) (.string (cbs (peek ts s.c).text)) true).run Tryz.prog w1 = .ok (.tuple #[.func (.func kf) #[] #[], .bool true]) w1) :
    Calls Tryz.prog 128 #[.pointer (some ⟨R, 0, none⟩)] w (StPost w R M1 M2 S ts (y.1.put (peek ts s.c).at_, y.2)) := by
  obtain ⟨t, ht⟩ : ∃ t, peek ts s.c = t := ⟨_, rfl⟩
  have HPK := Lib.hid (peek_ok R M1 M2 S ts s ht)
  rw [ht] at hL ⊢
  have HL := Lib.hid hL
  have HF := Lib.hid hF
  rw [ht] at hK
  have hkb : (t.kind != 3) = true := by simpa using hK
  clear hK
  clear ht hL hF
  have hlt := h.lt
  have HH := Lib.hid h
  have F := Lib.hid ((Fr.of h).alloc (.cells #[.int .i64 0, .string ⟨#[]⟩, .string ⟨#[]⟩, .int .i64 0, .slice none 0 0, .slice none 0 0, .slice none 0 0, .int .i64 0, .int .i64 0] 101))
  clear h
  go_enter Tryz.func128, Tryz.ntmps128
  go_wp2_with fail
  refine (HPK.out _ F.out.rq).mono ?_
  rintro e u1 ⟨rfl, hb⟩
  have F2 := Lib.hid (F.out.go hb)
  clear F
  have F := F2
  clear F2
  clear hb
  go_wp2_with fail
  have F2 := Lib.hid (F.out.alloc (.cells #[.int .i64 t.kind, .string (cbs t.text), .int .i64 t.num, .int .i64 t.at_] 66))
  clear F
  have F := F2
  clear F2
  have hntokZ := Nat.ne_of_gt ((List.pairwise_cons.1 F.out.nd).1 _ (List.Mem.head _))
  have hnZtok := Ne.symm hntokZ
  dsimp only at hntokZ hnZtok
  have hnt : R ≠ u1.heap.size := Nat.ne_of_lt (Nat.lt_of_lt_of_le hlt (F.out.keep _ (List.Mem.head _)).2)
  have hnt2 := Ne.symm hnt
  have F2 := Lib.hid (F.out.go (Below.refl _ _).drew)
  clear F
  have F := F2
  clear F2
  have o5 := F.out.rq.maps.1
  have hlk := HL.out _ F.out.rq.m1
  have hk := (F.out.keep _ (List.Mem.head _)).1
  obtain ⟨⟨t0, t1, t2, t3⟩, -⟩ := quad hk
  have hlt2 := heap_lt' hk
  clear hk
  go_region
  clear o5 hlk t0 t1 t2 t3 hlt2
  have hk := (F.out.keep _ (List.Mem.head _)).1
  obtain ⟨⟨t0, t1, t2, t3⟩, -⟩ := quad hk
  have hlt2 := heap_lt' hk
  clear hk
  go_wp2_with fail
  clear t0 t1 t2 t3 hlt2
  refine (HF.out _ F.out.rq).mono ?_
  rintro e u2 ⟨sk, sn, so, sd, sep, sel, sec, sbp, sbl, sbc, slp, sll, slc, sa, sr, rfl, hi, hr, hg⟩
  have Hst := Lib.hid hi
  have F2 := Lib.hid (F.out.call hr hg)
  clear F
  have F := F2
  clear F2
  clear hi hr hg
  have hk := (F.out.keep _ (List.Mem.head _)).1
  obtain ⟨⟨t0, t1, t2, t3⟩, -⟩ := quad hk
  have hlt2 := heap_lt' hk
  clear hk
  have hk := (F.out.keep _ (List.Mem.tail _ (List.Mem.head _))).1
  obtain ⟨⟨d0, d1, d2, d3, d4, d5, d6, d7, d8⟩, g0, g1, g2, g3, g4, g5, g6, g7, g8⟩ := nen hk
  have hld := heap_lt' hk
  clear hk
  go_wp2_with fail
  have F2 := Lib.hid (F.out.put9 1 rfl (c0 := .int .i64 sk) (c1 := .string (cbs sn)) (c2 := .string (cbs so)) (c3 := .int .i64 sd) (c4 := .slice sep sel sec) (c5 := .slice sbp sbl sbc) (c6 := .slice slp sll slc) (c7 := .int .i64 t.at_) (c8 := .int .i64 sr))
  clear F
  have F := F2
  clear F2
  have F2 := Lib.hid (F.out.alloc2 (.cells #[.int .i64 sk, .string (cbs sn), .string (cbs so), .int .i64 sd, .slice sep sel sec, .slice sbp sbl sbc, .slice slp sll slc, .int .i64 t.at_, .int .i64 sr] 101) (b := u2.heap.size) (by simp only [size_set]))
  clear F
  have F := F2
  clear F2
  exact bodyPost_ret (v := .agg #[.int .i64 sk, .string (cbs sn), .string (cbs so), .int .i64 sd, .slice sep sel sec, .slice sbp sbl sbc, .slice slp sll slc, .int .i64 t.at_, .int .i64 sr]) (by simp [results, Tryz.results128, go_sem, hld, d0, d1, d2, d3, d4, d5, d6, d7, d8]) rfl ⟨sk, sn, so, sd, sep, sel, sec, sbp, sbl, sbc, slp, sll, slc, t.at_, sr, rfl, SIs.put (SIs.lower (F.out.ag _ (List.Mem.head _)).2 _ (SIs.ag (F.out.ag _ (List.Mem.head _)).1 _ Hst.out)) t.at_, F.out.rq, F.out.gr⟩

set_option maxRecDepth 8000 in
set_option maxHeartbeats 4000000 in
theorem st_miss (w : World) (R M1 M2 : Nat) (S : Value) (ts : List RT) (s : St) (h : Rq w R M1 M2 S ts s) (y : Sm × St) (hF : ∀ w1 : World, Rq w1 R M1 M2 S ts s → Calls Tryz.prog 143 #[.pointer (some ⟨R, 0, none⟩)] w1 (StPost w1 R M1 M2 S ts y)) (hL : ∀ w1 : World, w1.heap[M1]? = some (.map smapWord 6) → (Instr.lookup 148 (.map (some M1)) (.string (cbs (peek ts s.c).text)) true).run Tryz.prog w1 = .ok (.tuple #[.nilFunc, .bool false]) w1) :
    Calls Tryz.prog 128 #[.pointer (some ⟨R, 0, none⟩)] w (StPost w R M1 M2 S ts (y.1.put (peek ts s.c).at_, y.2)) := by
  obtain ⟨t, ht⟩ : ∃ t, peek ts s.c = t := ⟨_, rfl⟩
  have HPK := Lib.hid (peek_ok R M1 M2 S ts s ht)
  rw [ht] at hL ⊢
  have HL := Lib.hid hL
  have HF := Lib.hid hF
  clear ht hL hF
  have hlt := h.lt
  have HH := Lib.hid h
  have F := Lib.hid ((Fr.of h).alloc (.cells #[.int .i64 0, .string ⟨#[]⟩, .string ⟨#[]⟩, .int .i64 0, .slice none 0 0, .slice none 0 0, .slice none 0 0, .int .i64 0, .int .i64 0] 101))
  clear h
  go_enter Tryz.func128, Tryz.ntmps128
  go_wp2_with fail
  refine (HPK.out _ F.out.rq).mono ?_
  rintro e u1 ⟨rfl, hb⟩
  have F2 := Lib.hid (F.out.go hb)
  clear F
  have F := F2
  clear F2
  clear hb
  go_wp2_with fail
  have F2 := Lib.hid (F.out.alloc (.cells #[.int .i64 t.kind, .string (cbs t.text), .int .i64 t.num, .int .i64 t.at_] 66))
  clear F
  have F := F2
  clear F2
  have hntokZ := Nat.ne_of_gt ((List.pairwise_cons.1 F.out.nd).1 _ (List.Mem.head _))
  have hnZtok := Ne.symm hntokZ
  dsimp only at hntokZ hnZtok
  have hnt : R ≠ u1.heap.size := Nat.ne_of_lt (Nat.lt_of_lt_of_le hlt (F.out.keep _ (List.Mem.head _)).2)
  have hnt2 := Ne.symm hnt
  have F2 := Lib.hid (F.out.go (Below.refl _ _).drew)
  clear F
  have F := F2
  clear F2
  have o5 := F.out.rq.maps.1
  have hlk := HL.out _ F.out.rq.m1
  have hk := (F.out.keep _ (List.Mem.head _)).1
  obtain ⟨⟨t0, t1, t2, t3⟩, -⟩ := quad hk
  have hlt2 := heap_lt' hk
  clear hk
  go_region
  clear o5 hlk t0 t1 t2 t3 hlt2
  have hk := (F.out.keep _ (List.Mem.head _)).1
  obtain ⟨⟨t0, t1, t2, t3⟩, -⟩ := quad hk
  have hlt2 := heap_lt' hk
  clear hk
  go_wp2_with fail
  clear t0 t1 t2 t3 hlt2
  refine (HF.out _ F.out.rq).mono ?_
  rintro e u2 ⟨sk, sn, so, sd, sep, sel, sec, sbp, sbl, sbc, slp, sll, slc, sa, sr, rfl, hi, hr, hg⟩
  have Hst := Lib.hid hi
  have F2 := Lib.hid (F.out.call hr hg)
  clear F
  have F := F2
  clear F2
  clear hi hr hg
  have hk := (F.out.keep _ (List.Mem.head _)).1
  obtain ⟨⟨t0, t1, t2, t3⟩, -⟩ := quad hk
  have hlt2 := heap_lt' hk
  clear hk
  have hk := (F.out.keep _ (List.Mem.tail _ (List.Mem.head _))).1
  obtain ⟨⟨d0, d1, d2, d3, d4, d5, d6, d7, d8⟩, g0, g1, g2, g3, g4, g5, g6, g7, g8⟩ := nen hk
  have hld := heap_lt' hk
  clear hk
  go_wp2_with fail
  have F2 := Lib.hid (F.out.put9 1 rfl (c0 := .int .i64 sk) (c1 := .string (cbs sn)) (c2 := .string (cbs so)) (c3 := .int .i64 sd) (c4 := .slice sep sel sec) (c5 := .slice sbp sbl sbc) (c6 := .slice slp sll slc) (c7 := .int .i64 t.at_) (c8 := .int .i64 sr))
  clear F
  have F := F2
  clear F2
  have F2 := Lib.hid (F.out.alloc2 (.cells #[.int .i64 sk, .string (cbs sn), .string (cbs so), .int .i64 sd, .slice sep sel sec, .slice sbp sbl sbc, .slice slp sll slc, .int .i64 t.at_, .int .i64 sr] 101) (b := u2.heap.size) (by simp only [size_set]))
  clear F
  have F := F2
  clear F2
  exact bodyPost_ret (v := .agg #[.int .i64 sk, .string (cbs sn), .string (cbs so), .int .i64 sd, .slice sep sel sec, .slice sbp sbl sbc, .slice slp sll slc, .int .i64 t.at_, .int .i64 sr]) (by simp [results, Tryz.results128, go_sem, hld, d0, d1, d2, d3, d4, d5, d6, d7, d8]) rfl ⟨sk, sn, so, sd, sep, sel, sec, sbp, sbl, sbc, slp, sll, slc, t.at_, sr, rfl, SIs.put (SIs.lower (F.out.ag _ (List.Mem.head _)).2 _ (SIs.ag (F.out.ag _ (List.Mem.head _)).1 _ Hst.out)) t.at_, F.out.rq, F.out.gr⟩
end Go.Proofs.YtnadaedibicaaaaGreatDoor
