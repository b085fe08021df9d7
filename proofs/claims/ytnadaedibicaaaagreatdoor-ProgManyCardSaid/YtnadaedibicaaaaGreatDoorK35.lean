/-
  The project's reader of programs: parameters, a global variable, a record.
-/
import Derived.Test.YtnadaedibicaaaaGreatDoorK34
namespace Go.Proofs.YtnadaedibicaaaaGreatDoor
open Go.RowKit
open Px (RT tokAt)
open Pe
open Ps (Sm PX)
open Pg (BX Pm Rc Fc Gm)

/-- Names with their types in memory, one behind the other. -/
def PsAt (w : World) (B : Nat) (q : Option Addr) (l : List Pm) : Prop :=
  l = [] ∨ ∃ bl off, q = some ⟨bl, off, none⟩ ∧ bl < w.heap.size ∧ B ≤ bl ∧ ∀ (i : Nat) v, (l.flatMap pmCells)[i]? = some v → w.cell? ⟨bl, off + i, none⟩ = some v
theorem PsAt.nil {w : World} {B : Nat} {q : Option Addr} : PsAt w B q [] := .inl rfl
theorem PsAt.ag {w w' : World} {B : Nat} {p : Option Addr} {l : List Pm} (h : PsAt w B p l) (g : Ag B w w') : PsAt w' B p l := by
  rcases h with h0 | ⟨bl, off, hp, hb, hne, ha⟩
  · exact .inl h0
  · exact .inr ⟨bl, off, hp, Nat.lt_of_lt_of_le hb g.size, hne, fun i v hv => by rw [cell_same (g.block bl hne hb)]; exact ha i v hv⟩
theorem PsAt.lower {w : World} {B B2 : Nat} {q : Option Addr} {l : List Pm} (h : PsAt w B q l) (hB : B2 ≤ B) : PsAt w B2 q l := by
  rcases h with h0 | ⟨bl, off, hp, hb, hne, ha⟩
  · exact .inl h0
  · exact .inr ⟨bl, off, hp, hb, Nat.le_trans hB hne, ha⟩
theorem PsAt.own {w : World} {B : Nat} {p : Option Addr} {n c : Nat} {l : List Pm} {T : TypeId} (h : w.ownsRow B T 4 (.slice p n c) l.length (l.flatMap pmCells)) : n = l.length ∧ PsAt w B p l := by
  rcases h.2 with ⟨hv, h0⟩ | ⟨g, cap, cur, hv, hb, hc, hn, hcap, hsize, htake⟩
  · obtain rfl := List.eq_nil_of_length_eq_zero h0
    injection hv with _ hn
    exact ⟨hn, .inl rfl⟩
  · injection hv with hp hn' _
    refine ⟨hn', .inr ⟨g, 0, hp, heap_lt' hc, hb, fun i v hv => ?_⟩⟩
    have := World.ownsRow.cells ⟨h.1, .inr ⟨g, cap, cur, rfl, hb, hc, hn, hcap, hsize, htake⟩⟩ (g := g) rfl i v hv
    have hadd : (⟨g, 0, none⟩ : Addr).add i = ⟨g, i, none⟩ := by unfold Addr.add; split <;> simp_all
    rw [hadd] at this
    rw [Nat.zero_add]
    exact this
theorem PmSt.start {w wr : World} {R : Nat} {S : Value} {ts : List RT} {s s0 : Cs} {B : Nat} (h0 : Cg w R S ts s0) (h : Cg wr R S ts s) (hg : Gr R w wr) (h1 : w.heap.size ≤ B) (h2 : B ≤ wr.heap.size) : PmSt w R S ts B (.slice none 0 0) [] s wr :=
  ⟨h, hg, h1, h2, World.ownsRow_nil _ _ _ _, s0, h0⟩
theorem pl_no {ts : List RT} {g : Nat} {l : List Pm} {s : Cs} {x : List Pm × Cs} (h : Pg.parLoop ts (g + 1) l s = some x) (hv : sees ts s 4 [44] = false) : x = (l, s) := by
  rw [Pg.parLoop, if_neg (by rw [hv]; simp)] at h
  exact (Option.some.inj h).symm
theorem pl_yes {ts : List RT} {g : Nat} {l : List Pm} {s : Cs} {x : List Pm × Cs} (h : Pg.parLoop ts (g + 1) l s = some x) (hv : sees ts s 4 [44] = true) : Pg.parLoop ts g (Pg.oneMore ts l 6 (next s)).1 (Pg.oneMore ts l 6 (next s)).2 = some x := by
  rw [Pg.parLoop, if_pos hv] at h
  exact h
theorem fl_no {ts : List RT} {g : Nat} {l : List Pm} {s : Cs} {x : List Pm × Cs} (h : Pg.fieldLoop ts (g + 1) l s = some x) (hv : ¬ (peek ts s).kind = 1) : x = (l, s) := by
  rw [Pg.fieldLoop, if_neg hv] at h
  exact (Option.some.inj h).symm
theorem fl_yes {ts : List RT} {g : Nat} {l : List Pm} {s : Cs} {x : List Pm × Cs} (h : Pg.fieldLoop ts (g + 1) l s = some x) (hv : (peek ts s).kind = 1) : Pg.fieldLoop ts g (Pg.oneMore ts l 8 s).1 (Pg.sg ts (Pg.oneMore ts l 8 s).2 [59]) = some x := by
  rw [Pg.fieldLoop, if_pos hv] at h
  exact h
theorem more_len (ts : List RT) (l : List Pm) (m : Int) (s : Cs) : (Pg.oneMore ts l m s).1.length = l.length + 1 := by simp [Pg.oneMore]
/-- What a step that reads a list of parameters ends in. -/
def PlPost (w : World) (R : Nat) (S : Value) (ts : List RT) (x : List Pm × Cs) (e : Ending) (w' : World) : Prop :=
  ∃ (p : Option Addr) (c : Nat), e = .returned (.slice p x.1.length c) ∧ PsAt w' w.heap.size p x.1 ∧ Cu w' R 57 S [] ts x.2 ∧ Gr R w w'

set_option maxRecDepth 8000 in
set_option maxHeartbeats 8000000 in
theorem parameters_any (w : World) (R : Nat) (S : Value) (ts : List RT) (s : Cs) (h : Cg w R S ts s) (g : Nat) (hg : g ≤ 900000000) (x : List Pm × Cs) (hx : Pg.params ts g s = some x) :
    Calls Tryz.prog 74 #[.pointer (some ⟨R, 0, none⟩)] w (PlPost w R S ts x) := by
  obtain ⟨l3, s3, h3, rfl⟩ : ∃ l3 s3, Pg.parLoop ts g (Pg.parFirst ts (Pg.sg ts s [40])).1 (Pg.parFirst ts (Pg.sg ts s [40])).2 = some (l3, s3) ∧ x = (l3, Pg.sg ts s3 [41]) := by
    unfold Pg.params at hx
    split at hx
    · cases hx
    · rename_i l s2 hl
      exact ⟨l, s2, hl, (Option.some.inj hx).symm⟩
  obtain ⟨s1, hs1⟩ : ∃ s1, Pg.sg ts s [40] = s1 := ⟨_, rfl⟩
  rw [hs1] at h3
  have HS1 := Lib.hid hs1
  have H3 := Lib.hid h3
  have HH := Lib.hid h
  have HG9 := Lib.hid hg
  have hlt := h.lt
  clear h hx hs1 h3 hg
  cases hv : sees ts s1 4 [41] with
  | true =>
    have HV := Lib.hid hv
    have hpf : Pg.parFirst ts s1 = ([], s1) := if_pos hv
    have H4 := H3.out
    rw [hpf] at H4
    replace H3 := Lib.hid H4
    clear H4 hpf hv
    go_enter Tryz.func74, Tryz.ntmps74
    go_wp2_with fail
    refine (sign_any _ R _ S _ ts s HH.out.cu ⟨#[40]⟩).mono ?_
    rw [show (sign ts s [40]).2 = s1 from HS1.out]
    rintro e w1 ⟨rfl, hc, hg⟩
    have G := Lib.hid (PmSt.start HH.out (HH.out.gr hg hc) hg (Nat.le_refl _) hg.size)
    clear hc hg
    go_wp2_with fail
    refine (seesSign_any _ R _ S _ ts s1 G.out.cg.cu ⟨#[41]⟩).mono ?_
    rw [show sees ts s1 4 [41] = true from HV.out]
    rintro e w2 ⟨rfl, hb⟩
    replace G := Lib.hid (G.out.go hb)
    clear hb
    go_wp2_with fail
    go_loopg [3] g (fun n v wr => ∃ l s4, PmSt w R S ts w.heap.size v l s4 wr ∧ Pg.parLoop ts n l s4 = some (l3, s3) ∧ l.length + n ≤ 1000000000)
    case atStart => exact ⟨_, _, G.out, H3.out, by have := HG9.out; (try rw [more_len]); simp; omega⟩
    case round =>
      obtain ⟨l, s4, ha, h3, hbd⟩ := hrel
      have GA := Lib.hid ha
      have H4 := Lib.hid h3
      have HBD := Lib.hid hbd
      clear ha h3 hbd G H3
      cases gk with
      | zero => exact absurd H4.out (by rw [Pg.parLoop]; simp)
      | succ m =>
        go_wp2_with fail
        refine (seesSign_any _ R _ S _ ts s4 GA.out.cg.cu ⟨#[44]⟩).mono ?_
        rintro e w5 ⟨rfl, hb⟩
        replace GA := Lib.hid (GA.out.go hb)
        clear hb
        cases hv : sees ts s4 4 [44] with
        | false =>
          obtain ⟨rfl, rfl⟩ := Prod.mk.inj (pl_no H4.out hv)
          try rw [hv]
          clear hv
          go_wp2_with fail
          refine (sign_any _ R _ S _ ts _ GA.out.cg.cu ⟨#[41]⟩).mono ?_
          rintro e w7 ⟨rfl, hc, hg⟩
          replace GA := Lib.hid (GA.out.step hc hg)
          clear hc hg
          go_wp2_with fail
          obtain ⟨p, c, hpv⟩ := own_slice GA.out.own
          have hown := GA.out.own
          rw [hpv] at hown
          exact bodyPost_ret (v := u3) (by simp [results, Tryz.results74, go_sem]) rfl ⟨p, c, by rw [hpv], (PsAt.own hown).2, GA.out.cg.cu, GA.out.gr⟩
        | true =>
          have H5 := Lib.hid (pl_yes H4.out hv)
          try rw [hv]
          clear hv H4
          go_wp2_with fail
          refine (next_any _ R _ S _ ts s4 GA.out.cg.cu).mono ?_
          rintro e w6 ⟨rfl, hc, hg⟩
          replace GA := Lib.hid (GA.out.step hc hg)
          clear hc hg
          go_wp2_with fail
          refine (oneMore_any w _ R S ts _ _ l (next s4) GA.out (by have := HBD.out; omega) 6).mono ?_
          rintro e w8 ⟨v8, rfl, hG, -⟩
          replace GA := Lib.hid hG
          clear hG
          go_wp2_with fail
          go_roundg m
          case measure => omega
          case rel => exact ⟨_, _, GA.out, H5.out, by rw [more_len]; have := HBD.out; omega⟩
  | false =>
    have HV := Lib.hid hv
    have hpf : Pg.parFirst ts s1 = Pg.oneMore ts [] 6 s1 := if_neg (by rw [hv]; decide)
    have H4 := H3.out
    rw [hpf] at H4
    replace H3 := Lib.hid H4
    clear H4 hpf hv
    go_enter Tryz.func74, Tryz.ntmps74
    go_wp2_with fail
    refine (sign_any _ R _ S _ ts s HH.out.cu ⟨#[40]⟩).mono ?_
    rw [show (sign ts s [40]).2 = s1 from HS1.out]
    rintro e w1 ⟨rfl, hc, hg⟩
    have G := Lib.hid (PmSt.start HH.out (HH.out.gr hg hc) hg (Nat.le_refl _) hg.size)
    clear hc hg
    go_wp2_with fail
    refine (seesSign_any _ R _ S _ ts s1 G.out.cg.cu ⟨#[41]⟩).mono ?_
    rw [show sees ts s1 4 [41] = false from HV.out]
    rintro e w2 ⟨rfl, hb⟩
    replace G := Lib.hid (G.out.go hb)
    clear hb
    go_wp2_with fail
    refine (oneMore_any w _ R S ts _ _ [] s1 G.out (Nat.zero_le _) 6).mono ?_
    rintro e w3 ⟨v3, rfl, hG, -⟩
    replace G := Lib.hid hG
    clear hG
    go_wp2_with fail
    go_loopg [3] g (fun n v wr => ∃ l s4, PmSt w R S ts w.heap.size v l s4 wr ∧ Pg.parLoop ts n l s4 = some (l3, s3) ∧ l.length + n ≤ 1000000000)
    case atStart => exact ⟨_, _, G.out, H3.out, by have := HG9.out; (try rw [more_len]); simp; omega⟩
    case round =>
      obtain ⟨l, s4, ha, h3, hbd⟩ := hrel
      have GA := Lib.hid ha
      have H4 := Lib.hid h3
      have HBD := Lib.hid hbd
      clear ha h3 hbd G H3
      cases gk with
      | zero => exact absurd H4.out (by rw [Pg.parLoop]; simp)
      | succ m =>
        go_wp2_with fail
        refine (seesSign_any _ R _ S _ ts s4 GA.out.cg.cu ⟨#[44]⟩).mono ?_
        rintro e w5 ⟨rfl, hb⟩
        replace GA := Lib.hid (GA.out.go hb)
        clear hb
        cases hv : sees ts s4 4 [44] with
        | false =>
          obtain ⟨rfl, rfl⟩ := Prod.mk.inj (pl_no H4.out hv)
          try rw [hv]
          clear hv
          go_wp2_with fail
          refine (sign_any _ R _ S _ ts _ GA.out.cg.cu ⟨#[41]⟩).mono ?_
          rintro e w7 ⟨rfl, hc, hg⟩
          replace GA := Lib.hid (GA.out.step hc hg)
          clear hc hg
          go_wp2_with fail
          obtain ⟨p, c, hpv⟩ := own_slice GA.out.own
          have hown := GA.out.own
          rw [hpv] at hown
          exact bodyPost_ret (v := u3) (by simp [results, Tryz.results74, go_sem]) rfl ⟨p, c, by rw [hpv], (PsAt.own hown).2, GA.out.cg.cu, GA.out.gr⟩
        | true =>
          have H5 := Lib.hid (pl_yes H4.out hv)
          try rw [hv]
          clear hv H4
          go_wp2_with fail
          refine (next_any _ R _ S _ ts s4 GA.out.cg.cu).mono ?_
          rintro e w6 ⟨rfl, hc, hg⟩
          replace GA := Lib.hid (GA.out.step hc hg)
          clear hc hg
          go_wp2_with fail
          refine (oneMore_any w _ R S ts _ _ l (next s4) GA.out (by have := HBD.out; omega) 6).mono ?_
          rintro e w8 ⟨v8, rfl, hG, -⟩
          replace GA := Lib.hid hG
          clear hG
          go_wp2_with fail
          go_roundg m
          case measure => omega
          case rel => exact ⟨_, _, GA.out, H5.out, by rw [more_len]; have := HBD.out; omega⟩

set_option maxRecDepth 8000 in
set_option maxHeartbeats 8000000 in
theorem global_any (w : World) (R : Nat) (S : Value) (ts : List RT) (s : Cs) (h : Cg w R S ts s) :
    Calls Tryz.prog 48 #[.pointer (some ⟨R, 0, none⟩)] w fun e w' => e = .returned (pmW (Pg.global ts s).1) ∧ Cu w' R 57 S [] ts (Pg.global ts s).2 ∧ Gr R w w' := by
  obtain ⟨d, s1, hD⟩ : ∃ d s1, Pg.declared ts (next s) = (d, s1) := ⟨_, _, rfl⟩
  have hx : Pg.global ts s = (d, Pg.sg ts s1 [59]) := by simp only [Pg.global, hD]
  rw [hx]
  have HD := Lib.hid hD
  have hlt := h.lt
  have G := Lib.hid ((Fr.og h).alloc (.cells #[.string ⟨#[]⟩, .string ⟨#[]⟩, .int .i64 0, .int .i64 0] 71))
  clear h hx hD
  obtain ⟨nm, on, dm, a⟩ := d
  go_enter Tryz.func48, Tryz.ntmps48
  go_wp2_with fail
  refine (next_any _ R _ S _ ts s G.out.cg.cu).mono ?_
  rintro e u1 ⟨rfl, hc, hg⟩
  replace G := Lib.hid (G.out.cuG hc hg)
  clear hc hg
  go_wp2_with fail
  refine (declared_any _ R S ts _ G.out.cg).mono ?_
  rw [HD.out]
  rintro e u2 ⟨rfl, hc, hg⟩
  replace G := Lib.hid (G.out.cuG hc hg)
  clear hc hg
  unfold pmW
  go_wp2_with fail
  replace G := Lib.hid (G.out.alloc (.cells #[.string (cbs nm), .string (cbs on), .int .i64 dm, .int .i64 a] 71))
  have hnd := G.out.below1
  have hne := Ne.symm hnd
  dsimp only at hnd hne
  refine (sign_any _ R _ S _ ts s1 G.out.cg.cu ⟨#[59]⟩).mono ?_
  rintro e u3 ⟨rfl, hc, hg⟩
  replace G := Lib.hid (G.out.cuG hc hg)
  clear hc hg
  have hk := G.out.keep _ (List.Mem.head _)
  obtain ⟨⟨d0, d1, d2, d3⟩, p0, p1, p2, p3⟩ := quad hk.1
  have hld := heap_lt' hk.1
  clear hk
  have hk := G.out.keep _ (List.Mem.tail _ (List.Mem.head _))
  obtain ⟨⟨a0, a1, a2, a3⟩, q0, q1, q2, q3⟩ := quad hk.1
  have hla := heap_lt' hk.1
  clear hk
  go_wp2_with fail
  replace G := Lib.hid (G.out.put4 1 rfl (c0 := .string (cbs nm)) (c1 := .string (cbs on)) (c2 := .int .i64 dm) (c3 := .int .i64 a))
  exact bodyPost_ret (v := .agg #[.string (cbs nm), .string (cbs on), .int .i64 dm, .int .i64 a]) (by simp [results, Tryz.results48, go_sem, a0, a1, a2, a3]) rfl ⟨rfl, G.out.cg.cu, G.out.gr⟩
end Go.Proofs.YtnadaedibicaaaaGreatDoor
