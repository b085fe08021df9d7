/-
  The walk of StmtSame: of the statements of two texts the program and the answer say the same, whether they are alike.
-/
import Derived.Test.YtnnbdidefgghjaaGreatDoorK43
import Derived.Test.YtnnbdidefgghjaaGreatDoorK45
import Derived.Test.YtnnbdidefgghjaaGreatDoorK46
namespace Go.Proofs.YtnnbdidefgghjaaGreatDoor
open Go.RowKit
open Px (RT tokAt)
open Pe
open Ps (Sm PX)

theorem cat5 (a b : ByteArray) (h : a.size + b.size ≤ 9223372036854775807) (w' : World) : (binOp .add 9 (.string a) (.string b)).run Tryz.prog w' = .ok (.string (a ++ b)) w' := by
  simp [go_sem, h]
theorem app_size (a b : ByteArray) : (a ++ b).size = a.size + b.size := by simp
set_option maxRecDepth 8000 in
set_option maxHeartbeats 16000000 in
theorem stmtSame_walk (s t : ByteArray) (hs : s.size ≤ 140737488351232) (ht : t.size ≤ 140737488351232) (w : World) (hops : OpsIn w) :
    Calls Tryz.prog 6 #[.string s, .string t] w fun e w' => e = .returned (.bool true) ∧ Below w.heap.size w w' := by
  obtain ⟨a, ha⟩ : ∃ a, a = (⟨#[123]⟩ : ByteArray) ++ s ++ ⟨#[125]⟩ := ⟨_, rfl⟩
  obtain ⟨b, hb⟩ : ∃ b, b = (⟨#[123, 10]⟩ : ByteArray) ++ t ++ ⟨#[125]⟩ := ⟨_, rfl⟩
  have ha1 : a.size ≤ maxLen := by rw [ha, app_size, app_size]; show 1 + _ + 1 ≤ _; unfold maxLen; omega
  have hb1 : b.size ≤ maxLen := by rw [hb, app_size, app_size]; show 2 + _ + 1 ≤ _; unfold maxLen; omega
  have j1 : ∀ w', (Op.stringOp .add (⟨#[123]⟩ : ByteArray) s).run Tryz.prog w' = .ok (.string (⟨#[123]⟩ ++ s)) w' := fun w' => cat5 _ _ (by show 1 + _ ≤ _; omega) w'
  have j2 : ∀ w', (Op.stringOp .add ((⟨#[123]⟩ : ByteArray) ++ s) ⟨#[125]⟩).run Tryz.prog w' = .ok (.string a) w' := fun w' => by rw [ha]; exact cat5 _ _ (by rw [app_size]; show 1 + _ + 1 ≤ _; omega) w'
  have j3 : ∀ w', (Op.stringOp .add (⟨#[123, 10]⟩ : ByteArray) t).run Tryz.prog w' = .ok (.string (⟨#[123, 10]⟩ ++ t)) w' := fun w' => cat5 _ _ (by show 2 + _ ≤ _; omega) w'
  have j4 : ∀ w', (Op.stringOp .add ((⟨#[123, 10]⟩ : ByteArray) ++ t) ⟨#[125]⟩).run Tryz.prog w' = .ok (.string b) w' := fun w' => by rw [hb]; exact cat5 _ _ (by rw [app_size]; show 2 + _ + 1 ≤ _; omega) w'
  obtain ⟨us, E, K, htk⟩ : ∃ us E K, Ln.Lx.toks a.data.toList = (us, E, K) := ⟨_, _, _, rfl⟩
  have hlen : us.length ≤ 6001 := by have := Ln.Lx.toks_len a.data.toList; rw [htk] at this; exact this
  have hsh : ∀ t ∈ us, t.text.length ≤ 281474976710656 := by have := toks_text a.data.toList; rw [htk] at this; exact this
  have HTK := Lib.hid (fun w1 => tokens_are a ha1 us E K htk w1)
  obtain ⟨us2, E2, K2, htk2⟩ : ∃ us E K, Ln.Lx.toks b.data.toList = (us, E, K) := ⟨_, _, _, rfl⟩
  have hlen2 : us2.length ≤ 6001 := by have := Ln.Lx.toks_len b.data.toList; rw [htk2] at this; exact this
  have hsh2 : ∀ t ∈ us2, t.text.length ≤ 281474976710656 := by have := toks_text b.data.toList; rw [htk2] at this; exact this
  have HTK2 := Lib.hid (fun w1 => tokens_are b hb1 us2 E2 K2 htk2 w1)
  have hll : (us.map toRT).length ≤ 6001 := by rw [List.length_map]; exact hlen
  have hll2 : (us2.map toRT).length ≤ 6001 := by rw [List.length_map]; exact hlen2
  obtain ⟨⟨la, ea, EA, FA⟩, -, hqa⟩ := Sim.block_same (ts := us.map toRT) (by omega) (isP_of (by omega)) 0 0
  obtain ⟨⟨lb, eb, EB, FB⟩, -, hqb⟩ := Sim.block_same (ts := us2.map toRT) (by omega) (isP_of (by omega)) 0 0
  have hfa := Sim.fit_parseB (by omega) hqa
  have hfb := Sim.fit_parseB (by omega) hqb
  have hen : Sim.enough (us.map toRT) ≤ 1000000000 := by unfold Sim.enough; omega
  have hen2 : Sim.enough (us2.map toRT) ≤ 1000000000 := by unfold Sim.enough; omega
  have HQA := Lib.hid (fun w1 R0 S (h : Toks w1 R0 S (us.map toRT)) => qBlock_entry w1 R0 S (us.map toRT) _ (qx_ok _ _ hen) 0 0 h _ hen _ hqa)
  have HQB := Lib.hid (fun w1 R0 S (h : Toks w1 R0 S (us2.map toRT)) => qBlock_entry w1 R0 S (us2.map toRT) _ (qx_ok _ _ hen2) 0 0 h _ hen2 _ hqb)
  dsimp only at HQA HQB hfa hfb
  have HFA := Lib.hid hfa
  have HFB := Lib.hid hfb
  have HSH := Lib.hid hsh
  have HSH2 := Lib.hid hsh2
  have HOP := Lib.hid hops
  clear htk htk2 hlen hlen2 hsh hsh2 hll hll2 hqa hqb hfa hfb hen hen2 hops ha hb ha1 hb1 hs ht
  go_enter Tryz.func6, Tryz.ntmps6
  go_wp2_with fail
  refine (HTK.out w).mono ?_
  rintro e ua ⟨A, ca, rfl, hl1, hb1⟩
  obtain ⟨va, hva⟩ : ∃ va, va = ua.alloc (.cells #[.int .i64 ((E : Nat) : Int), .int .i64 ((K : Nat) : Int)] 25) := ⟨_, rfl⟩
  have hbv : Below ua.heap.size ua va := by rw [hva]; exact bl_alloc (Below.refl _ _)
  have HT1 := Lib.hid (((toks_of (c := ca) hl1 HSH.out).below hbv).re (Nat.le_refl _))
  have HB1 := Lib.hid (below_seq hb1 hbv hb1.size)
  have HK1 : Hid (va.heap[ua.heap.size]? = some (.cells #[.int .i64 ((E : Nat) : Int), .int .i64 ((K : Nat) : Int)] 25 (0, 0))) := Lib.hid (by rw [hva]; exact heap_alloc_new ua _)
  clear hl1 hb1 hbv HTK
  go_wp2_with fail
  rw [← hva]
  clear hva j1 j2
  refine (HTK2.out va).mono ?_
  rintro e ub ⟨A2, cb, rfl, hl2, hb2⟩
  obtain ⟨vb, hvb⟩ : ∃ vb, vb = ub.alloc (.cells #[.int .i64 ((E2 : Nat) : Int), .int .i64 ((K2 : Nat) : Int)] 25) := ⟨_, rfl⟩
  have hbv : Below ub.heap.size ub vb := by rw [hvb]; exact bl_alloc (Below.refl _ _)
  have hab := below_seq hb2 hbv hb2.size
  have HT2 := Lib.hid (((toks_of (c := cb) hl2 HSH2.out).below hbv).re (Nat.le_refl _))
  have HT1b := Lib.hid (HT1.out.below hab)
  have HB2 := Lib.hid (below_seq HB1.out hab HB1.out.size)
  obtain ⟨⟨f0, f1⟩, -, lf⟩ := duo ((hb2.block _ (heap_lt' HK1.out)).trans HK1.out)
  clear hl2 hb2 hbv hab HTK2 HT1 HK1 f1 j3 j4
  by_cases h1 : 1000 < s.size
  · go_wp2_with fail
    go_ret
    exact ⟨rfl, by rw [← hvb]; exact HB2.out⟩
  by_cases h2 : 1000 < t.size
  · have h1' : s.size ≤ 1000 := by omega
    clear h1
    go_wp2_with fail
    go_ret
    exact ⟨rfl, by rw [← hvb]; exact HB2.out⟩
  have h1' : s.size ≤ 1000 := by omega
  have h2' : t.size ≤ 1000 := by omega
  clear h1 h2
  by_cases h3 : E = 0
  rotate_left
  · have hE2 : ((E : Int) != 0) = true := by rw [bne_iff_ne]; omega
    have hE3 : (E != 0) = true := by rw [bne_iff_ne]; exact h3
    clear h3
    go_wp2_with fail
    go_ret
    exact ⟨rfl, by rw [← hvb]; exact HB2.out⟩
  subst h3
  by_cases h4 : E2 = 0
  rotate_left
  · have hE2 : ((E2 : Int) != 0) = true := by rw [bne_iff_ne]; omega
    have hE3 : (E2 != 0) = true := by rw [bne_iff_ne]; exact h4
    clear h4
    go_wp2_with fail
    go_ret
    exact ⟨rfl, by rw [← hvb]; exact HB2.out⟩
  subst h4
  rw [show ((0 : Nat) : Int) = 0 from rfl] at hvb
  go_wp2_with fail
  rw [← hvb]
  clear hvb f0 lf
  refine (HQA.out _ _ _ HT1b.out).mono ?_
  rintro e uc ⟨p, c, rfl, hla, hb⟩
  obtain ⟨vc, hvc⟩ : ∃ vc, vc = uc.alloc (.cells #[.int .i64 EA, .int .i64 FA] 25) := ⟨_, rfl⟩
  have hbv : Below uc.heap.size uc vc := by rw [hvc]; exact bl_alloc (Below.refl _ _)
  have hab := below_seq hb hbv hb.size
  have HLA := Lib.hid ((hla.below hbv).lower (Nat.zero_le _))
  have HT2b := Lib.hid (HT2.out.below hab)
  have HB3 := Lib.hid (below_seq HB2.out hab HB2.out.size)
  clear hla hb hbv hab HQA HT1b HT2 HB2
  go_wp2_with fail
  rw [← hvc]
  clear hvc
  refine (HQB.out _ _ _ HT2b.out).mono ?_
  rintro e ud ⟨q, d, rfl, hlb, hb⟩
  obtain ⟨vd, hvd⟩ : ∃ vd, vd = ud.alloc (.cells #[.int .i64 EB, .int .i64 FB] 25) := ⟨_, rfl⟩
  have hbv : Below ud.heap.size ud vd := by rw [hvd]; exact bl_alloc (Below.refl _ _)
  have hab := below_seq hb hbv hb.size
  have HLB := Lib.hid ((hlb.below hbv).lower (Nat.zero_le _))
  have HLA2 := Lib.hid (HLA.out.below hab)
  have HB4 := Lib.hid (below_seq HB3.out hab HB3.out.size)
  clear hlb hb hbv hab HQB HT2b HLA HB3
  go_wp2_with fail
  rw [← hvd]
  clear hvd
  have HKN := Lib.hid (fun w1 (hb : Below vd.heap.size vd w1) => known4_any w1 (ops_below HOP.out (below_seq HB4.out hb HB4.out.size)))
  go_loopg [15] la.length (fun m v wr => ∃ j : Nat, m + j = la.length ∧ v = .int .i64 (j : Int) ∧ Below vd.heap.size vd wr)
  case atStart => exact ⟨0, rfl, rfl, Below.refl _ _⟩
  case round =>
    obtain ⟨j, hj, rfl, hb⟩ := hrel
    have HBE := Lib.hid hb
    have HJ := Lib.hid hj
    clear hb hj
    by_cases hin : j < la.length ∧ j < 12
    rotate_left
    · obtain ⟨v, hv⟩ : ∃ v, (decide ((j : Int) < (la.length : Int)) && decide ((j : Int) < 12)) = v := ⟨_, rfl⟩
      by_cases hi1 : j < la.length
      · have hd1 : decide ((j : Int) < (la.length : Int)) = true := decide_eq_true (by omega)
        have hd2 : decide ((j : Int) < 12) = false := decide_eq_false (by omega)
        have hd2' : decide (j < 12) = false := decide_eq_false (by omega)
        have hd1' : decide (j < la.length) = true := decide_eq_true (by omega)
        clear hv hin hi1
        go_wp2_with fail
        refine (HKN.out _ HBE.out).mono ?_
        rintro e z1 ⟨rfl, hb⟩
        go_wp2_with fail
        go_ret
        exact ⟨rfl, below_seq HB4.out (below_seq HBE.out hb HBE.out.size) HB4.out.size⟩
      · have hd1 : decide ((j : Int) < (la.length : Int)) = false := decide_eq_false (by omega)
        have hd1' : decide (j < la.length) = false := decide_eq_false (by omega)
        clear hv hin hi1
        go_wp2_with fail
        refine (HKN.out _ HBE.out).mono ?_
        rintro e z1 ⟨rfl, hb⟩
        go_wp2_with fail
        go_ret
        exact ⟨rfl, below_seq HB4.out (below_seq HBE.out hb HBE.out.size) HB4.out.size⟩
    obtain ⟨hjl, hj12⟩ := hin
    obtain ⟨m, hm⟩ : ∃ m, gk = m + 1 := ⟨gk - 1, by have := HJ.out; omega⟩
    have HM := Lib.hid hm
    clear hm
    have hd1 : decide ((j : Int) < (la.length : Int)) = true := decide_eq_true (by omega)
    have hd2 : decide ((j : Int) < 12) = true := decide_eq_true (by omega)
    have hd1' : decide (j < la.length) = true := decide_eq_true (by omega)
    have hd2' : decide (j < 12) = true := decide_eq_true (by omega)
    have hi1 : (j : Int) < (la.length : Int) := by omega
    have hdw : wrap64 ((j : Int) + 1) = ((j + 1 : Nat) : Int) := by simp [wrap64]; omega
    have he1 := List.getElem?_eq_getElem hjl
    have hf1 := fitML_mem HFA.out.1 (List.getElem_mem hjl)
    generalize la[j] = e1 at he1 hf1
    have HE1 := Lib.hid he1
    have HF1 := Lib.hid hf1
    have HJL := Lib.hid hjl
    clear he1 hf1
    go_wp2_with fail
    go_loopg [16] lb.length (fun m v wr => ∃ i : Nat, m + i = lb.length ∧ v = .int .i64 (i : Int) ∧ Below vd.heap.size vd wr)
    case atStart => exact ⟨0, rfl, rfl, HBE.out⟩
    case round =>
      obtain ⟨i, hi, rfl, hb⟩ := hrel
      have HBI := Lib.hid hb
      have HI := Lib.hid hi
      clear hb hi HBE
      by_cases hin : i < lb.length ∧ i < 12
      rotate_left
      · by_cases hi1 : i < lb.length
        · have hg1 : decide ((i : Int) < (lb.length : Int)) = true := decide_eq_true (by omega)
          have hg2 : decide ((i : Int) < 12) = false := decide_eq_false (by omega)
          have hg1' : decide (i < lb.length) = true := decide_eq_true (by omega)
          have hg2' : decide (i < 12) = false := decide_eq_false (by omega)
          clear hin hi1
          go_wp2_with fail
          go_roundg m
          case measure => have := HM.out; omega
          case rel => exact ⟨j + 1, by have := HJ.out; have := HM.out; omega, by first | rfl | simp [hdw], HBI.out⟩
        · have hg1 : decide ((i : Int) < (lb.length : Int)) = false := decide_eq_false (by omega)
          have hg1' : decide (i < lb.length) = false := decide_eq_false (by omega)
          clear hin hi1
          go_wp2_with fail
          go_roundg m
          case measure => have := HM.out; omega
          case rel => exact ⟨j + 1, by have := HJ.out; have := HM.out; omega, by first | rfl | simp [hdw], HBI.out⟩
      obtain ⟨hil, hi12⟩ := hin
      obtain ⟨n, hn⟩ : ∃ n, gk = n + 1 := ⟨gk - 1, by have := HI.out; omega⟩
      have HN := Lib.hid hn
      clear hn
      have hg1 : decide ((i : Int) < (lb.length : Int)) = true := decide_eq_true (by omega)
      have hg2 : decide ((i : Int) < 12) = true := decide_eq_true (by omega)
      have hg1' : decide (i < lb.length) = true := decide_eq_true (by omega)
      have hg2' : decide (i < 12) = true := decide_eq_true (by omega)
      have hi2 : (i : Int) < (lb.length : Int) := by omega
      have hd3 : decide (la.length ≤ j) = false := decide_eq_false (by omega)
      have hd4 : decide (lb.length ≤ i) = false := decide_eq_false (by omega)
      have hdx : wrap64 ((i : Int) + 1) = ((i + 1 : Nat) : Int) := by simp [wrap64]; omega
      have he2 := List.getElem?_eq_getElem hil
      generalize lb[i] = e2 at he2
      obtain ⟨bl, off, vs, rfl, hbl, hi, hc⟩ := (HLA2.out.below HBI.out).get HE1.out
      obtain ⟨bl2, off2, vs2, rfl, hbl2, hi', hc2⟩ := (HLB.out.below HBI.out).get he2
      obtain ⟨v, hv⟩ : ∃ v, sameM e1 e2 = v := ⟨_, rfl⟩
      have h1 := fun w1 (hb : Below wr.heap.size wr w1) => ssame_any w1 e1 e2 (hi.below hb) (hi'.below hb) HF1.out
      have h2 := fun w1 (hb : Below wr.heap.size wr w1) => rssame_any w1 e1 e2 (hi.below hb) (hi'.below hb) HF1.out
      rw [hv] at h1 h2
      obtain ⟨xk, xs, xo, xd, xep, xel, xec, xbp, xbl, xbc, xlp, xll, xlc, xa, xr, rfl⟩ := hi.out
      obtain ⟨yk, ys, yo, yd, yep, yel, yec, ybp, ybl, ybc, ylp, yll, ylc, ya, yr, rfl⟩ := hi'.out
      obtain ⟨x0, x1, x2, x3, x4, x5, x6, x7, x8⟩ := nine_of hc
      obtain ⟨y0, y1, y2, y3, y4, y5, y6, y7, y8⟩ := nine_of hc2
      unfold smCells at h1 h2
      have H1 := Lib.hid h1
      have H2 := Lib.hid h2
      have hvv : (v != v) = false := bne_self_eq_false _
      clear hc hc2 hi hi' he2 hv h1 h2
      have HGO := Lib.hid (show ∀ w' : World, Below wr.heap.size wr w' → (w'.cell? ⟨bl, off + j * 9, none⟩ = some (.int .i64 xk) ∧ w'.cell? ⟨bl, off + j * 9 + 1, none⟩ = some (.string (cbs xs)) ∧ w'.cell? ⟨bl, off + j * 9 + 2, none⟩ = some (.string (cbs xo)) ∧ w'.cell? ⟨bl, off + j * 9 + 3, none⟩ = some (.int .i64 xd) ∧ w'.cell? ⟨bl, off + j * 9 + 4, none⟩ = some (.slice xep xel xec) ∧ w'.cell? ⟨bl, off + j * 9 + 5, none⟩ = some (.slice xbp xbl xbc) ∧ w'.cell? ⟨bl, off + j * 9 + 6, none⟩ = some (.slice xlp xll xlc) ∧ w'.cell? ⟨bl, off + j * 9 + 7, none⟩ = some (.int .i64 xa) ∧ w'.cell? ⟨bl, off + j * 9 + 8, none⟩ = some (.int .i64 xr) ∧ w'.cell? ⟨bl2, off2 + i * 9, none⟩ = some (.int .i64 yk) ∧ w'.cell? ⟨bl2, off2 + i * 9 + 1, none⟩ = some (.string (cbs ys)) ∧ w'.cell? ⟨bl2, off2 + i * 9 + 2, none⟩ = some (.string (cbs yo)) ∧ w'.cell? ⟨bl2, off2 + i * 9 + 3, none⟩ = some (.int .i64 yd) ∧ w'.cell? ⟨bl2, off2 + i * 9 + 4, none⟩ = some (.slice yep yel yec) ∧ w'.cell? ⟨bl2, off2 + i * 9 + 5, none⟩ = some (.slice ybp ybl ybc) ∧ w'.cell? ⟨bl2, off2 + i * 9 + 6, none⟩ = some (.slice ylp yll ylc) ∧ w'.cell? ⟨bl2, off2 + i * 9 + 7, none⟩ = some (.int .i64 ya) ∧ w'.cell? ⟨bl2, off2 + i * 9 + 8, none⟩ = some (.int .i64 yr)) from fun w' hb => ⟨(hb.cell (p := ⟨bl, off + j * 9, none⟩) hbl).trans x0, (hb.cell (p := ⟨bl, off + j * 9 + 1, none⟩) hbl).trans x1, (hb.cell (p := ⟨bl, off + j * 9 + 2, none⟩) hbl).trans x2, (hb.cell (p := ⟨bl, off + j * 9 + 3, none⟩) hbl).trans x3, (hb.cell (p := ⟨bl, off + j * 9 + 4, none⟩) hbl).trans x4, (hb.cell (p := ⟨bl, off + j * 9 + 5, none⟩) hbl).trans x5, (hb.cell (p := ⟨bl, off + j * 9 + 6, none⟩) hbl).trans x6, (hb.cell (p := ⟨bl, off + j * 9 + 7, none⟩) hbl).trans x7, (hb.cell (p := ⟨bl, off + j * 9 + 8, none⟩) hbl).trans x8, (hb.cell (p := ⟨bl2, off2 + i * 9, none⟩) hbl2).trans y0, (hb.cell (p := ⟨bl2, off2 + i * 9 + 1, none⟩) hbl2).trans y1, (hb.cell (p := ⟨bl2, off2 + i * 9 + 2, none⟩) hbl2).trans y2, (hb.cell (p := ⟨bl2, off2 + i * 9 + 3, none⟩) hbl2).trans y3, (hb.cell (p := ⟨bl2, off2 + i * 9 + 4, none⟩) hbl2).trans y4, (hb.cell (p := ⟨bl2, off2 + i * 9 + 5, none⟩) hbl2).trans y5, (hb.cell (p := ⟨bl2, off2 + i * 9 + 6, none⟩) hbl2).trans y6, (hb.cell (p := ⟨bl2, off2 + i * 9 + 7, none⟩) hbl2).trans y7, (hb.cell (p := ⟨bl2, off2 + i * 9 + 8, none⟩) hbl2).trans y8⟩)
      have HB0 : Hid (Below wr.heap.size wr wr.drew) := (Below.refl _ _).drew
      have hi3 : (0 : Int) ≤ (j : Int) := by omega
      have hi4 : (0 : Int) ≤ (i : Int) := by omega
      go_wp2_with fail
      cases v
      all_goals
        go_region_held3 (fun w' => w'.cell? ⟨bl, off + j * 9, none⟩ = some (.int .i64 xk) ∧ w'.cell? ⟨bl, off + j * 9 + 1, none⟩ = some (.string (cbs xs)) ∧ w'.cell? ⟨bl, off + j * 9 + 2, none⟩ = some (.string (cbs xo)) ∧ w'.cell? ⟨bl, off + j * 9 + 3, none⟩ = some (.int .i64 xd) ∧ w'.cell? ⟨bl, off + j * 9 + 4, none⟩ = some (.slice xep xel xec) ∧ w'.cell? ⟨bl, off + j * 9 + 5, none⟩ = some (.slice xbp xbl xbc) ∧ w'.cell? ⟨bl, off + j * 9 + 6, none⟩ = some (.slice xlp xll xlc) ∧ w'.cell? ⟨bl, off + j * 9 + 7, none⟩ = some (.int .i64 xa) ∧ w'.cell? ⟨bl, off + j * 9 + 8, none⟩ = some (.int .i64 xr) ∧ w'.cell? ⟨bl2, off2 + i * 9, none⟩ = some (.int .i64 yk) ∧ w'.cell? ⟨bl2, off2 + i * 9 + 1, none⟩ = some (.string (cbs ys)) ∧ w'.cell? ⟨bl2, off2 + i * 9 + 2, none⟩ = some (.string (cbs yo)) ∧ w'.cell? ⟨bl2, off2 + i * 9 + 3, none⟩ = some (.int .i64 yd) ∧ w'.cell? ⟨bl2, off2 + i * 9 + 4, none⟩ = some (.slice yep yel yec) ∧ w'.cell? ⟨bl2, off2 + i * 9 + 5, none⟩ = some (.slice ybp ybl ybc) ∧ w'.cell? ⟨bl2, off2 + i * 9 + 6, none⟩ = some (.slice ylp yll ylc) ∧ w'.cell? ⟨bl2, off2 + i * 9 + 7, none⟩ = some (.int .i64 ya) ∧ w'.cell? ⟨bl2, off2 + i * 9 + 8, none⟩ = some (.int .i64 yr)) (first | exact HGO.out _ HB0.out | exact HGO.out _ HB8.out | exact HGO.out _ HB9.out) (first
          | (go_at_call 14; (with_reducible refine Calls.mono (H2.out _ HB8.out) ?_); rintro e w9 ⟨rfl, hb⟩; have HB9 := Lib.hid (below_seq HB8.out hb HB8.out.size); clear hb)
          | (go_at_call 13; (with_reducible refine Calls.mono (H1.out _ HB0.out) ?_); rintro e w8 ⟨rfl, hb⟩; have HB8 := Lib.hid (below_seq HB0.out hb HB0.out.size); clear hb))
        go_wp2_with fail
        go_roundg n
        case measure => have := HN.out; omega
        case rel => exact ⟨i + 1, by have := HI.out; have := HN.out; omega, by first | rfl | simp [hdx], below_seq HBI.out HB9.out HBI.out.size⟩
end Go.Proofs.YtnnbdidefgghjaaGreatDoor
