/-
  The contract of Tokens (the document's answer).
-/
import Derived.Test.YtconbldpomjgkaaDoorROne
namespace Go.Proofs.YtconbldpomjgkaaDoor
open Go.RowKit

set_option maxHeartbeats 2000000 in
theorem refTokens_any (s : ByteArray) (hs : s.size ≤ maxLen) (w : World) :
    Calls Tryd.prog 10 #[.string s] w (TokRes s.data.toList w) := by
  by_cases hlong : 6000 < s.size
  · have HL : Hid (6000 < s.data.toList.length) := by show _ < _; rw [len_of]; exact hlong
    go_enter Tryd.func10, Tryd.ntmps10
    go_wp2
    exact bodyPost_ret (v := .tuple #[.slice none 0 0, .agg #[.int .i64 4, .int .i64 0]]) (by simp [results, Tryd.results10, go_sem]) rfl (res_long HL.out ((Below.refl _ _).alloc (Nat.le_refl _) _))
  · have hsz : s.size ≤ 6000 := by omega
    have HL : Hid (s.data.toList.length ≤ 6000) := by show _ ≤ _; rw [len_of]; exact hsz
    obtain ⟨k0, hk0⟩ : ∃ k, Lx.skipS false s.data.toList = k := ⟨_, rfl⟩
    have hk0s : k0 ≤ s.size := by have := Lx.skipS_le s.data.toList false; rw [len_of] at this; omega
    have HK0 : Hid (0 + Lx.skipS false (s.data.toList.drop 0) = k0) := by show _ = _; rw [List.drop_zero, hk0]; omega
    have HS := Lib.hid (TokLoop.start (w := w) hk0)
    obtain ⟨i0, hi, hz0, hz1, hz2⟩ := info_parts infoTok
    clear hk0
    go_enter Tryd.func10, Tryd.ntmps10
    go_wp2_with (go_at_call 20; refine (refBlank_any s hs _ 0 k0 rfl (by omega) HK0.out _).mono ?_; rintro e w' ⟨rfl, rfl⟩)
    go_loopw [4, 5] (fun v i wr => ∃ (k : Nat) (ts : List Lx.Tk), k ≤ s.size ∧ i = .int .i64 k ∧ TokLoop s.data.toList w ts k v wr) (fun _ i _ => s.size - (intOf i).toNat)
    case atStart => exact ⟨k0, [], hk0s, rfl, HS.out⟩
    case round =>
      obtain ⟨k, ts, hk, rfl, hT⟩ := hrel
      have HT := Lib.hid hT
      clear hT
      by_cases hlt : k < s.size
      · have hscan := refOne_any s hsz k k rfl hlt wr
        cases hone : Lx.one (s.data.toList.drop k)
        · rw [hone, oneV_none] at hscan
          have HC := Lib.hid hscan
          have HO := Lib.hid hone
          clear hscan hone
          go_wp2_with (go_at_call 21; refine HC.out.mono ?_; rintro e w1 ⟨rfl, hb1⟩; obtain ⟨⟨d0, d1⟩, ⟨g0, g1⟩, hz⟩ := box2 ((hb1.block _ (heap_lt HT.out.blk)).trans HT.out.blk))
          refine bodyPost_ret (v := .tuple #[.slice none 0 0, .agg #[.int .i64 1, .int .i64 k]]) (by simp [results, Tryd.results10, go_sem, d0, d1, hz]) rfl (res_fault HL.out (Lx.come_fault HT.out.come (by rw [len_of]; exact hlt) HO.out) ?_)
          exact (((below_go HT.out.bel hb1).setCell (Nat.le_refl _) _).setCell (Nat.le_refl _) _).alloc (by simp [World.setCell]; omega) _
        · rename_i o
          obtain ⟨kind, text, num, m⟩ := o
          obtain ⟨p, hp⟩ : ∃ p, k + m = p := ⟨_, rfl⟩
          rw [hone, oneV_some] at hscan
          have hlen := (Lx.one_len hone).2
          have hlen0 := (Lx.one_len hone).1
          rw [List.length_drop, len_of] at hlen
          have hps : p ≤ s.size := by omega
          have hkp : k < p := by omega
          obtain ⟨q, hq⟩ : ∃ q, p + Lx.skipS false (s.data.toList.drop p) = q := ⟨_, rfl⟩
          have hqs : q ≤ s.size := by
            have := Lx.skipS_le (s.data.toList.drop p) false
            rw [List.length_drop, len_of] at this
            omega
          have hpq : p ≤ q := by omega
          have hpk : (k : Int) + (m : Int) ≤ (s.size : Int) := by omega
          have hm0 : ((m : Int) == 0) = false := beq_eq_false_iff_ne.2 (by omega)
          have hpi : (k : Int) + (m : Int) = (p : Int) := by omega
          have HPI := Lib.hid hpi
          have hfew := HT.out.few
          have HC := Lib.hid hscan
          have HO := Lib.hid hone
          have HP := Lib.hid hp
          have HQ := Lib.hid hq
          clear hscan hone hp hq hlen hlen0 hpi
          go_wp2_with (first
            | (go_at_call 21; refine HC.out.mono ?_; rintro e w1 ⟨rfl, hb1⟩; obtain ⟨⟨d0, d1⟩, ⟨g0, g1⟩, hz⟩ := box2 ((hb1.block _ (heap_lt HT.out.blk)).trans HT.out.blk))
            | (at_builtin; refine wpList_append_own _ rfl _ _ 22 rfl (w.heap.size + 1) 34 i0 _ 4 40 Tryd.underlying22 hi hz0 hz1 hz2 rfl (by decide) _ ts.length (cellsOf ts) rfl (((own_below HT.out.own hb1).alloc _).alloc _) ⟨w1.heap.size + 1, 0, none⟩ 1 1 (tokCells ⟨kind, text, num, k⟩) rfl rfl ?c1 ?c2 ?c3 ?c4 ?c5 ?_))
          case c1 => exact news4 _ _ _ _ _ _ _ (by simp)
          case c2 => exact tok_one _
          case c3 => unfold maxLen; omega
          case c4 => omega
          case c5 => simp; omega
          intro v' w2 hown' hgrow _
          have HT2 := Lib.hid (HT.out.next (by rw [len_of]; exact hlt) HO.out HP.out HQ.out hb1 hgrow hown')
          clear hown' hgrow
          go_wp2_with (go_at_call 20; refine (refBlank_any s hs _ p q HPI.out hps HQ.out _).mono ?_; rintro e w' ⟨rfl, rfl⟩)
          go_roundw
          case rel => exact ⟨q, _, hqs, rfl, HT2.out⟩
          case measure => simp [intOf]; omega
      · have hfew := HT.out.few
        have hzb := heap_lt HT.out.blk
        go_wp2_with (at_builtin; refine wpList_append_own _ rfl _ _ 22 rfl (w.heap.size + 1) 34 i0 _ 4 40 Tryd.underlying22 hi hz0 hz1 hz2 rfl (by decide) _ ts.length (cellsOf ts) rfl (HT.out.own.alloc _) ⟨wr.heap.size, 0, none⟩ 1 1 (tokCells ⟨0, [], 0, s.size⟩) rfl rfl ?e1 ?e2 ?e3 ?e4 ?e5 ?_)
        case e1 => exact news4 _ _ _ _ _ _ _ rfl
        case e2 => exact tok_one _
        case e3 => unfold maxLen; omega
        case e4 => omega
        case e5 => simp; omega
        intro v' w2 hown' hgrow _
        obtain ⟨⟨d0, d1⟩, ⟨g0, g1⟩, hz⟩ := box2 (HT.out.blk_last hgrow)
        have hbel := HT.out.bel_last hgrow
        obtain ⟨A, c, rfl, _⟩ := lies_of_own hown'
        have HO := Lib.hid hown'
        clear hown' hgrow
        go_wp2
        refine bodyPost_ret (v := .tuple #[.slice A (ts.length + 1 : Nat) c, .agg #[.int .i64 0, .int .i64 0]]) (by simp [results, Tryd.results10, go_sem, d0, d1]) rfl (res_ok HL.out (Lx.come_end HT.out.come (by rw [len_of]; omega)) ?_ rfl ?_)
        · exact (hbel.setCell (Nat.le_refl _) _).setCell (Nat.le_refl _) _
        · rw [len_of]
          exact lies_set2 HO.out _ _
end Go.Proofs.YtconbldpomjgkaaDoor
