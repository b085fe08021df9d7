/-
  The walk of ExprParens.
-/
import Derived.Test.YtnnbdidefgghjaaDoorPg
import Derived.Test.YtnnbdidefgghjaaDoorQq
import Derived.Test.YtnnbdidefgghjaaDoorSr
import Derived.Test.YtnnbdidefgghjaaDoorKn
import Derived.Test.YtnnbdidefgghjaaDoorTx
import Derived.Test.YtnnbdidefgghjaaDoorLaidE
namespace Go.Proofs.YtnnbdidefgghjaaDoor
open Go.RowKit
open Px (RT tokAt)
open Pe

theorem ops_below3 {w w' : World} (h : OpsIn w) (hb : Below w.heap.size w w') : OpsIn w' := by obtain ⟨gt, gfr, hg⟩ := h; exact ⟨gt, gfr, (hb.block _ (heap_lt' hg)).trans hg⟩
theorem cat3 (a b : ByteArray) (h : a.size + b.size ≤ 9223372036854775807) (w' : World) : (binOp .add 9 (.string a) (.string b)).run Tryd.prog w' = .ok (.string (a ++ b)) w' := by
  simp [go_sem, h]
theorem app_size3 (a b : ByteArray) : (a ++ b).size = a.size + b.size := by simp
theorem cbs_self (s : ByteArray) : cbs s.data.toList = s := by simp [cbs]
theorem cbs_app3 (a b : List UInt8) : cbs a ++ cbs b = cbs (a ++ b) := by
  apply ByteArray.ext
  simp [cbs]
theorem wrap_cbs (s : List UInt8) (j : Nat) : (⟨#[40]⟩ : ByteArray) ++ cbs (Br.wrap s j) ++ ⟨#[10, 41]⟩ = cbs (Br.wrap s (j + 1)) := by
  show cbs [40] ++ cbs (Br.wrap s j) ++ cbs [10, 41] = _
  rw [cbs_app3, cbs_app3]
  rfl
theorem toks_ok {l : List UInt8} {us : List Ln.Lx.Tk} {K : Nat} (h : Ln.Lx.toks l = (us, 0, K)) : K = 0 ∧ ∃ ts, Ln.Lx.lexAll l = .ok ts ∧ us = ts ++ [(⟨0, [], 0, l.length⟩ : Ln.Lx.Tk)] := by
  unfold Ln.Lx.toks at h
  split at h
  · simp at h
  · split at h
    · simp at h
    · rename_i ts hts
      simp only [Prod.mk.injEq] at h
      exact ⟨h.2.2.symm, ts, hts, h.1.symm⟩

set_option maxRecDepth 8000 in
set_option maxHeartbeats 4000000 in
theorem exprParens_walk (s : ByteArray) (k : Int) (hs : s.size ≤ maxLen) (hk : -9223372036854775808 ≤ k ∧ k ≤ 9223372036854775807) (w : World) (hops : OpsIn w) :
    Calls Tryd.prog 5 #[.string s, .int .i64 k] w fun e w' => e = .returned (.bool true) ∧ Below w.heap.size w w' := by
  obtain ⟨us, E, K, htk⟩ : ∃ us E K, Ln.Lx.toks s.data.toList = (us, E, K) := ⟨_, _, _, rfl⟩
  have HTK := Lib.hid (tokens_are s hs us E K htk w)
  by_cases h1 : 500 < s.size
  · clear htk hops
    go_enter Tryd.func5, Tryd.ntmps5
    go_wp2_with fail
    refine HTK.out.mono ?_
    rintro e w1 ⟨A, c, rfl, hl1, hb1⟩
    clear hl1
    go_wp2_with fail
    go_ret
    exact ⟨rfl, bl_alloc hb1⟩
  have h1' : s.size ≤ 500 := by omega
  clear h1
  by_cases hE : E = 0
  case neg =>
    have hE2 : ((E : Int) != 0) = true := by rw [bne_iff_ne]; omega
    have hE3 : (E != 0) = true := by rw [bne_iff_ne]; exact hE
    clear htk hops
    go_enter Tryd.func5, Tryd.ntmps5
    go_wp2_with fail
    refine HTK.out.mono ?_
    rintro e w1 ⟨A, c, rfl, hl1, hb1⟩
    clear hl1
    go_wp2_with fail
    go_ret
    exact ⟨rfl, bl_alloc hb1⟩
  subst hE
  by_cases h2 : k < 0
  · clear htk hops
    go_enter Tryd.func5, Tryd.ntmps5
    go_wp2_with fail
    refine HTK.out.mono ?_
    rintro e w1 ⟨A, c, rfl, hl1, hb1⟩
    clear hl1
    go_wp2_with fail
    go_ret
    exact ⟨rfl, bl_alloc hb1⟩
  by_cases h3 : 60 < k
  · have h2' : 0 ≤ k := by omega
    clear htk hops h2
    go_enter Tryd.func5, Tryd.ntmps5
    go_wp2_with fail
    refine HTK.out.mono ?_
    rintro e w1 ⟨A, c, rfl, hl1, hb1⟩
    clear hl1
    go_wp2_with fail
    go_ret
    exact ⟨rfl, bl_alloc hb1⟩
  obtain ⟨n, rfl⟩ : ∃ n : Nat, k = n := ⟨k.toNat, by omega⟩
  have hn : n ≤ 60 := by omega
  clear h2 h3 hk
  obtain ⟨rfl, ts, hlex, hus⟩ := toks_ok htk
  have hul : us.length = ts.length + 1 := by rw [hus]; simp
  have hlen : ts.length ≤ 6000 := by have := Ln.Lx.toks_len s.data.toList; rw [htk] at this; have h5 : us.length ≤ 6001 := this; omega
  have hsh : ∀ t ∈ us, t.text.length ≤ 281474976710656 := by have := toks_text s.data.toList; rw [htk] at this; exact this
  have hmap : us.map toRT = Br.ended s.data.toList ts := by rw [hus]; rfl
  have hwl := Br.wrapT_len s.data.toList ts n
  have hel := Br.ended_len s.data.toList ts
  have hem := Br.ended_len (Br.wrap s.data.toList n) (Br.wrapT s.data.toList ts n)
  obtain ⟨⟨x, xt, xE, xF⟩, hp, hq⟩ := Sim.parse_same (ts := Br.ended s.data.toList ts) (by omega) 0 0
  obtain ⟨⟨y, yt, yE, yF⟩, hp1, hq1⟩ := Sim.parse_same (ts := Br.ended s.data.toList ts) (by omega) 0 n
  obtain ⟨⟨z, zt, zE, zF⟩, hp2, hq2⟩ := Sim.parse_same (ts := Br.ended (Br.wrap s.data.toList n) (Br.wrapT s.data.toList ts n)) (by omega) 0 0
  have hen : Sim.enough (Br.ended s.data.toList ts) ≤ 1000000000 := by unfold Sim.enough; omega
  have hen2 : Sim.enough (Br.ended (Br.wrap s.data.toList n) (Br.wrapT s.data.toList ts n)) ≤ 1000000000 := by unfold Sim.enough; omega
  have hfit := Sim.fit_expr (by omega) hq2
  have HPAR := Lib.hid fun (a : xE = 0) (b : xt = ts.length) => Br.parens s.data.toList ts n (by omega) hq a b hq1 hq2 (fun h0 => by
    subst h0
    have e1 := hq1.symm.trans hq
    have e2 := hq2.symm.trans hq
    exact ⟨Option.some.inj e2, Option.some.inj e1⟩)
  dsimp only at HPAR
  have HX := Lib.hid (fun (w1 : World) (R : Nat) (S : Value) (h : Toks w1 R S (Br.ended s.data.toList ts)) => qParse_any w1 R S _ 0 0 h _ hen _ hq)
  have HY := Lib.hid (fun (w1 : World) (R : Nat) (S : Value) (h : Toks w1 R S (Br.ended s.data.toList ts)) => qParse_any w1 R S _ 0 n h _ hen _ hq1)
  have HZ := Lib.hid (fun (w1 : World) (R : Nat) (S : Value) (h : Toks w1 R S (Br.ended (Br.wrap s.data.toList n) (Br.wrapT s.data.toList ts n))) (ho : OpsIn w1) => parse_any w1 R S _ 0 0 h ho _ hen2 _ hp2)
  have HFIT := Lib.hid hfit
  have HOP := Lib.hid hops
  have HSH := Lib.hid hsh
  have HLEX := Lib.hid hlex
  have HLEN := Lib.hid hlen
  have HMAP := Lib.hid hmap
  have HUL := Lib.hid hul
  clear hp hq hp1 hq1 hp2 hq2 hen hen2 hfit hsh hlex hlen hwl hel hem htk hops hus hmap hul
  dsimp only at HX HY HZ HFIT
  go_enter Tryd.func5, Tryd.ntmps5
  go_wp2_with fail
  refine HTK.out.mono ?_
  rintro e w1 ⟨A, c, rfl, hl1, hb1⟩
  have HT := Lib.hid (((toks_of (c := c) hl1 HSH.out).below ((Below.refl w1.heap.size w1).alloc (Nat.le_refl _) (.cells #[.int .i64 ((0 : Nat) : Int), .int .i64 ((0 : Nat) : Int)] 25))).re (Nat.le_refl _))
  have HB := Lib.hid (bl_alloc (o := .cells #[.int .i64 ((0 : Nat) : Int), .int .i64 ((0 : Nat) : Int)] 25) hb1)
  rw [HMAP.out] at HT
  clear hl1 hb1
  go_wp2_with fail
  refine (HX.out _ _ _ HT.out).mono ?_
  rintro en w2 ⟨xk, xn, xs, xo, xd, xp, xl, xc, xa, xb, xr, xe, xf, rfl, hi, hb2⟩
  have hb3 := below_seq HB.out hb2 HB.out.size
  have HB3 := Lib.hid (bl_alloc (o := .cells #[.int .i64 xE, .int .i64 xF] 25) (bl_alloc (o := .cells #[.int .i64 xk, .int .i64 xn, .string (cbs xs), .string (cbs xo), .int .i64 xd, .slice xp xl xc, .int .i64 xa, .int .i64 xb, .int .i64 xr, .int .i64 xe, .int .i64 xf] 44) hb3))
  by_cases hx : xE = 0
  case neg =>
    have hx2 : (xE != 0) = true := by rw [bne_iff_ne]; exact hx
    clear hi hb2 hb3
    go_wp2_with fail
    refine (known_any _ (ops_below3 HOP.out HB3.out)).mono ?_
    rintro en w3 ⟨rfl, hb4⟩
    go_wp2_with fail
    go_ret
    exact ⟨rfl, below_seq HB3.out hb4 HB3.out.size⟩
  subst hx
  by_cases hx : xt = ts.length
  case neg =>
    have hx2 : (xt != wrap64 (ts.length : Int)) = true := by rw [bne_iff_ne, show wrap64 (ts.length : Int) = ts.length by have := HLEN.out; simp [wrap64]; omega]; exact hx
    have hul := HUL.out
    clear hi hb2 hb3
    go_wp2_with fail
    refine (known_any _ (ops_below3 HOP.out HB3.out)).mono ?_
    rintro en w3 ⟨rfl, hb4⟩
    go_wp2_with fail
    go_ret
    exact ⟨rfl, below_seq HB3.out hb4 HB3.out.size⟩
  subst hx
  have hx2 : ((ts.length : Int) != wrap64 (ts.length : Int)) = false := by rw [bne_eq_false_iff_eq, show wrap64 (ts.length : Int) = ts.length by have := HLEN.out; simp [wrap64]; omega]
  have hul := HUL.out
  have hka : ((w2.alloc (.cells #[.int .i64 xk, .int .i64 xn, .string (cbs xs), .string (cbs xo), .int .i64 xd, .slice xp xl xc, .int .i64 xa, .int .i64 xb, .int .i64 xr, .int .i64 xe, .int .i64 xf] 44)).alloc (.cells #[.int .i64 0, .int .i64 xF] 25)).heap[w2.heap.size]? = some (.cells #[.int .i64 xk, .int .i64 xn, .string (cbs xs), .string (cbs xo), .int .i64 xd, .slice xp xl xc, .int .i64 xa, .int .i64 xb, .int .i64 xr, .int .i64 xe, .int .i64 xf] 44 (0, 0)) := alloc_box _ (heap_alloc_new w2 _)
  have HKA := Lib.hid hka
  have HI := Lib.hid ((hi.alloc (.cells #[.int .i64 xk, .int .i64 xn, .string (cbs xs), .string (cbs xo), .int .i64 xd, .slice xp xl xc, .int .i64 xa, .int .i64 xb, .int .i64 xr, .int .i64 xe, .int .i64 xf] 44)).alloc (.cells #[.int .i64 0, .int .i64 xF] 25))
  have HT2 := Lib.hid (HT.out.below (bl_alloc (o := .cells #[.int .i64 0, .int .i64 xF] 25) (bl_alloc (o := .cells #[.int .i64 xk, .int .i64 xn, .string (cbs xs), .string (cbs xo), .int .i64 xd, .slice xp xl xc, .int .i64 xa, .int .i64 xb, .int .i64 xr, .int .i64 xe, .int .i64 xf] 44) hb2)))
  clear hi hb2 hb3 hka
  go_wp2_with fail
  have ht2 := HT2.out
  rw [hul] at ht2
  refine (HY.out _ _ _ ht2).mono ?_
  rintro en w3 ⟨mk, mn, ms, mo, md, mp, ml, mc, ma, mb, mr, me, mf, rfl, -, hb4⟩
  obtain ⟨v3, hv3⟩ : ∃ v3, v3 = (w3.alloc (.cells #[.int .i64 mk, .int .i64 mn, .string (cbs ms), .string (cbs mo), .int .i64 md, .slice mp ml mc, .int .i64 ma, .int .i64 mb, .int .i64 mr, .int .i64 me, .int .i64 mf] 44)).alloc (.cells #[.int .i64 yE, .int .i64 yF] 25) := ⟨_, rfl⟩
  have hbv : Below w3.heap.size w3 v3 := by rw [hv3]; exact bl_alloc (bl_alloc (Below.refl _ _))
  have hab := below_seq hb4 hbv hb4.size
  have HB4 := Lib.hid (below_seq HB3.out hab HB3.out.size)
  have HKD : Hid (v3.heap[w3.heap.size + 1]? = some (.cells #[.int .i64 yE, .int .i64 yF] 25 (0, 0))) := Lib.hid (by rw [hv3]; have := heap_alloc_new (w3.alloc (.cells #[.int .i64 mk, .int .i64 mn, .string (cbs ms), .string (cbs mo), .int .i64 md, .slice mp ml mc, .int .i64 ma, .int .i64 mb, .int .i64 mr, .int .i64 me, .int .i64 mf] 44)) (.cells #[.int .i64 yE, .int .i64 yF] 25); rw [size_alloc] at this; exact this)
  have HKA2 := Lib.hid ((hab.block _ (heap_lt' HKA.out)).trans HKA.out)
  have HI2 := Lib.hid (HI.out.below hab)
  clear hb4 hbv hab HKA HI HT2 HT HB HX HY hx2 hul ht2
  go_wp2_with fail
  rw [← hv3]
  clear hv3
  go_loopw [13, 14] (fun t i wr => ∃ j : Nat, j ≤ n ∧ i = .int .i64 j ∧ t = .string (cbs (Br.wrap s.data.toList j)) ∧ v3 = wr) (fun _ i _ => n - (intOf i).toNat)
  case atStart => exact ⟨0, Nat.zero_le _, rfl, by show Value.string s = .string (cbs s.data.toList); rw [cbs_self], rfl⟩
  case round =>
    obtain ⟨j, hj, rfl, rfl, rfl⟩ := hrel
    have z0 : s.data.toList.length = s.size := by simp
    have z1 := Br.wrap_len s.data.toList j
    rw [z0] at z1
    by_cases hlt : j < n
    · have b1 : ∀ w', (Op.stringOp .add (⟨#[40]⟩ : ByteArray) (cbs (Br.wrap s.data.toList j))).run Tryd.prog w' = .ok (.string (⟨#[40]⟩ ++ cbs (Br.wrap s.data.toList j))) w' := fun w' => cat3 _ _ (by rw [cbs_size, z1]; show 1 + _ ≤ _; omega) w'
      have b2 : ∀ w', (Op.stringOp .add ((⟨#[40]⟩ : ByteArray) ++ cbs (Br.wrap s.data.toList j)) ⟨#[10, 41]⟩).run Tryd.prog w' = .ok (.string (cbs (Br.wrap s.data.toList (j + 1)))) w' := fun w' => by rw [← wrap_cbs]; exact cat3 _ _ (by rw [app_size3, cbs_size, z1]; show 1 + _ + 2 ≤ _; omega) w'
      have hji : (j : Int) < (n : Int) := by omega
      clear z0 z1
      go_wp2_with fail
      refine ⟨⟨j + 1, by omega, by go_num, by trivial, by trivial⟩, ?_⟩
      simp [intOf]
      omega
    · obtain rfl : j = n := by omega
      have hji : ¬ (j : Int) < (j : Int) := by omega
      have hsz : (cbs (Br.wrap s.data.toList j)).size ≤ maxLen := by rw [cbs_size, z1]; unfold maxLen; omega
      obtain ⟨us2, hus2⟩ : ∃ us2, us2 = Br.wrapT s.data.toList ts j ++ [(⟨0, [], 0, (Br.wrap s.data.toList j).length⟩ : Ln.Lx.Tk)] := ⟨_, rfl⟩
      have htk2 : Ln.Lx.toks (Br.wrap s.data.toList j) = (us2, 0, 0) := by
        unfold Ln.Lx.toks
        rw [if_neg (by rw [z1]; omega), Br.lex_wrap HLEX.out j, hus2]
      have hsh2 : ∀ t ∈ us2, t.text.length ≤ 281474976710656 := by have := toks_text (Br.wrap s.data.toList j); rw [htk2] at this; exact this
      have hmap2 : us2.map toRT = Br.ended (Br.wrap s.data.toList j) (Br.wrapT s.data.toList ts j) := by rw [hus2]; rfl
      have hul2 : us2.length = (Br.wrapT s.data.toList ts j).length + 1 := by rw [hus2]; simp
      have hwl2 := Br.wrapT_len s.data.toList ts j
      have HT0 := Lib.hid (tokens_are (cbs (Br.wrap s.data.toList j)) hsz us2 0 0 (by rw [show (cbs (Br.wrap s.data.toList j)).data.toList = Br.wrap s.data.toList j by simp [cbs]]; exact htk2) v3)
      have HSH2 := Lib.hid hsh2
      have HMAP2 := Lib.hid hmap2
      have HUL2 := Lib.hid hul2
      have HWL2 := Lib.hid hwl2
      clear hsz hus2 htk2 hsh2 hmap2 hul2 hwl2 z0 z1 hlt
      go_wp2_with fail
      refine HT0.out.mono ?_
      rintro e w4 ⟨A4, c4, rfl, hl4, hb⟩
      obtain ⟨v4, hv4⟩ : ∃ v4, v4 = w4.alloc (.cells #[.int .i64 ((0 : Nat) : Int), .int .i64 ((0 : Nat) : Int)] 25) := ⟨_, rfl⟩
      have hbv : Below w4.heap.size w4 v4 := by rw [hv4]; exact bl_alloc (Below.refl _ _)
      have hab := below_seq hb hbv hb.size
      have ht4 := ((toks_of (c := c4) hl4 HSH2.out).below hbv).re (Nat.le_refl v4.heap.size)
      rw [HMAP2.out] at ht4
      have HT4 := Lib.hid ht4
      have HB5 := Lib.hid (below_seq HB4.out hab HB4.out.size)
      have HKD4 := Lib.hid ((hab.block _ (heap_lt' HKD.out)).trans HKD.out)
      have HKA4 := Lib.hid ((hab.block _ (heap_lt' HKA2.out)).trans HKA2.out)
      have HI4 := Lib.hid (HI2.out.below hab)
      rw [show ((0 : Nat) : Int) = 0 from rfl] at hv4
      clear hb hbv hab ht4 hl4 HT0 HKD HKA2 HI2 HB4
      go_wp2_with fail
      rw [← hv4]
      clear hv4
      refine (HZ.out _ _ _ HT4.out (ops_below3 HOP.out HB5.out)).mono ?_
      rintro e w5 ⟨zk, zn, zs, zo, zd, zp, zl, zc, za, zb, zr, ze, zf, rfl, hi, hb⟩
      obtain ⟨v5, hv5⟩ : ∃ v5, v5 = (w5.alloc (.cells #[.int .i64 zk, .int .i64 zn, .string (cbs zs), .string (cbs zo), .int .i64 zd, .slice zp zl zc, .int .i64 za, .int .i64 zb, .int .i64 zr, .int .i64 ze, .int .i64 zf] 44)).alloc (.cells #[.int .i64 zE, .int .i64 zF] 25) := ⟨_, rfl⟩
      have hbv : Below w5.heap.size w5 v5 := by rw [hv5]; exact bl_alloc (bl_alloc (Below.refl _ _))
      have hab := below_seq hb hbv hb.size
      have HB6 := Lib.hid (below_seq HB5.out hab HB5.out.size)
      have hk5a : v5.heap[w5.heap.size]? = some (.cells #[.int .i64 zk, .int .i64 zn, .string (cbs zs), .string (cbs zo), .int .i64 zd, .slice zp zl zc, .int .i64 za, .int .i64 zb, .int .i64 zr, .int .i64 ze, .int .i64 zf] 44 (0, 0)) := by rw [hv5]; exact alloc_box _ (heap_alloc_new w5 _)
      have hk5b : v5.heap[w5.heap.size + 1]? = some (.cells #[.int .i64 zE, .int .i64 zF] 25 (0, 0)) := by rw [hv5]; have := heap_alloc_new (w5.alloc (.cells #[.int .i64 zk, .int .i64 zn, .string (cbs zs), .string (cbs zo), .int .i64 zd, .slice zp zl zc, .int .i64 za, .int .i64 zb, .int .i64 zr, .int .i64 ze, .int .i64 zf] 44)) (.cells #[.int .i64 zE, .int .i64 zF] 25); rw [size_alloc] at this; exact this
      have hkd := (hb.block _ (heap_lt' HKD4.out)).trans HKD4.out
      have hka := (hb.block _ (heap_lt' HKA4.out)).trans HKA4.out
      have HIZ := Lib.hid (hi.below hbv)
      have HIX := Lib.hid (HI4.out.below hab)
      have HKN := Lib.hid (fun w1 (hb : Below v5.heap.size v5 w1) => known_any w1 (ops_below3 HOP.out (below_seq HB6.out hb HB6.out.size)))
      clear hi hb hbv hab HKD4 HKA4 HI4 HT4 HZ HB5
      obtain ⟨⟨g0, g1⟩, -, lg⟩ := duo hkd
      obtain ⟨⟨b0, b1, b2, b3, b4, b5, b6, b7, b8, b9, bX⟩, -⟩ := hen hka
      have lb := heap_lt' hka
      have lb2 : w2.heap.size < w5.heap.size + 1 := by omega
      have lg2 : w3.heap.size < w5.heap.size := by omega
      clear hk5a hk5b hkd hka
      by_cases h50 : 50 < j
      · obtain ⟨q1, q2⟩ := (HPAR.out trivial trivial).2 (.inl h50)
        have hd1 : decide ((50 : Int) < (j : Int)) = true := decide_eq_true (by omega)
        have hd1' : decide (50 < j) = true := decide_eq_true h50
        subst q1 q2
        clear b0 b1 b2 b3 b4 b5 b6 b7 b8 b9 bX h50
        go_wp2_with fail
        rw [← hv5]
        refine (HKN.out _ (Below.refl _ _)).mono ?_
        rintro e w6 ⟨rfl, hb⟩
        go_wp2_with fail
        go_ret
        exact ⟨rfl, below_seq HB6.out hb HB6.out.size⟩
      have hd1 : decide ((50 : Int) < (j : Int)) = false := decide_eq_false (by omega)
      have hd1' : decide (50 < j) = false := decide_eq_false h50
      by_cases hyE : yE = 0
      rotate_left
      · obtain ⟨q1, q2⟩ := (HPAR.out trivial trivial).2 (.inr hyE)
        have hy2 : (yE != 0) = true := by simpa using hyE
        subst q1 q2
        clear b0 b1 b2 b3 b4 b5 b6 b7 b8 b9 bX h50 hyE
        go_wp2_with fail
        rw [← hv5]
        refine (HKN.out _ (Below.refl _ _)).mono ?_
        rintro e w6 ⟨rfl, hb⟩
        go_wp2_with fail
        go_ret
        exact ⟨rfl, below_seq HB6.out hb HB6.out.size⟩
      obtain ⟨q1, q2, q3⟩ := (HPAR.out trivial trivial).1 (by omega) hyE
      have hul2 := HUL2.out
      have hwr : wrap64 (((Br.wrapT s.data.toList ts j).length : Int) + 1 - 1) = ((Br.wrapT s.data.toList ts j).length : Int) := by have := HWL2.out; have := HLEN.out; simp [wrap64]; omega
      have hwr2 : wrap64 ((Br.wrapT s.data.toList ts j).length : Int) = ((Br.wrapT s.data.toList ts j).length : Int) := by have := HWL2.out; have := HLEN.out; simp [wrap64]; omega
      have hsm := rsame_any v5 z x HIZ.out HIX.out HFIT.out
      rw [q3] at hsm
      unfold exCells at hsm
      have HSM := Lib.hid hsm
      subst q1 q2 hyE
      clear q3 hsm h50
      go_wp2_with fail
      rw [← hv5]
      refine HSM.out.mono ?_
      rintro e w6 ⟨rfl, hb⟩
      have HB7 := Lib.hid hb
      clear hb
      go_wp2_with fail
      refine (HKN.out _ HB7.out).mono ?_
      rintro e w7 ⟨rfl, hb⟩
      go_wp2_with fail
      go_ret
      exact ⟨rfl, below_seq HB6.out (below_seq HB7.out hb HB7.out.size) HB6.out.size⟩
end Go.Proofs.YtnnbdidefgghjaaDoor
