/-
  The project's New, Rec and Arr.
-/
import Derived.Test.YtapaangppidnoaaSc
import Derived.Deep.RegionLawGrows
namespace Go.Proofs.Ytapaangppidnoaa
open Go.RowKit

/-- An append to a list of one's own, as one step of a region that draws its order. -/
theorem step_append_own {P : Program} {ops : Array Oper} {o : Oper} {a : Act} {w : World} {K : Act → World → Prop} {Q : Exit → Act → World → Prop} {E : Prop}
    (hg : o.guard = none) (s x : Operand) (t : TypeId) (hop : o.op = Op.call { callee := Callee.builtin Builtin.append, args := #[s, x], argTypes := #[t, t] }) (base : Nat)
    (e : TypeId) (i : TypeInfo) (z : Value) (size bytes : Nat) (h1 : P.underlying t = some (.slice e)) (h2 : P.info? e = some i) (h3 : i.zero = some z) (h4 : i.size = size) (h5 : i.bytes = bytes) (h6 : z.cells.size = size) (h7 : 0 < size)
    (v : Value) (n : Nat) (xs : List Value) (hs : a.eval s = v) (hown : w.ownsRow base e size v n xs)
    (ad : Addr) (m c : Nat) (news : List Value) (hx : a.eval x = .slice (some ad) m c) (hn : news.length = m * size) (hc : ∀ j u, news[j]? = some u → w.cell? (ad.add j) = some u) (h1c : ∀ u ∈ news, u.oneCell' = true)
    (b1 : n + m ≤ maxLen) (b2 : (n + m) * bytes ≤ 140737488355328) (hbase : base ≤ w.heap.size)
    (hK : ∀ v' w', w'.ownsRow base e size v' (n + m) (xs ++ news) → w.grownBy w' v.ownBlock → (v'.ownBlock = v.ownBlock ∨ v'.ownBlock = some w.heap.size) → K (a.put o.dst v') w') :
    if Region.wanted o (yielded ops a.tmps) = true then Oper.wp P o a w K Q else E := by
  have hw : Region.wanted o (yielded ops a.tmps) = true := by simp [Region.wanted, hg]
  rw [if_pos hw]
  obtain ⟨v', w', hrun, r1, r2, _, r3⟩ := run_append_own_at (P := P) w base t o.type e i z size bytes h1 h2 h3 h4 h5 h6 h7 v n xs hown ad m c news hn hc h1c b1 b2 hbase
  unfold Oper.wp
  simp [execOp, hop, resolve, invoke, builtin, hs, hx, hrun, Result.andThen]
  exact hK v' w' r1 r2 r3
theorem infoSl : (Try.prog.info? 39).map (fun i => (i.zero, i.size, i.bytes)) = some (some (.slice none 0 0), 1, 24) := by kernel_rfl
theorem infoInt : (Try.prog.info? 3).map (fun i => (i.zero, i.size, i.bytes)) = some (some (.int .i64 0), 1, 8) := by kernel_rfl
/-- New memory for so many integers. -/
theorem make_ints (n : Nat) (hn : n ≤ 50) (w : World) : (Instr.makeSlice 39 (.int .i64 (n : Int)) (.int .i64 (n : Int))).run Try.prog w = .ok (.slice (some ⟨w.heap.size, 0, none⟩) n n) (w.alloc (.cells (obC (List.replicate n 0)) 3)) := by
  obtain ⟨i, hi, hz, h1, h2⟩ := info_parts infoInt
  have h := run_make (P := Try.prog) w 39 3 i (.int .i64 0) Try.underlying39 hi hz .i64 .i64 (n : Int) (n : Int) (by omega) (Int.le_refl _) (by rw [h2]; omega) (by omega)
  rw [h1, Int.toNat_natCast, Nat.mul_one] at h
  rw [h]
  congr 3
  rw [obC, List.map_replicate, ← toList_madeCells_one]
  rfl
/-- What the store is behind an allocation. -/
def NewP (p : Nat) (T : TypeId) (v : Value) (os : List Ob) (n : Nat) (w : World) (r : Value) (e : Ending) (w' : World) : Prop :=
  e = .returned r ∧ ∃ v' b, Sto w' p T v' (os ++ [(b, List.replicate n 0)]) ∧ (∀ k, Own p v' (os ++ [(b, List.replicate n 0)]) k → Own p v os k ∨ w.heap.size ≤ k) ∧ Ke (Own p v os) w w'
theorem new11 {w : World} {v : Value} {T : TypeId} {b : Nat} (h : w.heap[b]? = some (.cells #[v] T (0, 0))) : ∀ (j : Nat) (u : Value), [v][j]? = some u → w.cell? ((⟨b, 0, none⟩ : Addr).add j) = some u := by
  intro j u hj
  match j, hj with
  | 0, hj =>
    simp at hj
    subst hj
    exact cell_of_one h
theorem new_cell (w : World) (C : Array Value) (T U : TypeId) (v : Value) : ∀ (j : Nat) (u : Value), [v][j]? = some u → ((w.alloc (.cells C T)).alloc (.cells #[v] U)).drew.cell? ((⟨w.heap.size + 1, 0, none⟩ : Addr).add j) = some u :=
  new11 (by have := heap_alloc_new (w.alloc (.cells C T)) (.cells #[v] U); rw [size_alloc] at this; exact this)
theorem alloc2_le {w : World} {p : Nat} (h : p < w.heap.size) (a b : Obj) : p + 1 ≤ ((w.alloc a).alloc b).drew.heap.size := by
  show p + 1 ≤ ((w.alloc a).alloc b).heap.size
  rw [size_alloc, size_alloc]
  omega
theorem old_box {w w1 : World} {p : Nat} {T : TypeId} {v : Value} {os : List Ob} {a b : Obj} (h : Sto w p T v os) (hg : ((w.alloc a).alloc b).drew.grownBy w1 v.ownBlock) : w1.heap[p]? = some (.cells #[v] T (0, 0)) := by
  have hp := h.plt
  have hne : v.ownBlock ≠ some p := fun e => by have := h.row.lt p e; omega
  rw [hg.block p (by have := alloc2_le hp a b; omega) (fun e => hne e.symm)]
  show ((w.alloc a).alloc b).heap[p]? = _
  rw [heap_alloc_old _ _ (by rw [size_alloc]; omega), heap_alloc_old _ _ hp]
  exact h.box
theorem own_slice {w : World} {base m sz : Nat} {xs : List Value} {t : TypeId} {v : Value} (h : w.ownsRow base t sz v m xs) : ∃ q c, v = .slice q m c := by
  rcases h.2 with ⟨hv, h0⟩ | ⟨g, cap, cur, hv, -⟩
  · exact ⟨none, 0, by rw [h0]; exact hv⟩
  · exact ⟨_, cap, hv⟩
theorem grown_drew {w w1 : World} {r : Option Nat} (h : w.drew.grownBy w1 r) : w.grownBy w1 r := ⟨h.os, h.tape, h.output, h.size, h.block⟩
theorem one_ob (p : Option Addr) (n c : Nat) : ∀ u ∈ [Value.slice p n c], u.oneCell' = true := by
  intro u hu
  simp at hu
  subst hu
  rfl
theorem NewP.mk {w w1 : World} {p : Nat} {T : TypeId} {v v' r : Value} {os : List Ob} {n : Nat} {b : Obj} (h : Sto w p T v os) (hn : n ≤ 50)
    (hown : w1.ownsRow (p + 1) 39 1 v' (os.length + 1) (os.map obV ++ [obV (w.heap.size, List.replicate n 0)]))
    (hgrow : ((w.alloc (.cells (obC (List.replicate n 0)) 3)).alloc b).grownBy w1 v.ownBlock) (hat : v'.ownBlock = v.ownBlock ∨ v'.ownBlock = some (w.heap.size + 2)) : NewP p T v os n w r (.returned r) (w1.setCell ⟨p, 0, none⟩ v') := by
  obtain ⟨h1, h2, h3⟩ := h.push (by rw [List.length_replicate]; exact hn) hown hgrow hat
  refine ⟨rfl, v', _, h1, fun k hk => ?_, h2⟩
  rcases hk with hk | hk | ⟨o, ho, hk⟩
  · exact .inl (.inl hk)
  · rcases h3 k hk with e | e
    · exact .inl (.inr (.inl e))
    · exact .inr e
  · rcases List.mem_append.1 ho with ho | ho
    · exact .inl (.inr (.inr ⟨o, ho, hk⟩))
    · rw [List.mem_singleton.1 ho] at hk
      exact .inr (by rw [← hk]; exact Nat.le_refl _)
section
variable {w : World} {p : Nat} {v : Value} {os : List Ob}
set_option maxHeartbeats 1000000 in
theorem allocate_any (h : Sto w p 44 v os) (n : Nat) (hn : n ≤ 50) (hl : os.length ≤ 1000000) : Calls Try.prog 21 #[.pointer (some ⟨p, 0, none⟩), .int .i64 (n : Int)] w (NewP p 44 v os n w (.int .i64 ((os.length : Int) + 1))) := by
  have hp := h.cell
  have hf := h.free
  have hlt := h.plt
  have hmk := make_ints n hn
  obtain ⟨C, hC⟩ : ∃ C, C = obC (List.replicate n 0) := ⟨_, rfl⟩
  rw [← hC] at hmk
  have HC := Lib.hid hC
  have H := Lib.hid h
  have HN := Lib.hid hn
  have HL := Lib.hid hl
  obtain ⟨i0, hi0, hz0, hz1, hz2⟩ := info_parts infoSl
  clear h hC hn hl
  go_enter Try.func21, Try.ntmps21
  go_upto_region 1 with fail
  have hmp : os.map obV ++ [.slice (some ⟨w.heap.size, 0, none⟩) n n] = os.map obV ++ [obV (w.heap.size, List.replicate n 0)] := by rw [obV, List.length_replicate]
  have HM := Lib.hid hmp
  clear hmp
  go_region_law ((refine step_append_own rfl (.tmp 9) (.tmp 12) 26 rfl (p + 1) 39 i0 _ 1 24 Try.underlying26 hi0 hz0 hz1 hz2 rfl (by decide) v os.length (os.map obV) (by simp [Act.eval]) ((H.out.row.alloc _).alloc _).drew ⟨w.heap.size + 1, 0, none⟩ 1 1 [.slice (some ⟨w.heap.size, 0, none⟩) n n] (by simp [Act.eval]) rfl (new_cell w C _ _ _) (one_ob _ _ _) (by have := HL.out; unfold maxLen; omega) (by have := HL.out; omega) (alloc2_le H.out.plt _ _) ?_; intro v' w1 hown hgrow hat; obtain ⟨q, c, rfl⟩ := own_slice hown; have HO := Lib.hid hown; have HG := Lib.hid hgrow; have HA := Lib.hid hat; clear hown hgrow hat; have hb1 := old_box H.out HG.out; have hp1 := cell_of_one hb1; have hf1 := free_of_one hb1; clear hb1))
  all_goals
    go_wp2
    go_ret
    have hown := HO.out
    have hgrow := HG.out
    rw [HM.out] at hown
    rw [HC.out] at hgrow
    exact NewP.mk H.out HN.out hown (grown_drew hgrow) (by have := HA.out; simpa using this)
theorem new_any (w : World) : Calls Try.prog 8 #[] w fun e w' => e = .returned (.pointer (some ⟨w.heap.size, 0, none⟩)) ∧ w' = w.alloc (.cells #[.slice none 0 0] 44) := by
  go_enter Try.func8, Try.ntmps8
  go_wp2
  go_ret
  exact ⟨rfl, rfl⟩
/-- How many cells a record gets. -/
def recN (n : Int) : Nat := if n < 0 then 0 else if 8 < n then 8 else n.toNat
theorem recN_le (n : Int) : recN n ≤ 8 := by unfold recN; split; omega; split <;> omega
theorem alloc_at (h : Sto w p 44 v os) (m : Int) (n : Nat) (hm : m = (n : Int)) (hn : n ≤ 50) (hl : os.length ≤ 1000000) : Calls Try.prog 21 #[.pointer (some ⟨p, 0, none⟩), .int .i64 m] w (NewP p 44 v os n w (.int .i64 ((os.length : Int) + 1))) := by
  subst hm
  exact allocate_any h n hn hl
theorem rec_any (h : Sto w p 44 v os) (n : Int) (hl : os.length ≤ 1000000) : Calls Try.prog 9 #[.pointer (some ⟨p, 0, none⟩), .int .i64 n] w (NewP p 44 v os (recN n) w (.int .i64 ((os.length : Int) + 1))) := by
  obtain ⟨m, hm, hm2⟩ : ∃ m : Int, m = min (max n 0) 8 ∧ m = (recN n : Int) := by
    refine ⟨_, rfl, ?_⟩
    unfold recN
    split
    · omega
    · split <;> omega
  have HA := Lib.hid (alloc_at h m (recN n) hm2 (by have := recN_le n; omega) hl)
  obtain ⟨k, hk⟩ : ∃ k, k = recN n := ⟨_, rfl⟩
  rw [← hk] at HA ⊢
  clear h hl hm2 hk
  by_cases h0 : n < 0
  · have hd : max n 0 = 0 := by omega
    obtain rfl : m = 0 := by omega
    clear hm
    go_enter Try.func9, Try.ntmps9
    go_wp2_with (go_at_call 21; ((with_reducible refine HA.out.mono ?_); rintro e w' ⟨rfl, hp⟩; have HP := Lib.hid hp; clear hp))
    go_ret
    exact ⟨rfl, HP.out⟩
  · have hd : max n 0 = n := by omega
    by_cases h8 : 8 < n
    · have hd2 : min n 8 = 8 := by omega
      obtain rfl : m = 8 := by omega
      clear hm
      go_enter Try.func9, Try.ntmps9
      go_wp2_with (go_at_call 21; ((with_reducible refine HA.out.mono ?_); rintro e w' ⟨rfl, hp⟩; have HP := Lib.hid hp; clear hp))
      go_ret
      exact ⟨rfl, HP.out⟩
    · have hd2 : min n 8 = n := by omega
      obtain rfl : m = n := by omega
      clear hm
      go_enter Try.func9, Try.ntmps9
      go_wp2_with (go_at_call 21; ((with_reducible refine HA.out.mono ?_); rintro e w' ⟨rfl, hp⟩; have HP := Lib.hid hp; clear hp))
      go_ret
      exact ⟨rfl, HP.out⟩
theorem rec_nil (w : World) (n : Int) : Calls Try.prog 9 #[.pointer none, .int .i64 n] w fun e w' => e = .returned (.int .i64 0) ∧ w = w' := by
  go_enter Try.func9, Try.ntmps9
  go_wp2
  go_ret
  exact ⟨rfl, rfl⟩
theorem arr_nil (w : World) (n : Int) : Calls Try.prog 11 #[.pointer none, .int .i64 n] w (AskP (0, 1) w) := by
  go_enter Try.func11, Try.ntmps11
  go_wp2
  go_ret2
  exact ⟨rfl, rfl⟩
theorem arr_no (w : World) (n : Int) (hn : n < 0 ∨ 0 ≤ n ∧ 50 < n) : Calls Try.prog 11 #[.pointer (some ⟨p, 0, none⟩), .int .i64 n] w (AskP (0, 4) w) := by
  rcases hn with hn | ⟨h1, h2⟩
  · have hd : decide (n < 0) = true := decide_eq_true hn
    clear hn
    go_enter Try.func11, Try.ntmps11
    go_wp2
    go_ret2
    exact ⟨rfl, rfl⟩
  · have hd : decide (n < 0) = false := decide_eq_false (by omega)
    have hd2 : decide (50 < n) = true := decide_eq_true h2
    clear h1 h2
    go_enter Try.func11, Try.ntmps11
    go_wp2
    go_ret2
    exact ⟨rfl, rfl⟩
theorem arr_yes (h : Sto w p 44 v os) (n : Nat) (hn : n ≤ 50) (hl : os.length ≤ 1000000) : Calls Try.prog 11 #[.pointer (some ⟨p, 0, none⟩), .int .i64 (n : Int)] w (NewP p 44 v os n w (.tuple #[.int .i64 ((os.length : Int) + 1), .int .i64 0])) := by
  have HA := Lib.hid (allocate_any h n hn hl)
  have hd : decide ((n : Int) < 0) = false := decide_eq_false (by omega)
  have hd2 : decide (50 < (n : Int)) = false := decide_eq_false (by omega)
  have hd3 : decide (50 < n) = false := decide_eq_false (by omega)
  clear h hl hn
  go_enter Try.func11, Try.ntmps11
  go_wp2_with (go_at_call 21; ((with_reducible refine HA.out.mono ?_); rintro e w' ⟨rfl, hp⟩; have HP := Lib.hid hp; clear hp))
  go_ret2
  exact ⟨rfl, HP.out⟩
end
end Go.Proofs.Ytapaangppidnoaa
