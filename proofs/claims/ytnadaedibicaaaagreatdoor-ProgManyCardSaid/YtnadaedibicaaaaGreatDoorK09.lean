/-
  The contracts of the project's cursor over tokens, fifth part: a new one; a type read from a place.
  The project's reader: its three tables of steps.
-/
import Derived.Test.YtnadaedibicaaaaGreatDoorK08
import Derived.Deep.RegionWith
import Derived.Maps.Keyed
namespace Go.Proofs.YtnadaedibicaaaaGreatDoor
open Go.RowKit
open Px (RT tokAt)
open Pe

theorem Gr.fresh {R : Nat} {w w' : World} (h : Gr R w w') (hR : w.heap.size ≤ R) : Below w.heap.size w w' := ⟨h.os, h.tape, h.output, h.size, fun i hi => h.block i hi (by omega)⟩
theorem Toks.re {w : World} {R R2 : Nat} {S : Value} {ts : List RT} (h : Toks w R S ts) (hR : w.heap.size ≤ R2) : Toks w R2 S ts := by
  obtain ⟨p, n, c, hS, hn, hm⟩ := h.val
  refine ⟨⟨p, n, c, hS, hn, ?_⟩, h.short⟩
  rcases hm with h0 | ⟨b, off, hp, hb, -, hc⟩
  · exact .inl h0
  · exact .inr ⟨b, off, hp, hb, by omega, hc⟩
theorem Toks.below {w w' : World} {R : Nat} {S : Value} {ts : List RT} (h : Toks w R S ts) (hb : Below w.heap.size w w') : Toks w' R S ts := h.gr (Gr.of hb)
theorem Toks.slice {w : World} {R : Nat} {S : Value} {ts : List RT} (h : Toks w R S ts) : ∃ p n c, S = .slice p n c := by
  obtain ⟨p, n, c, hS, -, -⟩ := h.val
  exact ⟨p, n, c, hS⟩

set_option maxHeartbeats 1000000 in
theorem new_any (w : World) (p : Option Addr) (n c : Nat) (k : Int) :
    Calls Tryz.prog 17 #[.slice p n c, .int .i64 k] w fun e w' => e = .returned (.agg #[.slice p n c, .int .i64 k, .int .i64 0, .int .i64 0]) ∧ Below w.heap.size w w' := by
  go_enter Tryz.func17, Tryz.ntmps17
  go_wp2_with fail
  refine bodyPost_ret (v := .agg #[.slice p n c, .int .i64 k, .int .i64 0, .int .i64 0]) (by simp [results, Tryz.results17, go_sem]) rfl ⟨rfl, ?_⟩
  exact (Below.refl _ _).alloc (Nat.le_refl _) _

set_option maxHeartbeats 4000000 in
theorem of_any (w : World) (R0 : Nat) (S : Value) (ts : List RT) (k : Int) (h : Toks w R0 S ts) :
    Calls Tryz.prog 77 #[S, .int .i64 k] w fun e w' => e = .returned (.tuple #[.agg #[.string (cbs (ofAns ts k).1), .int .i64 (ofAns ts k).2.1], .int .i64 (ofAns ts k).2.2.1, .agg #[.int .i64 (ofAns ts k).2.2.2.1, .int .i64 (ofAns ts k).2.2.2.2]]) ∧ Below w.heap.size w w' := by
  obtain ⟨p, n, c, rfl⟩ := h.slice
  have HH := Lib.hid (h.re (Nat.le_refl _))
  clear h
  unfold ofAns
  obtain ⟨wa, hwa⟩ : ∃ wa, wa = ((w.alloc (.cells #[.string ⟨#[]⟩, .int .i64 0] 43)).alloc (.cells #[.int .i64 0, .int .i64 0] 29)) := ⟨_, rfl⟩
  have hbA : Below w.heap.size w wa := by rw [hwa]; exact ((Below.refl _ _).alloc (Nat.le_refl _) _).alloc (by rw [size_alloc]; omega) _
  have hkA : wa.heap[w.heap.size]? = some (.cells #[.string ⟨#[]⟩, .int .i64 0] 43 (0, 0)) := by rw [hwa]; exact alloc_box _ (heap_alloc_new w _)
  have hkB : wa.heap[w.heap.size + 1]? = some (.cells #[.int .i64 0, .int .i64 0] 29 (0, 0)) := by rw [hwa]; have := heap_alloc_new (w.alloc (.cells #[.string ⟨#[]⟩, .int .i64 0] 43)) (.cells #[.int .i64 0, .int .i64 0] 29); rw [size_alloc] at this; exact this
  have HBA := Lib.hid hbA
  have HKA := Lib.hid hkA
  have HKB := Lib.hid hkB
  clear hbA hkA hkB
  go_enter Tryz.func77, Tryz.ntmps77
  go_wp2_with fail
  rw [← hwa]
  refine (new_any _ p n c k).mono ?_
  rintro e w1 ⟨rfl, hb1⟩
  have HB1 := Lib.hid (below_seq HBA.out hb1 HBA.out.size)
  have HKA1 := Lib.hid ((Gr.of (R := wa.heap.size) hb1).box HKA.out (Nat.ne_of_lt (heap_lt' HKA.out)))
  have HKB1 := Lib.hid ((Gr.of (R := wa.heap.size) hb1).box HKB.out (Nat.ne_of_lt (heap_lt' HKB.out)))
  clear hb1 HKA HKB hwa HBA
  obtain ⟨nm, d, s2, hrt⟩ : ∃ nm d s2, readType ts ⟨k, 0, 0⟩ = (nm, d, s2) := ⟨_, _, _, rfl⟩
  have HRT := Lib.hid hrt
  clear hrt
  have hcu : Cu (w1.alloc (.cells #[.slice p n c, .int .i64 k, .int .i64 0, .int .i64 0] 54)) w1.heap.size 54 (.slice p n c) [] ts ⟨k, 0, 0⟩ :=
    ⟨heap_alloc_new w1 _, ((HH.out.below HB1.out).re (Nat.le_refl _)).gr (Gr.alloc (Gr.refl _ _) _)⟩
  have HCU := Lib.hid hcu
  clear hcu
  go_wp2_with fail
  refine (readType_any _ w1.heap.size 54 (.slice p n c) [] ts ⟨k, 0, 0⟩ HCU.out).mono ?_
  rw [HRT.out]
  dsimp only
  rintro e w2 ⟨rfl, hr2, hg2⟩
  have hg1 := (Gr.alloc (Gr.refl w1.heap.size w1) (.cells #[.slice p n c, .int .i64 k, .int .i64 0, .int .i64 0] 54)).trans hg2
  have HB2 := Lib.hid (below_seq HB1.out (hg1.fresh (Nat.le_refl _)) HB1.out.size)
  have HKA2 := Lib.hid (hg1.box HKA1.out (Nat.ne_of_lt (heap_lt' HKA1.out)))
  have HKB2 := Lib.hid (hg1.box HKB1.out (Nat.ne_of_lt (heap_lt' HKB1.out)))
  have HR2 := Lib.hid hr2
  clear hr2 hg2 hg1 HKA1 HKB1 HCU
  go_wp2_with fail
  refine (resultOf_any _ w1.heap.size 54 (.slice p n c) [] ts s2 HR2.out (cbs nm) (d : Nat)).mono ?_
  rintro e w3 ⟨rfl, hb3⟩
  have HB3 := Lib.hid (below_seq HB2.out hb3 HB2.out.size)
  obtain ⟨⟨a0, a1⟩, ⟨f0, f1⟩, hlA⟩ := duo ((Gr.of (R := w2.heap.size) hb3).box HKA2.out (Nat.ne_of_lt (heap_lt' HKA2.out)))
  obtain ⟨⟨b0, b1⟩, ⟨g0, g1⟩, hlB⟩ := duo ((Gr.of (R := w2.heap.size) hb3).box HKB2.out (Nat.ne_of_lt (heap_lt' HKB2.out)))
  clear hb3
  obtain ⟨k2, E2, F2⟩ := s2
  by_cases hE : E2 = 0
  · subst hE
    rw [show ends ⟨k2, 0, F2⟩ = (k2, 0, 0) from rfl]
    dsimp only
    rw [if_pos rfl]
    go_wp2_with fail
    refine bodyPost_ret (v := .tuple #[.agg #[.string (cbs nm), .int .i64 (d : Nat)], .int .i64 k2, .agg #[.int .i64 0, .int .i64 0]]) (by simp [results, Tryz.results77, go_sem, a0, a1, b0, b1]) rfl ⟨by rw [HRT.out]; rfl, ?_⟩
    repeat (refine bl_put ?_ (by omega))
    exact HB3.out
  · rw [show ends ⟨k2, E2, F2⟩ = (0, E2, F2) from if_neg hE]
    dsimp only
    rw [if_neg hE]
    have HE := Lib.hid hE
    clear hE
    go_wp2_with fail
    refine bodyPost_ret (v := .tuple #[.agg #[.string ⟨#[]⟩, .int .i64 0], .int .i64 0, .agg #[.int .i64 E2, .int .i64 F2]]) (by simp [results, Tryz.results77, go_sem, a0, a1, b0, b1]) rfl ⟨by rw [HRT.out, ofEnd, if_neg HE.out]; rfl, ?_⟩
    repeat (refine bl_put ?_ (by omega))
    exact HB3.out
end Go.Proofs.YtnadaedibicaaaaGreatDoor
namespace Go.Proofs.YtnadaedibicaaaaGreatDoor
open Go.RowKit
open Px (RT tokAt)
open Pe

def rp (R : Nat) : Value := .pointer (some ⟨R, 0, none⟩)
def mapKind (R : Nat) : Array MapEntry := #[⟨.int .i64 2, .func (.func 177) #[.pointer (some ⟨R, 0, none⟩)] #[], 0⟩, ⟨.int .i64 1, .func (.func 178) #[.pointer (some ⟨R, 0, none⟩)] #[], 1⟩, ⟨.int .i64 3, .func (.func 179) #[.pointer (some ⟨R, 0, none⟩)] #[], 2⟩, ⟨.int .i64 4, .func (.func 180) #[.pointer (some ⟨R, 0, none⟩)] #[], 3⟩]
def mapWord : Array MapEntry := #[⟨.string ⟨#[116, 114, 117, 101]⟩, .func (.func 181) #[] #[], 0⟩, ⟨.string ⟨#[102, 97, 108, 115, 101]⟩, .func (.func 181) #[] #[], 1⟩, ⟨.string ⟨#[110, 117, 108, 108]⟩, .func (.func 182) #[] #[], 2⟩, ⟨.string ⟨#[110, 101, 119]⟩, .func (.func 183) #[] #[], 3⟩, ⟨.string ⟨#[108, 101, 110]⟩, .func (.func 184) #[] #[], 4⟩, ⟨.string ⟨#[114, 101, 97, 100]⟩, .func (.func 185) #[] #[], 5⟩]
def mapSuffix : Array MapEntry := #[⟨.string ⟨#[46]⟩, .func (.func 186) #[] #[], 0⟩, ⟨.string ⟨#[91]⟩, .func (.func 187) #[] #[], 1⟩]

theorem run_makeMap (t : TypeId) (w : World) : (Instr.makeMap t none).run Tryz.prog w = .ok (.map (some w.heap.size)) (w.alloc (.map #[] 0)) := rfl
theorem push_set (h : Array Obj) (a b : Obj) : (h.push a).setIfInBounds h.size b = h.push b := by
  apply Array.ext_getElem?
  intro k
  rw [Array.getElem?_setIfInBounds, Array.getElem?_push, Array.getElem?_push, Array.size_push]
  by_cases hk : h.size = k
  · subst hk; simp
  · simp [hk, Ne.symm hk]
theorem key_str (s : ByteArray) : MapKept.IsKey .string (.string s) := trivial
theorem key_int (k : Int) : MapKept.IsKey (.int .i64) (.int .i64 k) := rfl
theorem find_now {k : TypeId} {d : TypeDesc} (hd : Tryz.prog.underlying k = some d) {key : Value} {es : List MapEntry} {r : Option (Nat × Value)} (h : Instr.findNow d key es 0 = some r) (w : World) : (Instr.findKey k key es).run Tryz.prog w = .ok r w := by
  unfold Instr.findKey
  simp [run_underlying hd, h, Result.andThen]
theorem upd_new {t k e : TypeId} {d : TypeDesc} (ht : Tryz.prog.underlying t = some (.map k e)) (hd : Tryz.prog.underlying k = some d) {key : Value} (hk : MapKept.IsKey d key) (v : Value) (w : World) (es es2 : Array MapEntry) (n n2 : Nat)
    (h : Instr.findNow d key es.toList 0 = some none) (h2 : es2 = es.push ⟨key, v, n⟩) (h3 : n2 = n + 1) :
    (Instr.mapUpdate t (.map (some w.heap.size)) key v).run Tryz.prog (w.alloc (.map es n)) = .ok () (w.alloc (.map es2 n2)) := by
  subst h2 h3
  have hb : (w.alloc (.map es n)).heap[w.heap.size]? = some (.map es n) := heap_alloc_new w _
  simp only [Instr.mapUpdate, Sem.run_bind, run_underlying ht, MapKept.run_getObj_map hb, MapKept.run_checkKey hd hk, find_now hd h, MapKept.run_setObj_map _ hb, Result.andThen]
  unfold World.alloc
  rw [push_set]

theorem look_hit {t k e : TypeId} {d : TypeDesc} (ht : Tryz.prog.underlying t = some (.map k e)) (hd : Tryz.prog.underlying k = some d) {key : Value} (hk : MapKept.IsKey d key) {w : World} {M : Nat} {es : Array MapEntry} {n : Nat} (hb : w.heap[M]? = some (.map es n))
    {i : Nat} {v : Value} (h : Instr.findNow d key es.toList 0 = some (some (i, v))) :
    (Instr.lookup t (.map (some M)) key true).run Tryz.prog w = .ok (.tuple #[v, .bool true]) w := by
  simp [Instr.lookup, run_underlying ht, MapKept.run_getObj_map hb, MapKept.run_checkKey hd hk, find_now hd h, Result.andThen]
theorem look_miss {t k e : TypeId} {d : TypeDesc} (ht : Tryz.prog.underlying t = some (.map k e)) (hd : Tryz.prog.underlying k = some d) {key : Value} (hk : MapKept.IsKey d key) {w : World} {M : Nat} {es : Array MapEntry} {n : Nat} (hb : w.heap[M]? = some (.map es n))
    (h : Instr.findNow d key es.toList 0 = some none) {z : Value} (hz : (zeroValue e).run Tryz.prog w = .ok z w) :
    (Instr.lookup t (.map (some M)) key true).run Tryz.prog w = .ok (.tuple #[z, .bool false]) w := by
  simp [Instr.lookup, run_underlying ht, MapKept.run_getObj_map hb, MapKept.run_checkKey hd hk, find_now hd h, hz, Result.andThen]

theorem kind_hit (R : Nat) (k : Int) (v : Value) (h : (k = 1 ∧ v = .func (.func 178) #[.pointer (some ⟨R, 0, none⟩)] #[]) ∨ (k = 2 ∧ v = .func (.func 177) #[.pointer (some ⟨R, 0, none⟩)] #[]) ∨ (k = 3 ∧ v = .func (.func 179) #[.pointer (some ⟨R, 0, none⟩)] #[]) ∨ (k = 4 ∧ v = .func (.func 180) #[.pointer (some ⟨R, 0, none⟩)] #[]))
    {w : World} {M : Nat} (hb : w.heap[M]? = some (.map (mapKind R) 4)) :
    (Instr.lookup 199 (.map (some M)) (.int .i64 k) true).run Tryz.prog w = .ok (.tuple #[v, .bool true]) w := by
  rcases h with ⟨rfl, rfl⟩ | ⟨rfl, rfl⟩ | ⟨rfl, rfl⟩ | ⟨rfl, rfl⟩
  · exact look_hit (i := 1) Tryz.underlying199 Tryz.underlying3 (key_int _) hb rfl
  · exact look_hit (i := 0) Tryz.underlying199 Tryz.underlying3 (key_int _) hb rfl
  · exact look_hit (i := 2) Tryz.underlying199 Tryz.underlying3 (key_int _) hb rfl
  · exact look_hit (i := 3) Tryz.underlying199 Tryz.underlying3 (key_int _) hb rfl
theorem kind_miss (R : Nat) (k : Int) (h1 : k ≠ 1) (h2 : k ≠ 2) (h3 : k ≠ 3) (h4 : k ≠ 4) {w : World} {M : Nat} (hb : w.heap[M]? = some (.map (mapKind R) 4)) :
    (Instr.lookup 199 (.map (some M)) (.int .i64 k) true).run Tryz.prog w = .ok (.tuple #[.nilFunc, .bool false]) w := by
  refine look_miss Tryz.underlying199 Tryz.underlying3 (key_int _) hb ?_ (by kernel_rfl)
  have e1 : (k == 1) = false := by simpa using h1
  have e2 : (k == 2) = false := by simpa using h2
  have e3 : (k == 3) = false := by simpa using h3
  have e4 : (k == 4) = false := by simpa using h4
  simp only [mapKind, Instr.findNow, Instr.sameNow, e1, e2, e3, e4, if_true]

set_option maxHeartbeats 1000000 in
theorem stepsByKind_any (w : World) (R : Nat) :
    Calls Tryz.prog 171 #[.pointer (some ⟨R, 0, none⟩)] w fun e w' => e = .returned (.map (some w.heap.size)) ∧ w' = w.alloc (.map (mapKind R) 4) := by
  have h0 := fun w => run_makeMap 199 w
  have h1 := upd_new Tryz.underlying199 Tryz.underlying3 (key := .int .i64 2) (key_int _) (.func (.func 177) #[.pointer (some ⟨R, 0, none⟩)] #[]) w #[] #[⟨.int .i64 2, .func (.func 177) #[.pointer (some ⟨R, 0, none⟩)] #[], 0⟩] 0 1 rfl rfl rfl
  have h2 := upd_new Tryz.underlying199 Tryz.underlying3 (key := .int .i64 1) (key_int _) (.func (.func 178) #[.pointer (some ⟨R, 0, none⟩)] #[]) w #[⟨.int .i64 2, .func (.func 177) #[.pointer (some ⟨R, 0, none⟩)] #[], 0⟩] #[⟨.int .i64 2, .func (.func 177) #[.pointer (some ⟨R, 0, none⟩)] #[], 0⟩, ⟨.int .i64 1, .func (.func 178) #[.pointer (some ⟨R, 0, none⟩)] #[], 1⟩] 1 2 rfl rfl rfl
  have h3 := upd_new Tryz.underlying199 Tryz.underlying3 (key := .int .i64 3) (key_int _) (.func (.func 179) #[.pointer (some ⟨R, 0, none⟩)] #[]) w #[⟨.int .i64 2, .func (.func 177) #[.pointer (some ⟨R, 0, none⟩)] #[], 0⟩, ⟨.int .i64 1, .func (.func 178) #[.pointer (some ⟨R, 0, none⟩)] #[], 1⟩] #[⟨.int .i64 2, .func (.func 177) #[.pointer (some ⟨R, 0, none⟩)] #[], 0⟩, ⟨.int .i64 1, .func (.func 178) #[.pointer (some ⟨R, 0, none⟩)] #[], 1⟩, ⟨.int .i64 3, .func (.func 179) #[.pointer (some ⟨R, 0, none⟩)] #[], 2⟩] 2 3 rfl rfl rfl
  have h4 := upd_new Tryz.underlying199 Tryz.underlying3 (key := .int .i64 4) (key_int _) (.func (.func 180) #[.pointer (some ⟨R, 0, none⟩)] #[]) w #[⟨.int .i64 2, .func (.func 177) #[.pointer (some ⟨R, 0, none⟩)] #[], 0⟩, ⟨.int .i64 1, .func (.func 178) #[.pointer (some ⟨R, 0, none⟩)] #[], 1⟩, ⟨.int .i64 3, .func (.func 179) #[.pointer (some ⟨R, 0, none⟩)] #[], 2⟩] #[⟨.int .i64 2, .func (.func 177) #[.pointer (some ⟨R, 0, none⟩)] #[], 0⟩, ⟨.int .i64 1, .func (.func 178) #[.pointer (some ⟨R, 0, none⟩)] #[], 1⟩, ⟨.int .i64 3, .func (.func 179) #[.pointer (some ⟨R, 0, none⟩)] #[], 2⟩, ⟨.int .i64 4, .func (.func 180) #[.pointer (some ⟨R, 0, none⟩)] #[], 3⟩] 3 4 rfl rfl rfl
  have hf : ∀ k w, (Instr.makeFunc (.func k) #[.pointer (some ⟨R, 0, none⟩)] #[]).run Tryz.prog w = .ok (.func (.func k) #[.pointer (some ⟨R, 0, none⟩)] #[]) w := fun _ _ => rfl
  go_enter Tryz.func171, Tryz.ntmps171
  go_wp2_with fail
  go_ret
  exact ⟨rfl, rfl⟩

set_option maxHeartbeats 1000000 in
theorem stepsByWord_any (w : World) :
    Calls Tryz.prog 172 #[] w fun e w' => e = .returned (.map (some w.heap.size)) ∧ w' = w.alloc (.map mapWord 6) := by
  have h0 := fun w => run_makeMap 200 w
  have h1 := upd_new Tryz.underlying200 Tryz.underlying9 (key := .string ⟨#[116, 114, 117, 101]⟩) (key_str _) (.func (.func 181) #[] #[]) w #[] #[⟨.string ⟨#[116, 114, 117, 101]⟩, .func (.func 181) #[] #[], 0⟩] 0 1 rfl rfl rfl
  have h2 := upd_new Tryz.underlying200 Tryz.underlying9 (key := .string ⟨#[102, 97, 108, 115, 101]⟩) (key_str _) (.func (.func 181) #[] #[]) w #[⟨.string ⟨#[116, 114, 117, 101]⟩, .func (.func 181) #[] #[], 0⟩] #[⟨.string ⟨#[116, 114, 117, 101]⟩, .func (.func 181) #[] #[], 0⟩, ⟨.string ⟨#[102, 97, 108, 115, 101]⟩, .func (.func 181) #[] #[], 1⟩] 1 2 rfl rfl rfl
  have h3 := upd_new Tryz.underlying200 Tryz.underlying9 (key := .string ⟨#[110, 117, 108, 108]⟩) (key_str _) (.func (.func 182) #[] #[]) w #[⟨.string ⟨#[116, 114, 117, 101]⟩, .func (.func 181) #[] #[], 0⟩, ⟨.string ⟨#[102, 97, 108, 115, 101]⟩, .func (.func 181) #[] #[], 1⟩] #[⟨.string ⟨#[116, 114, 117, 101]⟩, .func (.func 181) #[] #[], 0⟩, ⟨.string ⟨#[102, 97, 108, 115, 101]⟩, .func (.func 181) #[] #[], 1⟩, ⟨.string ⟨#[110, 117, 108, 108]⟩, .func (.func 182) #[] #[], 2⟩] 2 3 rfl rfl rfl
  have h4 := upd_new Tryz.underlying200 Tryz.underlying9 (key := .string ⟨#[110, 101, 119]⟩) (key_str _) (.func (.func 183) #[] #[]) w #[⟨.string ⟨#[116, 114, 117, 101]⟩, .func (.func 181) #[] #[], 0⟩, ⟨.string ⟨#[102, 97, 108, 115, 101]⟩, .func (.func 181) #[] #[], 1⟩, ⟨.string ⟨#[110, 117, 108, 108]⟩, .func (.func 182) #[] #[], 2⟩] #[⟨.string ⟨#[116, 114, 117, 101]⟩, .func (.func 181) #[] #[], 0⟩, ⟨.string ⟨#[102, 97, 108, 115, 101]⟩, .func (.func 181) #[] #[], 1⟩, ⟨.string ⟨#[110, 117, 108, 108]⟩, .func (.func 182) #[] #[], 2⟩, ⟨.string ⟨#[110, 101, 119]⟩, .func (.func 183) #[] #[], 3⟩] 3 4 rfl rfl rfl
  have h5 := upd_new Tryz.underlying200 Tryz.underlying9 (key := .string ⟨#[108, 101, 110]⟩) (key_str _) (.func (.func 184) #[] #[]) w #[⟨.string ⟨#[116, 114, 117, 101]⟩, .func (.func 181) #[] #[], 0⟩, ⟨.string ⟨#[102, 97, 108, 115, 101]⟩, .func (.func 181) #[] #[], 1⟩, ⟨.string ⟨#[110, 117, 108, 108]⟩, .func (.func 182) #[] #[], 2⟩, ⟨.string ⟨#[110, 101, 119]⟩, .func (.func 183) #[] #[], 3⟩] #[⟨.string ⟨#[116, 114, 117, 101]⟩, .func (.func 181) #[] #[], 0⟩, ⟨.string ⟨#[102, 97, 108, 115, 101]⟩, .func (.func 181) #[] #[], 1⟩, ⟨.string ⟨#[110, 117, 108, 108]⟩, .func (.func 182) #[] #[], 2⟩, ⟨.string ⟨#[110, 101, 119]⟩, .func (.func 183) #[] #[], 3⟩, ⟨.string ⟨#[108, 101, 110]⟩, .func (.func 184) #[] #[], 4⟩] 4 5 rfl rfl rfl
  have h6 := upd_new Tryz.underlying200 Tryz.underlying9 (key := .string ⟨#[114, 101, 97, 100]⟩) (key_str _) (.func (.func 185) #[] #[]) w #[⟨.string ⟨#[116, 114, 117, 101]⟩, .func (.func 181) #[] #[], 0⟩, ⟨.string ⟨#[102, 97, 108, 115, 101]⟩, .func (.func 181) #[] #[], 1⟩, ⟨.string ⟨#[110, 117, 108, 108]⟩, .func (.func 182) #[] #[], 2⟩, ⟨.string ⟨#[110, 101, 119]⟩, .func (.func 183) #[] #[], 3⟩, ⟨.string ⟨#[108, 101, 110]⟩, .func (.func 184) #[] #[], 4⟩] #[⟨.string ⟨#[116, 114, 117, 101]⟩, .func (.func 181) #[] #[], 0⟩, ⟨.string ⟨#[102, 97, 108, 115, 101]⟩, .func (.func 181) #[] #[], 1⟩, ⟨.string ⟨#[110, 117, 108, 108]⟩, .func (.func 182) #[] #[], 2⟩, ⟨.string ⟨#[110, 101, 119]⟩, .func (.func 183) #[] #[], 3⟩, ⟨.string ⟨#[108, 101, 110]⟩, .func (.func 184) #[] #[], 4⟩, ⟨.string ⟨#[114, 101, 97, 100]⟩, .func (.func 185) #[] #[], 5⟩] 5 6 rfl rfl rfl
  go_enter Tryz.func172, Tryz.ntmps172
  go_wp2_with fail
  go_ret
  exact ⟨rfl, rfl⟩

set_option maxHeartbeats 1000000 in
theorem stepsBySuffix_any (w : World) :
    Calls Tryz.prog 173 #[] w fun e w' => e = .returned (.map (some w.heap.size)) ∧ w' = w.alloc (.map mapSuffix 2) := by
  have h0 := fun w => run_makeMap 201 w
  have h1 := upd_new Tryz.underlying201 Tryz.underlying9 (key := .string ⟨#[46]⟩) (key_str _) (.func (.func 186) #[] #[]) w #[] #[⟨.string ⟨#[46]⟩, .func (.func 186) #[] #[], 0⟩] 0 1 rfl rfl rfl
  have h2 := upd_new Tryz.underlying201 Tryz.underlying9 (key := .string ⟨#[91]⟩) (key_str _) (.func (.func 187) #[] #[]) w #[⟨.string ⟨#[46]⟩, .func (.func 186) #[] #[], 0⟩] #[⟨.string ⟨#[46]⟩, .func (.func 186) #[] #[], 0⟩, ⟨.string ⟨#[91]⟩, .func (.func 187) #[] #[], 1⟩] 1 2 rfl rfl rfl
  go_enter Tryz.func173, Tryz.ntmps173
  go_wp2_with fail
  go_ret
  exact ⟨rfl, rfl⟩

theorem word_hit0 {w : World} {M : Nat} (hb : w.heap[M]? = some (.map mapWord 6)) :
    (Instr.lookup 200 (.map (some M)) (.string ⟨#[116, 114, 117, 101]⟩) true).run Tryz.prog w = .ok (.tuple #[.func (.func 181) #[] #[], .bool true]) w :=
  look_hit (i := 0) Tryz.underlying200 Tryz.underlying9 (key_str _) hb rfl
theorem word_hit1 {w : World} {M : Nat} (hb : w.heap[M]? = some (.map mapWord 6)) :
    (Instr.lookup 200 (.map (some M)) (.string ⟨#[102, 97, 108, 115, 101]⟩) true).run Tryz.prog w = .ok (.tuple #[.func (.func 181) #[] #[], .bool true]) w :=
  look_hit (i := 1) Tryz.underlying200 Tryz.underlying9 (key_str _) hb rfl
theorem word_hit2 {w : World} {M : Nat} (hb : w.heap[M]? = some (.map mapWord 6)) :
    (Instr.lookup 200 (.map (some M)) (.string ⟨#[110, 117, 108, 108]⟩) true).run Tryz.prog w = .ok (.tuple #[.func (.func 182) #[] #[], .bool true]) w :=
  look_hit (i := 2) Tryz.underlying200 Tryz.underlying9 (key_str _) hb rfl
theorem word_hit3 {w : World} {M : Nat} (hb : w.heap[M]? = some (.map mapWord 6)) :
    (Instr.lookup 200 (.map (some M)) (.string ⟨#[110, 101, 119]⟩) true).run Tryz.prog w = .ok (.tuple #[.func (.func 183) #[] #[], .bool true]) w :=
  look_hit (i := 3) Tryz.underlying200 Tryz.underlying9 (key_str _) hb rfl
theorem word_hit4 {w : World} {M : Nat} (hb : w.heap[M]? = some (.map mapWord 6)) :
    (Instr.lookup 200 (.map (some M)) (.string ⟨#[108, 101, 110]⟩) true).run Tryz.prog w = .ok (.tuple #[.func (.func 184) #[] #[], .bool true]) w :=
  look_hit (i := 4) Tryz.underlying200 Tryz.underlying9 (key_str _) hb rfl
theorem word_hit5 {w : World} {M : Nat} (hb : w.heap[M]? = some (.map mapWord 6)) :
    (Instr.lookup 200 (.map (some M)) (.string ⟨#[114, 101, 97, 100]⟩) true).run Tryz.prog w = .ok (.tuple #[.func (.func 185) #[] #[], .bool true]) w :=
  look_hit (i := 5) Tryz.underlying200 Tryz.underlying9 (key_str _) hb rfl
theorem word_hit_miss (s : ByteArray) (h0 : (s == ⟨#[116, 114, 117, 101]⟩) = false) (h1 : (s == ⟨#[102, 97, 108, 115, 101]⟩) = false) (h2 : (s == ⟨#[110, 117, 108, 108]⟩) = false) (h3 : (s == ⟨#[110, 101, 119]⟩) = false) (h4 : (s == ⟨#[108, 101, 110]⟩) = false) (h5 : (s == ⟨#[114, 101, 97, 100]⟩) = false) {w : World} {M : Nat} (hb : w.heap[M]? = some (.map mapWord 6)) :
    (Instr.lookup 200 (.map (some M)) (.string s) true).run Tryz.prog w = .ok (.tuple #[.nilFunc, .bool false]) w := by
  refine look_miss Tryz.underlying200 Tryz.underlying9 (key_str _) hb ?_ (by kernel_rfl)
  simp only [mapWord, Instr.findNow, Instr.sameNow, h0, h1, h2, h3, h4, h5]

theorem suffix_hit0 {w : World} {M : Nat} (hb : w.heap[M]? = some (.map mapSuffix 2)) :
    (Instr.lookup 201 (.map (some M)) (.string ⟨#[46]⟩) true).run Tryz.prog w = .ok (.tuple #[.func (.func 186) #[] #[], .bool true]) w :=
  look_hit (i := 0) Tryz.underlying201 Tryz.underlying9 (key_str _) hb rfl
theorem suffix_hit1 {w : World} {M : Nat} (hb : w.heap[M]? = some (.map mapSuffix 2)) :
    (Instr.lookup 201 (.map (some M)) (.string ⟨#[91]⟩) true).run Tryz.prog w = .ok (.tuple #[.func (.func 187) #[] #[], .bool true]) w :=
  look_hit (i := 1) Tryz.underlying201 Tryz.underlying9 (key_str _) hb rfl
theorem suffix_hit_miss (s : ByteArray) (h0 : (s == ⟨#[46]⟩) = false) (h1 : (s == ⟨#[91]⟩) = false) {w : World} {M : Nat} (hb : w.heap[M]? = some (.map mapSuffix 2)) :
    (Instr.lookup 201 (.map (some M)) (.string s) true).run Tryz.prog w = .ok (.tuple #[.nilFunc, .bool false]) w := by
  refine look_miss Tryz.underlying201 Tryz.underlying9 (key_str _) hb ?_ (by kernel_rfl)
  simp only [mapSuffix, Instr.findNow, Instr.sameNow, h0, h1]
end Go.Proofs.YtnadaedibicaaaaGreatDoor
