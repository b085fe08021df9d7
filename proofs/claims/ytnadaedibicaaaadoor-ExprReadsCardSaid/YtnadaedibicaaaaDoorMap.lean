/-
  The project's reader: its three tables of steps.
-/
import Derived.Test.YtnadaedibicaaaaDoorCurE
import Derived.Maps.Keyed
namespace Go.Proofs.YtnadaedibicaaaaDoor
open Go.RowKit
open Px (RT tokAt)
open Pe

def rp (R : Nat) : Value := .pointer (some ⟨R, 0, none⟩)
def fnv (k : Nat) : Value := .func (.func k) #[] #[]
def mapKind (R : Nat) : Array MapEntry := #[⟨.int .i64 2, .func (.func 61) #[.pointer (some ⟨R, 0, none⟩)] #[], 0⟩, ⟨.int .i64 1, .func (.func 62) #[.pointer (some ⟨R, 0, none⟩)] #[], 1⟩, ⟨.int .i64 3, .func (.func 63) #[.pointer (some ⟨R, 0, none⟩)] #[], 2⟩, ⟨.int .i64 4, .func (.func 64) #[.pointer (some ⟨R, 0, none⟩)] #[], 3⟩]
def mapWord : Array MapEntry := #[⟨.string ⟨#[116, 114, 117, 101]⟩, .func (.func 65) #[] #[], 0⟩, ⟨.string ⟨#[102, 97, 108, 115, 101]⟩, .func (.func 65) #[] #[], 1⟩, ⟨.string ⟨#[110, 117, 108, 108]⟩, .func (.func 66) #[] #[], 2⟩, ⟨.string ⟨#[110, 101, 119]⟩, .func (.func 67) #[] #[], 3⟩, ⟨.string ⟨#[108, 101, 110]⟩, .func (.func 68) #[] #[], 4⟩, ⟨.string ⟨#[114, 101, 97, 100]⟩, .func (.func 69) #[] #[], 5⟩]
def mapSuffix : Array MapEntry := #[⟨.string ⟨#[46]⟩, .func (.func 70) #[] #[], 0⟩, ⟨.string ⟨#[91]⟩, .func (.func 71) #[] #[], 1⟩]

theorem check_int (b : Bool) (k : Int) (w : World) : (Instr.checkKey b 10000 3 (.int .i64 k)).run Tryd.prog w = .ok () w := by
  rw [show (10000 : Nat) = 9999 + 1 from rfl, Instr.checkKey]
  simp [run_underlying Tryd.underlying3]
theorem check_str (b : Bool) (s : ByteArray) (w : World) : (Instr.checkKey b 10000 9 (.string s)).run Tryd.prog w = .ok () w := by
  rw [show (10000 : Nat) = 9999 + 1 from rfl, Instr.checkKey]
  simp [run_underlying Tryd.underlying9]
theorem run_makeMap (t : TypeId) (w : World) : (Instr.makeMap t none).run Tryd.prog w = .ok (.map (some w.heap.size)) (w.alloc (.map #[] 0)) := rfl
theorem push_set (h : Array Obj) (a b : Obj) : (h.push a).setIfInBounds h.size b = h.push b := by
  apply Array.ext_getElem?
  intro k
  rw [Array.getElem?_setIfInBounds, Array.getElem?_push, Array.getElem?_push, Array.size_push]
  by_cases hk : h.size = k
  · subst hk; simp
  · simp [hk, Ne.symm hk]
theorem key_str (s : ByteArray) : MapKept.IsKey .string (.string s) := trivial
theorem key_int (k : Int) : MapKept.IsKey (.int .i64) (.int .i64 k) := rfl
theorem find_now {k : TypeId} {d : TypeDesc} (hd : Tryd.prog.underlying k = some d) {key : Value} {es : List MapEntry} {r : Option (Nat × Value)} (h : Instr.findNow d key es 0 = some r) (w : World) : (Instr.findKey k key es).run Tryd.prog w = .ok r w := by
  unfold Instr.findKey
  simp [run_underlying hd, h, Result.andThen]
theorem upd_new {t k e : TypeId} {d : TypeDesc} (ht : Tryd.prog.underlying t = some (.map k e)) (hd : Tryd.prog.underlying k = some d) {key : Value} (hk : MapKept.IsKey d key) (v : Value) (w : World) (es es2 : Array MapEntry) (n n2 : Nat)
    (h : Instr.findNow d key es.toList 0 = some none) (h2 : es2 = es.push ⟨key, v, n⟩) (h3 : n2 = n + 1) :
    (Instr.mapUpdate t (.map (some w.heap.size)) key v).run Tryd.prog (w.alloc (.map es n)) = .ok () (w.alloc (.map es2 n2)) := by
  subst h2 h3
  have hb : (w.alloc (.map es n)).heap[w.heap.size]? = some (.map es n) := heap_alloc_new w _
  simp only [Instr.mapUpdate, Sem.run_bind, run_underlying ht, MapKept.run_getObj_map hb, MapKept.run_checkKey hd hk, find_now hd h, MapKept.run_setObj_map _ hb, Result.andThen]
  unfold World.alloc
  rw [push_set]

theorem look_hit {t k e : TypeId} {d : TypeDesc} (ht : Tryd.prog.underlying t = some (.map k e)) (hd : Tryd.prog.underlying k = some d) {key : Value} (hk : MapKept.IsKey d key) {w : World} {M : Nat} {es : Array MapEntry} {n : Nat} (hb : w.heap[M]? = some (.map es n))
    {i : Nat} {v : Value} (h : Instr.findNow d key es.toList 0 = some (some (i, v))) :
    (Instr.lookup t (.map (some M)) key true).run Tryd.prog w = .ok (.tuple #[v, .bool true]) w := by
  simp [Instr.lookup, run_underlying ht, MapKept.run_getObj_map hb, MapKept.run_checkKey hd hk, find_now hd h, Result.andThen]
theorem look_miss {t k e : TypeId} {d : TypeDesc} (ht : Tryd.prog.underlying t = some (.map k e)) (hd : Tryd.prog.underlying k = some d) {key : Value} (hk : MapKept.IsKey d key) {w : World} {M : Nat} {es : Array MapEntry} {n : Nat} (hb : w.heap[M]? = some (.map es n))
    (h : Instr.findNow d key es.toList 0 = some none) {z : Value} (hz : (zeroValue e).run Tryd.prog w = .ok z w) :
    (Instr.lookup t (.map (some M)) key true).run Tryd.prog w = .ok (.tuple #[z, .bool false]) w := by
  simp [Instr.lookup, run_underlying ht, MapKept.run_getObj_map hb, MapKept.run_checkKey hd hk, find_now hd h, hz, Result.andThen]

theorem kind_hit (R : Nat) (k : Int) (v : Value) (h : (k = 1 ∧ v = .func (.func 62) #[.pointer (some ⟨R, 0, none⟩)] #[]) ∨ (k = 2 ∧ v = .func (.func 61) #[.pointer (some ⟨R, 0, none⟩)] #[]) ∨ (k = 3 ∧ v = .func (.func 63) #[.pointer (some ⟨R, 0, none⟩)] #[]) ∨ (k = 4 ∧ v = .func (.func 64) #[.pointer (some ⟨R, 0, none⟩)] #[]))
    {w : World} {M : Nat} (hb : w.heap[M]? = some (.map (mapKind R) 4)) :
    (Instr.lookup 71 (.map (some M)) (.int .i64 k) true).run Tryd.prog w = .ok (.tuple #[v, .bool true]) w := by
  rcases h with ⟨rfl, rfl⟩ | ⟨rfl, rfl⟩ | ⟨rfl, rfl⟩ | ⟨rfl, rfl⟩
  · exact look_hit (i := 1) Tryd.underlying71 Tryd.underlying3 (key_int _) hb rfl
  · exact look_hit (i := 0) Tryd.underlying71 Tryd.underlying3 (key_int _) hb rfl
  · exact look_hit (i := 2) Tryd.underlying71 Tryd.underlying3 (key_int _) hb rfl
  · exact look_hit (i := 3) Tryd.underlying71 Tryd.underlying3 (key_int _) hb rfl
theorem kind_miss (R : Nat) (k : Int) (h1 : k ≠ 1) (h2 : k ≠ 2) (h3 : k ≠ 3) (h4 : k ≠ 4) {w : World} {M : Nat} (hb : w.heap[M]? = some (.map (mapKind R) 4)) :
    (Instr.lookup 71 (.map (some M)) (.int .i64 k) true).run Tryd.prog w = .ok (.tuple #[.nilFunc, .bool false]) w := by
  refine look_miss Tryd.underlying71 Tryd.underlying3 (key_int _) hb ?_ (by kernel_rfl)
  have e1 : (k == 1) = false := by simpa using h1
  have e2 : (k == 2) = false := by simpa using h2
  have e3 : (k == 3) = false := by simpa using h3
  have e4 : (k == 4) = false := by simpa using h4
  simp only [mapKind, Instr.findNow, Instr.sameNow, e1, e2, e3, e4, if_true]

set_option maxHeartbeats 1000000 in
theorem stepsByKind_any (w : World) (R : Nat) :
    Calls Tryd.prog 52 #[.pointer (some ⟨R, 0, none⟩)] w fun e w' => e = .returned (.map (some w.heap.size)) ∧ w' = w.alloc (.map (mapKind R) 4) := by
  have h0 := fun w => run_makeMap 71 w
  have h1 := upd_new Tryd.underlying71 Tryd.underlying3 (key := .int .i64 2) (key_int _) (.func (.func 61) #[.pointer (some ⟨R, 0, none⟩)] #[]) w #[] #[⟨.int .i64 2, .func (.func 61) #[.pointer (some ⟨R, 0, none⟩)] #[], 0⟩] 0 1 rfl rfl rfl
  have h2 := upd_new Tryd.underlying71 Tryd.underlying3 (key := .int .i64 1) (key_int _) (.func (.func 62) #[.pointer (some ⟨R, 0, none⟩)] #[]) w #[⟨.int .i64 2, .func (.func 61) #[.pointer (some ⟨R, 0, none⟩)] #[], 0⟩] #[⟨.int .i64 2, .func (.func 61) #[.pointer (some ⟨R, 0, none⟩)] #[], 0⟩, ⟨.int .i64 1, .func (.func 62) #[.pointer (some ⟨R, 0, none⟩)] #[], 1⟩] 1 2 rfl rfl rfl
  have h3 := upd_new Tryd.underlying71 Tryd.underlying3 (key := .int .i64 3) (key_int _) (.func (.func 63) #[.pointer (some ⟨R, 0, none⟩)] #[]) w #[⟨.int .i64 2, .func (.func 61) #[.pointer (some ⟨R, 0, none⟩)] #[], 0⟩, ⟨.int .i64 1, .func (.func 62) #[.pointer (some ⟨R, 0, none⟩)] #[], 1⟩] #[⟨.int .i64 2, .func (.func 61) #[.pointer (some ⟨R, 0, none⟩)] #[], 0⟩, ⟨.int .i64 1, .func (.func 62) #[.pointer (some ⟨R, 0, none⟩)] #[], 1⟩, ⟨.int .i64 3, .func (.func 63) #[.pointer (some ⟨R, 0, none⟩)] #[], 2⟩] 2 3 rfl rfl rfl
  have h4 := upd_new Tryd.underlying71 Tryd.underlying3 (key := .int .i64 4) (key_int _) (.func (.func 64) #[.pointer (some ⟨R, 0, none⟩)] #[]) w #[⟨.int .i64 2, .func (.func 61) #[.pointer (some ⟨R, 0, none⟩)] #[], 0⟩, ⟨.int .i64 1, .func (.func 62) #[.pointer (some ⟨R, 0, none⟩)] #[], 1⟩, ⟨.int .i64 3, .func (.func 63) #[.pointer (some ⟨R, 0, none⟩)] #[], 2⟩] #[⟨.int .i64 2, .func (.func 61) #[.pointer (some ⟨R, 0, none⟩)] #[], 0⟩, ⟨.int .i64 1, .func (.func 62) #[.pointer (some ⟨R, 0, none⟩)] #[], 1⟩, ⟨.int .i64 3, .func (.func 63) #[.pointer (some ⟨R, 0, none⟩)] #[], 2⟩, ⟨.int .i64 4, .func (.func 64) #[.pointer (some ⟨R, 0, none⟩)] #[], 3⟩] 3 4 rfl rfl rfl
  have hf : ∀ k w, (Instr.makeFunc (.func k) #[.pointer (some ⟨R, 0, none⟩)] #[]).run Tryd.prog w = .ok (.func (.func k) #[.pointer (some ⟨R, 0, none⟩)] #[]) w := fun _ _ => rfl
  go_enter Tryd.func52, Tryd.ntmps52
  go_wp2_with fail
  go_ret
  exact ⟨rfl, rfl⟩

set_option maxHeartbeats 1000000 in
theorem stepsByWord_any (w : World) :
    Calls Tryd.prog 53 #[] w fun e w' => e = .returned (.map (some w.heap.size)) ∧ w' = w.alloc (.map mapWord 6) := by
  have h0 := fun w => run_makeMap 72 w
  have h1 := upd_new Tryd.underlying72 Tryd.underlying9 (key := .string ⟨#[116, 114, 117, 101]⟩) (key_str _) (.func (.func 65) #[] #[]) w #[] #[⟨.string ⟨#[116, 114, 117, 101]⟩, .func (.func 65) #[] #[], 0⟩] 0 1 rfl rfl rfl
  have h2 := upd_new Tryd.underlying72 Tryd.underlying9 (key := .string ⟨#[102, 97, 108, 115, 101]⟩) (key_str _) (.func (.func 65) #[] #[]) w #[⟨.string ⟨#[116, 114, 117, 101]⟩, .func (.func 65) #[] #[], 0⟩] #[⟨.string ⟨#[116, 114, 117, 101]⟩, .func (.func 65) #[] #[], 0⟩, ⟨.string ⟨#[102, 97, 108, 115, 101]⟩, .func (.func 65) #[] #[], 1⟩] 1 2 rfl rfl rfl
  have h3 := upd_new Tryd.underlying72 Tryd.underlying9 (key := .string ⟨#[110, 117, 108, 108]⟩) (key_str _) (.func (.func 66) #[] #[]) w #[⟨.string ⟨#[116, 114, 117, 101]⟩, .func (.func 65) #[] #[], 0⟩, ⟨.string ⟨#[102, 97, 108, 115, 101]⟩, .func (.func 65) #[] #[], 1⟩] #[⟨.string ⟨#[116, 114, 117, 101]⟩, .func (.func 65) #[] #[], 0⟩, ⟨.string ⟨#[102, 97, 108, 115, 101]⟩, .func (.func 65) #[] #[], 1⟩, ⟨.string ⟨#[110, 117, 108, 108]⟩, .func (.func 66) #[] #[], 2⟩] 2 3 rfl rfl rfl
  have h4 := upd_new Tryd.underlying72 Tryd.underlying9 (key := .string ⟨#[110, 101, 119]⟩) (key_str _) (.func (.func 67) #[] #[]) w #[⟨.string ⟨#[116, 114, 117, 101]⟩, .func (.func 65) #[] #[], 0⟩, ⟨.string ⟨#[102, 97, 108, 115, 101]⟩, .func (.func 65) #[] #[], 1⟩, ⟨.string ⟨#[110, 117, 108, 108]⟩, .func (.func 66) #[] #[], 2⟩] #[⟨.string ⟨#[116, 114, 117, 101]⟩, .func (.func 65) #[] #[], 0⟩, ⟨.string ⟨#[102, 97, 108, 115, 101]⟩, .func (.func 65) #[] #[], 1⟩, ⟨.string ⟨#[110, 117, 108, 108]⟩, .func (.func 66) #[] #[], 2⟩, ⟨.string ⟨#[110, 101, 119]⟩, .func (.func 67) #[] #[], 3⟩] 3 4 rfl rfl rfl
  have h5 := upd_new Tryd.underlying72 Tryd.underlying9 (key := .string ⟨#[108, 101, 110]⟩) (key_str _) (.func (.func 68) #[] #[]) w #[⟨.string ⟨#[116, 114, 117, 101]⟩, .func (.func 65) #[] #[], 0⟩, ⟨.string ⟨#[102, 97, 108, 115, 101]⟩, .func (.func 65) #[] #[], 1⟩, ⟨.string ⟨#[110, 117, 108, 108]⟩, .func (.func 66) #[] #[], 2⟩, ⟨.string ⟨#[110, 101, 119]⟩, .func (.func 67) #[] #[], 3⟩] #[⟨.string ⟨#[116, 114, 117, 101]⟩, .func (.func 65) #[] #[], 0⟩, ⟨.string ⟨#[102, 97, 108, 115, 101]⟩, .func (.func 65) #[] #[], 1⟩, ⟨.string ⟨#[110, 117, 108, 108]⟩, .func (.func 66) #[] #[], 2⟩, ⟨.string ⟨#[110, 101, 119]⟩, .func (.func 67) #[] #[], 3⟩, ⟨.string ⟨#[108, 101, 110]⟩, .func (.func 68) #[] #[], 4⟩] 4 5 rfl rfl rfl
  have h6 := upd_new Tryd.underlying72 Tryd.underlying9 (key := .string ⟨#[114, 101, 97, 100]⟩) (key_str _) (.func (.func 69) #[] #[]) w #[⟨.string ⟨#[116, 114, 117, 101]⟩, .func (.func 65) #[] #[], 0⟩, ⟨.string ⟨#[102, 97, 108, 115, 101]⟩, .func (.func 65) #[] #[], 1⟩, ⟨.string ⟨#[110, 117, 108, 108]⟩, .func (.func 66) #[] #[], 2⟩, ⟨.string ⟨#[110, 101, 119]⟩, .func (.func 67) #[] #[], 3⟩, ⟨.string ⟨#[108, 101, 110]⟩, .func (.func 68) #[] #[], 4⟩] #[⟨.string ⟨#[116, 114, 117, 101]⟩, .func (.func 65) #[] #[], 0⟩, ⟨.string ⟨#[102, 97, 108, 115, 101]⟩, .func (.func 65) #[] #[], 1⟩, ⟨.string ⟨#[110, 117, 108, 108]⟩, .func (.func 66) #[] #[], 2⟩, ⟨.string ⟨#[110, 101, 119]⟩, .func (.func 67) #[] #[], 3⟩, ⟨.string ⟨#[108, 101, 110]⟩, .func (.func 68) #[] #[], 4⟩, ⟨.string ⟨#[114, 101, 97, 100]⟩, .func (.func 69) #[] #[], 5⟩] 5 6 rfl rfl rfl
  go_enter Tryd.func53, Tryd.ntmps53
  go_wp2_with fail
  go_ret
  exact ⟨rfl, rfl⟩

set_option maxHeartbeats 1000000 in
theorem stepsBySuffix_any (w : World) :
    Calls Tryd.prog 54 #[] w fun e w' => e = .returned (.map (some w.heap.size)) ∧ w' = w.alloc (.map mapSuffix 2) := by
  have h0 := fun w => run_makeMap 73 w
  have h1 := upd_new Tryd.underlying73 Tryd.underlying9 (key := .string ⟨#[46]⟩) (key_str _) (.func (.func 70) #[] #[]) w #[] #[⟨.string ⟨#[46]⟩, .func (.func 70) #[] #[], 0⟩] 0 1 rfl rfl rfl
  have h2 := upd_new Tryd.underlying73 Tryd.underlying9 (key := .string ⟨#[91]⟩) (key_str _) (.func (.func 71) #[] #[]) w #[⟨.string ⟨#[46]⟩, .func (.func 70) #[] #[], 0⟩] #[⟨.string ⟨#[46]⟩, .func (.func 70) #[] #[], 0⟩, ⟨.string ⟨#[91]⟩, .func (.func 71) #[] #[], 1⟩] 1 2 rfl rfl rfl
  go_enter Tryd.func54, Tryd.ntmps54
  go_wp2_with fail
  go_ret
  exact ⟨rfl, rfl⟩

theorem word_hit0 {w : World} {M : Nat} (hb : w.heap[M]? = some (.map mapWord 6)) :
    (Instr.lookup 72 (.map (some M)) (.string ⟨#[116, 114, 117, 101]⟩) true).run Tryd.prog w = .ok (.tuple #[.func (.func 65) #[] #[], .bool true]) w :=
  look_hit (i := 0) Tryd.underlying72 Tryd.underlying9 (key_str _) hb rfl
theorem word_hit1 {w : World} {M : Nat} (hb : w.heap[M]? = some (.map mapWord 6)) :
    (Instr.lookup 72 (.map (some M)) (.string ⟨#[102, 97, 108, 115, 101]⟩) true).run Tryd.prog w = .ok (.tuple #[.func (.func 65) #[] #[], .bool true]) w :=
  look_hit (i := 1) Tryd.underlying72 Tryd.underlying9 (key_str _) hb rfl
theorem word_hit2 {w : World} {M : Nat} (hb : w.heap[M]? = some (.map mapWord 6)) :
    (Instr.lookup 72 (.map (some M)) (.string ⟨#[110, 117, 108, 108]⟩) true).run Tryd.prog w = .ok (.tuple #[.func (.func 66) #[] #[], .bool true]) w :=
  look_hit (i := 2) Tryd.underlying72 Tryd.underlying9 (key_str _) hb rfl
theorem word_hit3 {w : World} {M : Nat} (hb : w.heap[M]? = some (.map mapWord 6)) :
    (Instr.lookup 72 (.map (some M)) (.string ⟨#[110, 101, 119]⟩) true).run Tryd.prog w = .ok (.tuple #[.func (.func 67) #[] #[], .bool true]) w :=
  look_hit (i := 3) Tryd.underlying72 Tryd.underlying9 (key_str _) hb rfl
theorem word_hit4 {w : World} {M : Nat} (hb : w.heap[M]? = some (.map mapWord 6)) :
    (Instr.lookup 72 (.map (some M)) (.string ⟨#[108, 101, 110]⟩) true).run Tryd.prog w = .ok (.tuple #[.func (.func 68) #[] #[], .bool true]) w :=
  look_hit (i := 4) Tryd.underlying72 Tryd.underlying9 (key_str _) hb rfl
theorem word_hit5 {w : World} {M : Nat} (hb : w.heap[M]? = some (.map mapWord 6)) :
    (Instr.lookup 72 (.map (some M)) (.string ⟨#[114, 101, 97, 100]⟩) true).run Tryd.prog w = .ok (.tuple #[.func (.func 69) #[] #[], .bool true]) w :=
  look_hit (i := 5) Tryd.underlying72 Tryd.underlying9 (key_str _) hb rfl
theorem word_hit_miss (s : ByteArray) (h0 : (s == ⟨#[116, 114, 117, 101]⟩) = false) (h1 : (s == ⟨#[102, 97, 108, 115, 101]⟩) = false) (h2 : (s == ⟨#[110, 117, 108, 108]⟩) = false) (h3 : (s == ⟨#[110, 101, 119]⟩) = false) (h4 : (s == ⟨#[108, 101, 110]⟩) = false) (h5 : (s == ⟨#[114, 101, 97, 100]⟩) = false) {w : World} {M : Nat} (hb : w.heap[M]? = some (.map mapWord 6)) :
    (Instr.lookup 72 (.map (some M)) (.string s) true).run Tryd.prog w = .ok (.tuple #[.nilFunc, .bool false]) w := by
  refine look_miss Tryd.underlying72 Tryd.underlying9 (key_str _) hb ?_ (by kernel_rfl)
  simp only [mapWord, Instr.findNow, Instr.sameNow, h0, h1, h2, h3, h4, h5]

theorem suffix_hit0 {w : World} {M : Nat} (hb : w.heap[M]? = some (.map mapSuffix 2)) :
    (Instr.lookup 73 (.map (some M)) (.string ⟨#[46]⟩) true).run Tryd.prog w = .ok (.tuple #[.func (.func 70) #[] #[], .bool true]) w :=
  look_hit (i := 0) Tryd.underlying73 Tryd.underlying9 (key_str _) hb rfl
theorem suffix_hit1 {w : World} {M : Nat} (hb : w.heap[M]? = some (.map mapSuffix 2)) :
    (Instr.lookup 73 (.map (some M)) (.string ⟨#[91]⟩) true).run Tryd.prog w = .ok (.tuple #[.func (.func 71) #[] #[], .bool true]) w :=
  look_hit (i := 1) Tryd.underlying73 Tryd.underlying9 (key_str _) hb rfl
theorem suffix_hit_miss (s : ByteArray) (h0 : (s == ⟨#[46]⟩) = false) (h1 : (s == ⟨#[91]⟩) = false) {w : World} {M : Nat} (hb : w.heap[M]? = some (.map mapSuffix 2)) :
    (Instr.lookup 73 (.map (some M)) (.string s) true).run Tryd.prog w = .ok (.tuple #[.nilFunc, .bool false]) w := by
  refine look_miss Tryd.underlying73 Tryd.underlying9 (key_str _) hb ?_ (by kernel_rfl)
  simp only [mapSuffix, Instr.findNow, Instr.sameNow, h0, h1]
end Go.Proofs.YtnadaedibicaaaaDoor
