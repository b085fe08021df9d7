/-
  The contracts of the answer's reader (runrigref3), over the
-/
import Derived.Test.YteadgahhchlgeaaDoorK08
import Derived.Test.YteadgahhchlgeaaDoorK02
set_option maxHeartbeats 8000000
namespace Go.Proofs.YteadgahhchlgeaaDoor
open Go.RowKit
open Px (RT tokAt isT)
theorem zBg {w wr:World}(h:Below w.heap.size w wr)(o:Obj):Below w.heap.size w (wr.alloc o):=h.alloc h.size o
theorem zGz (w:World)(l:Nat)(t:RT)(ht:¬ t.kind = 4) :
 Calls Tryd.prog 55 #[.int .i64 l,tokW t] w fun e w' => e = .returned (.int .i64 (Px.levelT l t)) ∧ Below w.heap.size w w':=by
 have hl:Px.levelT l t = 0:=by rw [Px.levelT,if_neg ht]
 rw [hl]
 have hd:(t.kind == 4) = false:=beq_eq_false_iff_ne.2 ht
 have hd2:(t.kind != 4) = true:=by rw [bne,hd]; rfl
 unfold tokW
 clear ht hl
 go_in
 go_wp2_with fail
 go_ret
 exact ⟨rfl,(Below.refl _ _).alloc (Nat.le_refl _) _⟩
theorem zLA (w:World)(t:RT)(ht:t.kind = 4) :
 Calls Tryd.prog 55 #[.int .i64 0,tokW t] w fun e w' => e = .returned (.int .i64 (Px.levelT 0 t)) ∧ Below w.heap.size w w':=by
 have hd:(t.kind == 4) = true:=by rw [ht]; rfl
 have hd2:(t.kind != 4) = false:=by rw [bne,hd]; rfl
 obtain ⟨v,hv⟩:∃ v,Px.levelT 0 t = v:=⟨_,rfl⟩
 rw [hv]
 rw [Px.levelT,if_pos ht] at hv
 have HV:=vH hv
 unfold tokW
 clear ht hv
 go_in
 go_wp2_with fail
 change Code.wp _ _ _ _ ?wx
 obtain ⟨wq,hwq⟩:∃ wq,wq = ?wx:=⟨_,rfl⟩
 rw [← hwq]
 have cS:wq.cell? ⟨w.heap.size + 1 + 1 + 1 + 1 + 1 + 1,0,none⟩ = some (.slice (some ⟨w.heap.size + 1,0,none⟩) 1 1):=by rw [hwq]; simp [go_sem]
 have cK:wq.cell? ⟨w.heap.size + 1 + 1 + 1 + 1 + 1 + 1 + 1 + 1 + 1 + 1 + 1 + 1,0,none⟩ = some (.slice (some ⟨w.heap.size + 1 + 1 + 1 + 1 + 1 + 1 + 1,0,none⟩) 1 1):=by rw [hwq]; simp [go_sem]
 have s0:wq.cell? ⟨w.heap.size + 1,0,none⟩ = some (.string ⟨#[124,124]⟩):=by rw [hwq]; simp [go_sem]
 have v0:wq.cell? ⟨w.heap.size + 1 + 1 + 1 + 1 + 1 + 1 + 1,0,none⟩ = some (.int .i64 24):=by rw [hwq]; simp [go_sem]
 have t1:wq.cell? ⟨w.heap.size,1,none⟩ = some (.string (cbs t.text)):=by rw [hwq]; simp [go_sem]
 have hb:Below w.heap.size w wq:=by
  rw [hwq]
  repeat (refine zBg ?_ _)
  exact Below.refl _ _
 clear hwq
 have HB:=vH hb
 clear hb
 have hx0:([124,124] == (cbs t.text).toList) = ([124,124] == t.text):=by rw [zR]
 obtain ⟨x0,e0⟩:∃ x,([124,124] == t.text) = x:=⟨_,rfl⟩
 rw [e0] at hx0
 have HE0:=vH e0
 clear e0
 go_loopw [7] (fun iv wr => (iv = .int .i64 0 ∧ ∃ nn,wr = wq.drewN nn) ∨ (iv = .int .i64 1 ∧ x0 = false ∧ ∃ nn,wr = wq.drewN nn)) (fun iv _ => 1 - (intOf iv).toNat)
 case atStart => exact Or.inl ⟨rfl,0,rfl⟩
 case round =>
  rcases hrel with ⟨rfl,nn,rfl⟩ | ⟨rfl,rfl,nn,rfl⟩
  ·cases x0
   ·go_wp2_with fail
    go_quiet (fail)
    go_wp2_with fail
    go_roundw
    case rel => exact Or.inr (⟨rfl,by trivial,_,rfl⟩)
    case measure => simp [intOf]
   ·have hv:v = 24:=by rw [← HV.out]; first | (simp [Px.signsOf,HE0.out]; done) | simp [Px.signsOf,List.find?,HE0.out]
    go_wp2_with fail
    go_quiet (fail)
    go_wp2_with fail
    go_ret
    exact ⟨by rw [hv]; rfl,by first | exact zE HB.out _ | exact zE (zE HB.out _) _⟩
  ·have hv:v = 0:=by rw [← HV.out]; first | (simp [Px.signsOf,HE0.out]; done) | simp [Px.signsOf,List.find?,HE0.out]
   go_wp2_with fail
   go_ret
   exact ⟨by rw [hv]; rfl,by first | exact zE HB.out _ | exact zE (zE HB.out _) _⟩
theorem zLz (w:World)(t:RT)(ht:t.kind = 4) :
 Calls Tryd.prog 55 #[.int .i64 1,tokW t] w fun e w' => e = .returned (.int .i64 (Px.levelT 1 t)) ∧ Below w.heap.size w w':=by
 have hd:(t.kind == 4) = true:=by rw [ht]; rfl
 have hd2:(t.kind != 4) = false:=by rw [bne,hd]; rfl
 obtain ⟨v,hv⟩:∃ v,Px.levelT 1 t = v:=⟨_,rfl⟩
 rw [hv]
 rw [Px.levelT,if_pos ht] at hv
 have HV:=vH hv
 unfold tokW
 clear ht hv
 go_in
 go_wp2_with fail
 change Code.wp _ _ _ _ ?wx
 obtain ⟨wq,hwq⟩:∃ wq,wq = ?wx:=⟨_,rfl⟩
 rw [← hwq]
 have cS:wq.cell? ⟨w.heap.size + 1 + 1 + 1 + 1 + 1 + 1,1,none⟩ = some (.slice (some ⟨w.heap.size + 1 + 1,0,none⟩) 1 1):=by rw [hwq]; simp [go_sem]
 have cK:wq.cell? ⟨w.heap.size + 1 + 1 + 1 + 1 + 1 + 1 + 1 + 1 + 1 + 1 + 1 + 1,1,none⟩ = some (.slice (some ⟨w.heap.size + 1 + 1 + 1 + 1 + 1 + 1 + 1 + 1,0,none⟩) 1 1):=by rw [hwq]; simp [go_sem]
 have s0:wq.cell? ⟨w.heap.size + 1 + 1,0,none⟩ = some (.string ⟨#[38,38]⟩):=by rw [hwq]; simp [go_sem]
 have v0:wq.cell? ⟨w.heap.size + 1 + 1 + 1 + 1 + 1 + 1 + 1 + 1,0,none⟩ = some (.int .i64 23):=by rw [hwq]; simp [go_sem]
 have t1:wq.cell? ⟨w.heap.size,1,none⟩ = some (.string (cbs t.text)):=by rw [hwq]; simp [go_sem]
 have hb:Below w.heap.size w wq:=by
  rw [hwq]
  repeat (refine zBg ?_ _)
  exact Below.refl _ _
 clear hwq
 have HB:=vH hb
 clear hb
 have hx0:([38,38] == (cbs t.text).toList) = ([38,38] == t.text):=by rw [zR]
 obtain ⟨x0,e0⟩:∃ x,([38,38] == t.text) = x:=⟨_,rfl⟩
 rw [e0] at hx0
 have HE0:=vH e0
 clear e0
 go_loopw [7] (fun iv wr => (iv = .int .i64 0 ∧ ∃ nn,wr = wq.drewN nn) ∨ (iv = .int .i64 1 ∧ x0 = false ∧ ∃ nn,wr = wq.drewN nn)) (fun iv _ => 1 - (intOf iv).toNat)
 case atStart => exact Or.inl ⟨rfl,0,rfl⟩
 case round =>
  rcases hrel with ⟨rfl,nn,rfl⟩ | ⟨rfl,rfl,nn,rfl⟩
  ·cases x0
   ·go_wp2_with fail
    go_quiet (fail)
    go_wp2_with fail
    go_roundw
    case rel => exact Or.inr (⟨rfl,by trivial,_,rfl⟩)
    case measure => simp [intOf]
   ·have hv:v = 23:=by rw [← HV.out]; first | (simp [Px.signsOf,HE0.out]; done) | simp [Px.signsOf,List.find?,HE0.out]
    go_wp2_with fail
    go_quiet (fail)
    go_wp2_with fail
    go_ret
    exact ⟨by rw [hv]; rfl,by first | exact zE HB.out _ | exact zE (zE HB.out _) _⟩
  ·have hv:v = 0:=by rw [← HV.out]; first | (simp [Px.signsOf,HE0.out]; done) | simp [Px.signsOf,List.find?,HE0.out]
   go_wp2_with fail
   go_ret
   exact ⟨by rw [hv]; rfl,by first | exact zE HB.out _ | exact zE (zE HB.out _) _⟩
theorem zLy (w:World)(t:RT)(ht:t.kind = 4) :
 Calls Tryd.prog 55 #[.int .i64 2,tokW t] w fun e w' => e = .returned (.int .i64 (Px.levelT 2 t)) ∧ Below w.heap.size w w':=by
 have hd:(t.kind == 4) = true:=by rw [ht]; rfl
 have hd2:(t.kind != 4) = false:=by rw [bne,hd]; rfl
 obtain ⟨v,hv⟩:∃ v,Px.levelT 2 t = v:=⟨_,rfl⟩
 rw [hv]
 rw [Px.levelT,if_pos ht] at hv
 have HV:=vH hv
 unfold tokW
 clear ht hv
 go_in
 go_wp2_with fail
 change Code.wp _ _ _ _ ?wx
 obtain ⟨wq,hwq⟩:∃ wq,wq = ?wx:=⟨_,rfl⟩
 rw [← hwq]
 have cS:wq.cell? ⟨w.heap.size + 1 + 1 + 1 + 1 + 1 + 1,2,none⟩ = some (.slice (some ⟨w.heap.size + 1 + 1 + 1,0,none⟩) 4 4):=by rw [hwq]; simp [go_sem]
 have cK:wq.cell? ⟨w.heap.size + 1 + 1 + 1 + 1 + 1 + 1 + 1 + 1 + 1 + 1 + 1 + 1,2,none⟩ = some (.slice (some ⟨w.heap.size + 1 + 1 + 1 + 1 + 1 + 1 + 1 + 1 + 1,0,none⟩) 4 4):=by rw [hwq]; simp [go_sem]
 have s0:wq.cell? ⟨w.heap.size + 1 + 1 + 1,0,none⟩ = some (.string ⟨#[60]⟩):=by rw [hwq]; simp [go_sem]
 have v0:wq.cell? ⟨w.heap.size + 1 + 1 + 1 + 1 + 1 + 1 + 1 + 1 + 1,0,none⟩ = some (.int .i64 19):=by rw [hwq]; simp [go_sem]
 have s1:wq.cell? ⟨w.heap.size + 1 + 1 + 1,1,none⟩ = some (.string ⟨#[60,61]⟩):=by rw [hwq]; simp [go_sem]
 have v1:wq.cell? ⟨w.heap.size + 1 + 1 + 1 + 1 + 1 + 1 + 1 + 1 + 1,1,none⟩ = some (.int .i64 20):=by rw [hwq]; simp [go_sem]
 have s2:wq.cell? ⟨w.heap.size + 1 + 1 + 1,2,none⟩ = some (.string ⟨#[61,61]⟩):=by rw [hwq]; simp [go_sem]
 have v2:wq.cell? ⟨w.heap.size + 1 + 1 + 1 + 1 + 1 + 1 + 1 + 1 + 1,2,none⟩ = some (.int .i64 21):=by rw [hwq]; simp [go_sem]
 have s3:wq.cell? ⟨w.heap.size + 1 + 1 + 1,3,none⟩ = some (.string ⟨#[33,61]⟩):=by rw [hwq]; simp [go_sem]
 have v3:wq.cell? ⟨w.heap.size + 1 + 1 + 1 + 1 + 1 + 1 + 1 + 1 + 1,3,none⟩ = some (.int .i64 22):=by rw [hwq]; simp [go_sem]
 have t1:wq.cell? ⟨w.heap.size,1,none⟩ = some (.string (cbs t.text)):=by rw [hwq]; simp [go_sem]
 have hb:Below w.heap.size w wq:=by
  rw [hwq]
  repeat (refine zBg ?_ _)
  exact Below.refl _ _
 clear hwq
 have HB:=vH hb
 clear hb
 have hx0:([60] == (cbs t.text).toList) = ([60] == t.text):=by rw [zR]
 have hx1:([60,61] == (cbs t.text).toList) = ([60,61] == t.text):=by rw [zR]
 have hx2:([61,61] == (cbs t.text).toList) = ([61,61] == t.text):=by rw [zR]
 have hx3:([33,61] == (cbs t.text).toList) = ([33,61] == t.text):=by rw [zR]
 obtain ⟨x0,e0⟩:∃ x,([60] == t.text) = x:=⟨_,rfl⟩
 rw [e0] at hx0
 have HE0:=vH e0
 clear e0
 obtain ⟨x1,e1⟩:∃ x,([60,61] == t.text) = x:=⟨_,rfl⟩
 rw [e1] at hx1
 have HE1:=vH e1
 clear e1
 obtain ⟨x2,e2⟩:∃ x,([61,61] == t.text) = x:=⟨_,rfl⟩
 rw [e2] at hx2
 have HE2:=vH e2
 clear e2
 obtain ⟨x3,e3⟩:∃ x,([33,61] == t.text) = x:=⟨_,rfl⟩
 rw [e3] at hx3
 have HE3:=vH e3
 clear e3
 go_loopw [7] (fun iv wr => (iv = .int .i64 0 ∧ ∃ nn,wr = wq.drewN nn) ∨ (iv = .int .i64 1 ∧ x0 = false ∧ ∃ nn,wr = wq.drewN nn) ∨ (iv = .int .i64 2 ∧ x0 = false ∧ x1 = false ∧ ∃ nn,wr = wq.drewN nn) ∨ (iv = .int .i64 3 ∧ x0 = false ∧ x1 = false ∧ x2 = false ∧ ∃ nn,wr = wq.drewN nn) ∨ (iv = .int .i64 4 ∧ x0 = false ∧ x1 = false ∧ x2 = false ∧ x3 = false ∧ ∃ nn,wr = wq.drewN nn)) (fun iv _ => 4 - (intOf iv).toNat)
 case atStart => exact Or.inl ⟨rfl,0,rfl⟩
 case round =>
  rcases hrel with ⟨rfl,nn,rfl⟩ | ⟨rfl,rfl,nn,rfl⟩ | ⟨rfl,rfl,rfl,nn,rfl⟩ | ⟨rfl,rfl,rfl,rfl,nn,rfl⟩ | ⟨rfl,rfl,rfl,rfl,rfl,nn,rfl⟩
  ·cases x0
   ·go_wp2_with fail
    go_quiet (fail)
    go_wp2_with fail
    go_roundw
    case rel => exact Or.inr (Or.inl ⟨rfl,by trivial,_,rfl⟩)
    case measure => simp [intOf]
   ·have hv:v = 19:=by rw [← HV.out]; first | (simp [Px.signsOf,HE0.out]; done) | simp [Px.signsOf,List.find?,HE0.out]
    go_wp2_with fail
    go_quiet (fail)
    go_wp2_with fail
    go_ret
    exact ⟨by rw [hv]; rfl,by first | exact zE HB.out _ | exact zE (zE HB.out _) _⟩
  ·cases x1
   ·go_wp2_with fail
    go_quiet (fail)
    go_wp2_with fail
    go_roundw
    case rel => exact Or.inr (Or.inr (Or.inl ⟨rfl,by trivial,by trivial,_,rfl⟩))
    case measure => simp [intOf]
   ·have hv:v = 20:=by rw [← HV.out]; first | (simp [Px.signsOf,HE0.out,HE1.out]; done) | simp [Px.signsOf,List.find?,HE0.out,HE1.out]
    go_wp2_with fail
    go_quiet (fail)
    go_wp2_with fail
    go_ret
    exact ⟨by rw [hv]; rfl,by first | exact zE HB.out _ | exact zE (zE HB.out _) _⟩
  ·cases x2
   ·go_wp2_with fail
    go_quiet (fail)
    go_wp2_with fail
    go_roundw
    case rel => exact Or.inr (Or.inr (Or.inr (Or.inl ⟨rfl,by trivial,by trivial,by trivial,_,rfl⟩)))
    case measure => simp [intOf]
   ·have hv:v = 21:=by rw [← HV.out]; first | (simp [Px.signsOf,HE0.out,HE1.out,HE2.out]; done) | simp [Px.signsOf,List.find?,HE0.out,HE1.out,HE2.out]
    go_wp2_with fail
    go_quiet (fail)
    go_wp2_with fail
    go_ret
    exact ⟨by rw [hv]; rfl,by first | exact zE HB.out _ | exact zE (zE HB.out _) _⟩
  ·cases x3
   ·go_wp2_with fail
    go_quiet (fail)
    go_wp2_with fail
    go_roundw
    case rel => exact Or.inr (Or.inr (Or.inr (Or.inr (⟨rfl,by trivial,by trivial,by trivial,by trivial,_,rfl⟩))))
    case measure => simp [intOf]
   ·have hv:v = 22:=by rw [← HV.out]; first | (simp [Px.signsOf,HE0.out,HE1.out,HE2.out,HE3.out]; done) | simp [Px.signsOf,List.find?,HE0.out,HE1.out,HE2.out,HE3.out]
    go_wp2_with fail
    go_quiet (fail)
    go_wp2_with fail
    go_ret
    exact ⟨by rw [hv]; rfl,by first | exact zE HB.out _ | exact zE (zE HB.out _) _⟩
  ·have hv:v = 0:=by rw [← HV.out]; first | (simp [Px.signsOf,HE0.out,HE1.out,HE2.out,HE3.out]; done) | simp [Px.signsOf,List.find?,HE0.out,HE1.out,HE2.out,HE3.out]
   go_wp2_with fail
   go_ret
   exact ⟨by rw [hv]; rfl,by first | exact zE HB.out _ | exact zE (zE HB.out _) _⟩
theorem zLx (w:World)(t:RT)(ht:t.kind = 4) :
 Calls Tryd.prog 55 #[.int .i64 3,tokW t] w fun e w' => e = .returned (.int .i64 (Px.levelT 3 t)) ∧ Below w.heap.size w w':=by
 have hd:(t.kind == 4) = true:=by rw [ht]; rfl
 have hd2:(t.kind != 4) = false:=by rw [bne,hd]; rfl
 obtain ⟨v,hv⟩:∃ v,Px.levelT 3 t = v:=⟨_,rfl⟩
 rw [hv]
 rw [Px.levelT,if_pos ht] at hv
 have HV:=vH hv
 unfold tokW
 clear ht hv
 go_in
 go_wp2_with fail
 change Code.wp _ _ _ _ ?wx
 obtain ⟨wq,hwq⟩:∃ wq,wq = ?wx:=⟨_,rfl⟩
 rw [← hwq]
 have cS:wq.cell? ⟨w.heap.size + 1 + 1 + 1 + 1 + 1 + 1,3,none⟩ = some (.slice (some ⟨w.heap.size + 1 + 1 + 1 + 1,0,none⟩) 2 2):=by rw [hwq]; simp [go_sem]
 have cK:wq.cell? ⟨w.heap.size + 1 + 1 + 1 + 1 + 1 + 1 + 1 + 1 + 1 + 1 + 1 + 1,3,none⟩ = some (.slice (some ⟨w.heap.size + 1 + 1 + 1 + 1 + 1 + 1 + 1 + 1 + 1 + 1,0,none⟩) 2 2):=by rw [hwq]; simp [go_sem]
 have s0:wq.cell? ⟨w.heap.size + 1 + 1 + 1 + 1,0,none⟩ = some (.string ⟨#[43]⟩):=by rw [hwq]; simp [go_sem]
 have v0:wq.cell? ⟨w.heap.size + 1 + 1 + 1 + 1 + 1 + 1 + 1 + 1 + 1 + 1,0,none⟩ = some (.int .i64 14):=by rw [hwq]; simp [go_sem]
 have s1:wq.cell? ⟨w.heap.size + 1 + 1 + 1 + 1,1,none⟩ = some (.string ⟨#[45]⟩):=by rw [hwq]; simp [go_sem]
 have v1:wq.cell? ⟨w.heap.size + 1 + 1 + 1 + 1 + 1 + 1 + 1 + 1 + 1 + 1,1,none⟩ = some (.int .i64 15):=by rw [hwq]; simp [go_sem]
 have t1:wq.cell? ⟨w.heap.size,1,none⟩ = some (.string (cbs t.text)):=by rw [hwq]; simp [go_sem]
 have hb:Below w.heap.size w wq:=by
  rw [hwq]
  repeat (refine zBg ?_ _)
  exact Below.refl _ _
 clear hwq
 have HB:=vH hb
 clear hb
 have hx0:([43] == (cbs t.text).toList) = ([43] == t.text):=by rw [zR]
 have hx1:([45] == (cbs t.text).toList) = ([45] == t.text):=by rw [zR]
 obtain ⟨x0,e0⟩:∃ x,([43] == t.text) = x:=⟨_,rfl⟩
 rw [e0] at hx0
 have HE0:=vH e0
 clear e0
 obtain ⟨x1,e1⟩:∃ x,([45] == t.text) = x:=⟨_,rfl⟩
 rw [e1] at hx1
 have HE1:=vH e1
 clear e1
 go_loopw [7] (fun iv wr => (iv = .int .i64 0 ∧ ∃ nn,wr = wq.drewN nn) ∨ (iv = .int .i64 1 ∧ x0 = false ∧ ∃ nn,wr = wq.drewN nn) ∨ (iv = .int .i64 2 ∧ x0 = false ∧ x1 = false ∧ ∃ nn,wr = wq.drewN nn)) (fun iv _ => 2 - (intOf iv).toNat)
 case atStart => exact Or.inl ⟨rfl,0,rfl⟩
 case round =>
  rcases hrel with ⟨rfl,nn,rfl⟩ | ⟨rfl,rfl,nn,rfl⟩ | ⟨rfl,rfl,rfl,nn,rfl⟩
  ·cases x0
   ·go_wp2_with fail
    go_quiet (fail)
    go_wp2_with fail
    go_roundw
    case rel => exact Or.inr (Or.inl ⟨rfl,by trivial,_,rfl⟩)
    case measure => simp [intOf]
   ·have hv:v = 14:=by rw [← HV.out]; first | (simp [Px.signsOf,HE0.out]; done) | simp [Px.signsOf,List.find?,HE0.out]
    go_wp2_with fail
    go_quiet (fail)
    go_wp2_with fail
    go_ret
    exact ⟨by rw [hv]; rfl,by first | exact zE HB.out _ | exact zE (zE HB.out _) _⟩
  ·cases x1
   ·go_wp2_with fail
    go_quiet (fail)
    go_wp2_with fail
    go_roundw
    case rel => exact Or.inr (Or.inr (⟨rfl,by trivial,by trivial,_,rfl⟩))
    case measure => simp [intOf]
   ·have hv:v = 15:=by rw [← HV.out]; first | (simp [Px.signsOf,HE0.out,HE1.out]; done) | simp [Px.signsOf,List.find?,HE0.out,HE1.out]
    go_wp2_with fail
    go_quiet (fail)
    go_wp2_with fail
    go_ret
    exact ⟨by rw [hv]; rfl,by first | exact zE HB.out _ | exact zE (zE HB.out _) _⟩
  ·have hv:v = 0:=by rw [← HV.out]; first | (simp [Px.signsOf,HE0.out,HE1.out]; done) | simp [Px.signsOf,List.find?,HE0.out,HE1.out]
   go_wp2_with fail
   go_ret
   exact ⟨by rw [hv]; rfl,by first | exact zE HB.out _ | exact zE (zE HB.out _) _⟩
theorem zLw (w:World)(t:RT)(ht:t.kind = 4) :
 Calls Tryd.prog 55 #[.int .i64 4,tokW t] w fun e w' => e = .returned (.int .i64 (Px.levelT 4 t)) ∧ Below w.heap.size w w':=by
 have hd:(t.kind == 4) = true:=by rw [ht]; rfl
 have hd2:(t.kind != 4) = false:=by rw [bne,hd]; rfl
 obtain ⟨v,hv⟩:∃ v,Px.levelT 4 t = v:=⟨_,rfl⟩
 rw [hv]
 rw [Px.levelT,if_pos ht] at hv
 have HV:=vH hv
 unfold tokW
 clear ht hv
 go_in
 go_wp2_with fail
 change Code.wp _ _ _ _ ?wx
 obtain ⟨wq,hwq⟩:∃ wq,wq = ?wx:=⟨_,rfl⟩
 rw [← hwq]
 have cS:wq.cell? ⟨w.heap.size + 1 + 1 + 1 + 1 + 1 + 1,4,none⟩ = some (.slice (some ⟨w.heap.size + 1 + 1 + 1 + 1 + 1,0,none⟩) 3 3):=by rw [hwq]; simp [go_sem]
 have cK:wq.cell? ⟨w.heap.size + 1 + 1 + 1 + 1 + 1 + 1 + 1 + 1 + 1 + 1 + 1 + 1,4,none⟩ = some (.slice (some ⟨w.heap.size + 1 + 1 + 1 + 1 + 1 + 1 + 1 + 1 + 1 + 1 + 1,0,none⟩) 3 3):=by rw [hwq]; simp [go_sem]
 have s0:wq.cell? ⟨w.heap.size + 1 + 1 + 1 + 1 + 1,0,none⟩ = some (.string ⟨#[42]⟩):=by rw [hwq]; simp [go_sem]
 have v0:wq.cell? ⟨w.heap.size + 1 + 1 + 1 + 1 + 1 + 1 + 1 + 1 + 1 + 1 + 1,0,none⟩ = some (.int .i64 16):=by rw [hwq]; simp [go_sem]
 have s1:wq.cell? ⟨w.heap.size + 1 + 1 + 1 + 1 + 1,1,none⟩ = some (.string ⟨#[47]⟩):=by rw [hwq]; simp [go_sem]
 have v1:wq.cell? ⟨w.heap.size + 1 + 1 + 1 + 1 + 1 + 1 + 1 + 1 + 1 + 1 + 1,1,none⟩ = some (.int .i64 17):=by rw [hwq]; simp [go_sem]
 have s2:wq.cell? ⟨w.heap.size + 1 + 1 + 1 + 1 + 1,2,none⟩ = some (.string ⟨#[37]⟩):=by rw [hwq]; simp [go_sem]
 have v2:wq.cell? ⟨w.heap.size + 1 + 1 + 1 + 1 + 1 + 1 + 1 + 1 + 1 + 1 + 1,2,none⟩ = some (.int .i64 18):=by rw [hwq]; simp [go_sem]
 have t1:wq.cell? ⟨w.heap.size,1,none⟩ = some (.string (cbs t.text)):=by rw [hwq]; simp [go_sem]
 have hb:Below w.heap.size w wq:=by
  rw [hwq]
  repeat (refine zBg ?_ _)
  exact Below.refl _ _
 clear hwq
 have HB:=vH hb
 clear hb
 have hx0:([42] == (cbs t.text).toList) = ([42] == t.text):=by rw [zR]
 have hx1:([47] == (cbs t.text).toList) = ([47] == t.text):=by rw [zR]
 have hx2:([37] == (cbs t.text).toList) = ([37] == t.text):=by rw [zR]
 obtain ⟨x0,e0⟩:∃ x,([42] == t.text) = x:=⟨_,rfl⟩
 rw [e0] at hx0
 have HE0:=vH e0
 clear e0
 obtain ⟨x1,e1⟩:∃ x,([47] == t.text) = x:=⟨_,rfl⟩
 rw [e1] at hx1
 have HE1:=vH e1
 clear e1
 obtain ⟨x2,e2⟩:∃ x,([37] == t.text) = x:=⟨_,rfl⟩
 rw [e2] at hx2
 have HE2:=vH e2
 clear e2
 go_loopw [7] (fun iv wr => (iv = .int .i64 0 ∧ ∃ nn,wr = wq.drewN nn) ∨ (iv = .int .i64 1 ∧ x0 = false ∧ ∃ nn,wr = wq.drewN nn) ∨ (iv = .int .i64 2 ∧ x0 = false ∧ x1 = false ∧ ∃ nn,wr = wq.drewN nn) ∨ (iv = .int .i64 3 ∧ x0 = false ∧ x1 = false ∧ x2 = false ∧ ∃ nn,wr = wq.drewN nn)) (fun iv _ => 3 - (intOf iv).toNat)
 case atStart => exact Or.inl ⟨rfl,0,rfl⟩
 case round =>
  rcases hrel with ⟨rfl,nn,rfl⟩ | ⟨rfl,rfl,nn,rfl⟩ | ⟨rfl,rfl,rfl,nn,rfl⟩ | ⟨rfl,rfl,rfl,rfl,nn,rfl⟩
  ·cases x0
   ·go_wp2_with fail
    go_quiet (fail)
    go_wp2_with fail
    go_roundw
    case rel => exact Or.inr (Or.inl ⟨rfl,by trivial,_,rfl⟩)
    case measure => simp [intOf]
   ·have hv:v = 16:=by rw [← HV.out]; first | (simp [Px.signsOf,HE0.out]; done) | simp [Px.signsOf,List.find?,HE0.out]
    go_wp2_with fail
    go_quiet (fail)
    go_wp2_with fail
    go_ret
    exact ⟨by rw [hv]; rfl,by first | exact zE HB.out _ | exact zE (zE HB.out _) _⟩
  ·cases x1
   ·go_wp2_with fail
    go_quiet (fail)
    go_wp2_with fail
    go_roundw
    case rel => exact Or.inr (Or.inr (Or.inl ⟨rfl,by trivial,by trivial,_,rfl⟩))
    case measure => simp [intOf]
   ·have hv:v = 17:=by rw [← HV.out]; first | (simp [Px.signsOf,HE0.out,HE1.out]; done) | simp [Px.signsOf,List.find?,HE0.out,HE1.out]
    go_wp2_with fail
    go_quiet (fail)
    go_wp2_with fail
    go_ret
    exact ⟨by rw [hv]; rfl,by first | exact zE HB.out _ | exact zE (zE HB.out _) _⟩
  ·cases x2
   ·go_wp2_with fail
    go_quiet (fail)
    go_wp2_with fail
    go_roundw
    case rel => exact Or.inr (Or.inr (Or.inr (⟨rfl,by trivial,by trivial,by trivial,_,rfl⟩)))
    case measure => simp [intOf]
   ·have hv:v = 18:=by rw [← HV.out]; first | (simp [Px.signsOf,HE0.out,HE1.out,HE2.out]; done) | simp [Px.signsOf,List.find?,HE0.out,HE1.out,HE2.out]
    go_wp2_with fail
    go_quiet (fail)
    go_wp2_with fail
    go_ret
    exact ⟨by rw [hv]; rfl,by first | exact zE HB.out _ | exact zE (zE HB.out _) _⟩
  ·have hv:v = 0:=by rw [← HV.out]; first | (simp [Px.signsOf,HE0.out,HE1.out,HE2.out]; done) | simp [Px.signsOf,List.find?,HE0.out,HE1.out,HE2.out]
   go_wp2_with fail
   go_ret
   exact ⟨by rw [hv]; rfl,by first | exact zE HB.out _ | exact zE (zE HB.out _) _⟩
theorem zIv (w:World)(n:Nat)(hn:n < 5)(t:RT) :
 Calls Tryd.prog 55 #[.int .i64 n,tokW t] w fun e w' => e = .returned (.int .i64 (Px.levelT n t)) ∧ Below w.heap.size w w':=by
 by_cases ht:t.kind = 4
 ·match n,hn with
  | 0,_ => exact zLA w t ht
  | 1,_ => exact zLz w t ht
  | 2,_ => exact zLy w t ht
  | 3,_ => exact zLx w t ht
  | 4,_ => exact zLw w t ht
 ·exact zGz w n t ht
end Go.Proofs.YteadgahhchlgeaaDoor
