/- What the functions of package wide hand  -/
import Derived.Test.YtkfpainpomobfaaGreatDoorR05
import Derived.Test.YtkfpainpomobfaaGreatDoorR06
set_option linter.unusedVariables false
set_option linter.unusedSimpArgs false
set_option maxHeartbeats 16000000
set_option maxRecDepth 16000
namespace Go.Proofs.YtkfpainpomobfaaGreatDoor.Wd
open Go.RowKit Fx List World Nat
attribute [local go_sem] i_f i_g
end Go.Proofs.YtkfpainpomobfaaGreatDoor.Wd
namespace Go.Proofs.YtkfpainpomobfaaGreatDoor.Wd
open Go.RowKit Fx List World Nat
attribute [local go_sem] i_f i_g
theorem below_drewN {B:Nat} {a w:World} (h:Below B a w) (n:Nat):Below B a (w.drewN n):=⟨h.os,h.tape,h.output,h.size,h.block⟩
end Go.Proofs.YtkfpainpomobfaaGreatDoor.Wd
namespace Go.Proofs.YtkfpainpomobfaaGreatDoor.Wd
open Go.RowKit Fx List World Nat
def s_q (d x:List Int):Int:=if isP d x then 0 else 1
def t_n (d x:List Int):Int:=if isP d x then hold (c_M x) else 0
def o_4 (d x:List Int):Int:=if isP d x then s_l x else 0
theorem isP.len {d x:List Int} (h:isP d x):1<=x.length/\x.length<=4096:=by
 have:=h.1.2.2;have:=h.1.pos;have:=h.2;omega
theorem o_5 {x:List Int} (A:RI x) (h:x.length<=4096):InW (c_M x):=by
 have:=m_x A;unfold InW;omega
theorem m_I (x:List Int) (a m:Nat) (h:a+m<=x.length):(x.drop a).take m=(range m).map fun j=>x.getD (a+j) 0:=by
 refine ext_getElem (by simp;omega) fun i A E=>?_;simp at A E;simp only [getElem_take,getElem_drop,getElem_map,getElem_range];rw [a_t x (a+i) 0 (by omega)]
theorem o_6 {W:World} {J:Option Addr} {R H:Nat} {x:List Int} (E A i:Nat) (L:x.length=E*A) (Z:i < E) (I:R<=H) (O:Nums .i64 W (.slice J R H) x):Nums .i64 W (sliced J (i*A) ((i+1)*A) H 1) ((range A).map fun j=>x.getD (i*A+j) 0):=by
 obtain ⟨_,_,_,V,M⟩:=O.lst;cases V;have k1:(i+1)*A<=E*A:=mul_le_mul_right _ Z;have k2:i*A+A=(i+1)*A:=by rw [Nat.add_mul,Nat.one_mul]
 have h:=d_Y (k:=.i64) (W:=W) (p:=J) (i:=i*A) (j:=(i+1)*A) (by omega) (by rw [<- M.1,L];exact k1) M.1 I O;rw [show (i+1)*A - i*A=A by omega,m_I x (i*A) A (by rw [L];omega)] at h;exact h
theorem s_r (H:Option Addr) (i A E:Nat):∃ q,sliced H (i*A) ((i+1)*A) E 1 = .slice q A (E - i*A):=by
 obtain ⟨q,h⟩:=b_H H (i*A) ((i+1)*A) E;rw [show (i+1)*A - i*A=A by rw [Nat.add_mul,Nat.one_mul];omega] at h;exact ⟨q,h⟩
end Go.Proofs.YtkfpainpomobfaaGreatDoor.Wd
namespace Go.Proofs.YtkfpainpomobfaaGreatDoor.Wd
open Go.RowKit List World Nat
theorem k_f {k:IntKind} {e:TypeId} {w3 W4:World} {n:Nat} (E:n<=1073741824) (h:((w3.alloc (.cells (a_N k (replicate n 0)).toArray e)).alloc (.cells (a_N k (replicate n 0)).toArray e)).drew=W4):
  Bw w3 W4/\OwnK k e W4 w3.heap.size (.slice (some ⟨w3.heap.size,0,none⟩) n n) (replicate n 0)/\OwnK k e W4 w3.heap.size (.slice (some ⟨w3.heap.size+1,0,none⟩) n n) (replicate n 0):=by
 have J:=a_a w3 (.cells (a_N k (replicate n 0)).toArray e);have H:=a_a (w3.alloc (.cells (a_N k (replicate n 0)).toArray e)) (.cells (a_N k (replicate n 0)).toArray e)
 have A:Below ((w3.alloc (.cells (a_N k (replicate n 0)).toArray e)).alloc (.cells (a_N k (replicate n 0)).toArray e)).heap.size ((w3.alloc (.cells (a_N k (replicate n 0)).toArray e)).alloc (.cells (a_N k (replicate n 0)).toArray e)) W4:=by
  rw [<- h];exact ⟨rfl,rfl,rfl,Nat.le_refl _,fun _ _=>rfl⟩
 have M:=b_b (k:=k) (e:=e) w3 (replicate n 0) n (by simp) E;have L:=b_b (k:=k) (e:=e) (w3.alloc (.cells (a_N k (replicate n 0)).toArray e)) (replicate n 0) n (by simp) E;have I:(w3.alloc (.cells (a_N k (replicate n 0)).toArray e)).heap.size=w3.heap.size+1:=Array.size_push _;refine ⟨a_c (a_c J H) A,(M.up H).up A,?_⟩;have:=(L.up A).low (show w3.heap.size<=_ by rw [I];omega);rw [I] at this;exact this
end Go.Proofs.YtkfpainpomobfaaGreatDoor.Wd
