/- What Sum tells, and where its row lies,  -/
import Derived.Test.YtcpbhhlepdgdkaaGreatDoorT30
import Derived.ArgAppend
import Derived.Test.YtcpbhhlepdgdkaaGreatDoorRows
import Derived.Lib.LaidTab
set_option linter.unusedVariables false
set_option linter.unusedSimpArgs false
set_option maxHeartbeats 16000000
set_option maxRecDepth 16000
namespace Go.Proofs.YtcpbhhlepdgdkaaGreatDoor.Wd
open Go.RowKit Fx
def TupF (A1 A2 E:Int) (S:List Int) (v:Value) (W:World):Prop:=∃ p n c,v = .tuple #[.slice p n c,.agg #[.int .i64 A1,.int .u64 A2],.int .i64 E]/\WdR W p n S/\∀ ad,p=some ad->ad.block < W.heap.size
def SlF (S:List Int) (v:Value) (W:World):Prop:=∃ p n c,v = .slice p n c/\WdR W p n S/\∀ ad,p=some ad->ad.block < W.heap.size
/-- The same, just made: behind the block B. -/
def u_b (A1 A2 E:Int) (S:List Int) (B:Nat) (v:Value) (W:World):Prop:=∃ p n c,v = .tuple #[.slice p n c,.agg #[.int .i64 A1,.int .u64 A2],.int .i64 E]/\WdR W p n S/\∀ ad,p=some ad->B<=ad.block/\ad.block < W.heap.size
theorem TupF.up {D I E:Int} {S:List Int} {v:Value} {W W':World} (h:TupF D I E S v W) (H:Below W.heap.size W W'):TupF D I E S v W':=by
 obtain ⟨p,n,c,e,r,l⟩:=h;exact ⟨p,n,c,e,r.up H,fun J L=>Nat.lt_of_lt_of_le (l J L) H.size⟩
theorem SlF.up {S:List Int} {v:Value} {W W':World} (h:SlF S v W) (D:Below W.heap.size W W'):SlF S v W':=by
 obtain ⟨p,n,c,e,r,l⟩:=h;exact ⟨p,n,c,e,r.up D,fun E H=>Nat.lt_of_lt_of_le (l E H) D.size⟩
theorem n_v {p:Option Addr} {n c:Nat} {x y:Value} {b:Nat} (h:n_D (.tuple #[.slice p n c,x,y])=some b):∃ D,p=some D/\D.block=b:=by
 cases p with
 | none=>cases h
 | some D=>exact ⟨D,rfl,Option.some.inj h⟩
theorem p_O {p:Option Addr} {n c:Nat} {b:Nat} (h:n_D (.slice p n c)=some b):∃ D,p=some D/\D.block=b:=by
 cases p with
 | none=>cases h
 | some D=>exact ⟨D,rfl,Option.some.inj h⟩
theorem p_d {p:Option Addr} {n c:Nat} {x y:Value} {b:Nat} (h:n_D (.slice p n c)=some b):n_D (.tuple #[.slice p n c,x,y])=some b:=by
 obtain ⟨D,rfl,e⟩:=p_O h;subst e;rfl
theorem TupF.lt {I L E:Int} {S:List Int} {v:Value} {W:World} {b:Nat} (h:TupF I L E S v W) (hb:n_D v=some b):b < W.heap.size:=by
 obtain ⟨p,n,c,e,_,l⟩:=h;subst e;obtain ⟨H,D,J⟩:=n_v hb;exact J ▸ l H D
theorem SlF.lt {S:List Int} {v:Value} {W:World} {b:Nat} (h:SlF S v W) (hb:n_D v=some b):b < W.heap.size:=by
 obtain ⟨p,n,c,e,_,l⟩:=h;subst e;obtain ⟨E,D,H⟩:=p_O hb;exact H ▸ l E D
theorem NewW.lt {B:Nat} {v:Value} {W:World} {b:Nat} (h:NewW B v W) (hb:n_D v=some b):b < W.heap.size:=by
 obtain ⟨g,e,a,_⟩:=h;subst e;obtain rfl:g=b:=Option.some.inj hb;exact a_i a
/-- The row stays what it was where the box beside it is written. -/
theorem WdR.stay {W W':World} {p:Option Addr} {n g:Nat} {l:List Int} (h:WdR W p n l) (E:Stay g W W') (J:∀ D,p=some D->D.block≠g):WdR W' p n l:=⟨h.1,h.2.1,fun i I=>by
 obtain ⟨q,o,e,a,b⟩:=h.2.2 i I;have H:q≠g:=J _ e;exact ⟨q,o,e,E.cell a H,E.cell b H⟩⟩
/-- What came in, cell by cell. -/
theorem n_w {W:World} {p:Option Addr} {n:Nat} {l:List Exm} (h:ExR W p n l):∃ M:List Value,M.length=n*3/\(∀ u∈M,u.oneCell'=true)/\(∀ i,i < n->ExC W M i (exA l i))/\(0 < n->∃ ad,p=some ad/\∀ j u,M[j]?=some u->W.cell? (ad.add j)=some u):=by
 rcases Nat.eq_zero_or_pos n with rfl|hn
 ·exact ⟨[],by simp,by simp,fun i J=>by omega,fun h=>by omega⟩
 obtain ⟨q,o,rfl,_⟩:=h.2 0 hn
 have H:∀ i,i < n->ExAt W q (o+i*3) (exA l i):=fun i J=>by
  obtain ⟨q',o',e,a⟩:=h.2 i J;cases e;exact a
 have I:∀ j,j < n*3->∃ u,W.cell? ⟨q,o+j,none⟩=some u/\u.oneCell'=true:=fun j E=>by
  obtain ⟨U,n1,c1,p2,V,R,a,b,d,_⟩:=H (j / 3) (by omega);rcases (show j=j / 3*3∨j=j / 3*3+1∨j=j / 3*3+2 by omega) with e|e|e
  ·exact ⟨_,by rw [e];exact a,rfl⟩
  ·exact ⟨_,by rw [e,<- Nat.add_assoc];exact b,rfl⟩
  ·exact ⟨_,by rw [e,<- Nat.add_assoc];exact d,rfl⟩
 have D:∀ j,j < n*3->∀ u,W.cell? ⟨q,o+j,none⟩=some u->((List.range (n*3)).map fun j=>(W.cell? ⟨q,o+j,none⟩).getD undef)[j]?=some u:=fun j E u O=>by
  rw [List.getElem?_map,List.getElem?_range E,Option.map_some,O];rfl
 refine ⟨(List.range (n*3)).map fun j=>(W.cell? ⟨q,o+j,none⟩).getD undef,by simp,fun u O=>?_,fun i J=>?_,fun _=>⟨_,rfl,fun j u E=>?_⟩⟩
 ·obtain ⟨j,E,rfl⟩:=List.mem_map.1 O;obtain ⟨v,L,h1⟩:=I j (List.mem_range.1 E);rw [L];exact h1
 ·obtain ⟨U,n1,c1,p2,V,R,a,b,d,r⟩:=H i J;exact ⟨U,n1,c1,p2,V,R,D _ (by omega) _ a,D _ (by omega) _ (by rw [<- Nat.add_assoc];exact b),D _ (by omega) _ (by rw [<- Nat.add_assoc];exact d),r⟩
 ·have hl:j < n*3:=by have:=(List.getElem?_eq_some_iff.1 E).1;simpa using this
  obtain ⟨v,L,_⟩:=I j hl;rw [D j hl v L] at E;cases E;rw [a_t];exact L
/-- One's own row of n elements, of whatever cells, which is no nil. -/
def RowE (e:TypeId) (s B n:Nat) (xs:List Value) (v:Value) (W:World):Prop:=W.ownsRow B e s v n xs/\∃ g c,v = .slice (some ⟨g,0,none⟩) n c
theorem RowE.up {e:TypeId} {s B n:Nat} {D:List Value} {v:Value} {W W':World} (h:RowE e s B n D v W) (E:Below W.heap.size W W'):RowE e s B n D v W':=⟨a_C (S:=[]) h.1 (Only.of E) (by simp),h.2⟩
/-- An empty literal. -/
def LitE (e:TypeId) (B:Nat) (v:Value) (W:World):Prop:=∃ g,v = .slice (some ⟨g,0,none⟩) 0 0/\W.heap[g]?=some (.cells #[] e (0,0))/\B<=g
theorem LitE.up {e:TypeId} {B:Nat} {v:Value} {W W':World} (h:LitE e B v W) (D:Below W.heap.size W W'):LitE e B v W':=by
 obtain ⟨g,a,b,c⟩:=h;exact ⟨g,a,(D.block _ (a_i b)).trans b,c⟩
/-- One block of elements may have changed, not its first S cells. -/
def Te (e:TypeId) (S B:Nat) (W W':World):Prop:=∃ r,W.grownBy W' r/\∀ g,r=some g->B<=g/\∃ cs cs',W.heap[g]?=some (.cells cs e (0,0))/\W'.heap[g]?=some (.cells cs' e (0,0))/\cs'.size=cs.size/\cs'.toList.take S=cs.toList.take S
theorem Te.none {e:TypeId} {S B:Nat} {W W':World} (h:W.grownBy W' none):Te e S B W W':=⟨_,h,fun g D=>by cases D⟩
theorem Te.heap {e:TypeId} {S B:Nat} {W W':World} (h:Te e S B W W') {g:Nat} {o:Obj} (D:W.heap[g]?=some o) (H:∀ E,o≠.cells E e (0,0)):W'.heap[g]?=some o:=by
 obtain ⟨r,L,J⟩:=h
 have:r≠some g:=fun c=>by
  obtain ⟨_,E,_,I,_⟩:=J g c;rw [D] at I;exact H E (Option.some.inj I)
 rw [L.block g (a_i D) fun c=>this c.symm];exact D
theorem LitE.te {e:TypeId} {B R S:Nat} {v:Value} {W W':World} (h:LitE e B v W) (I:Te e S R W W'):LitE e B v W':=by
 obtain ⟨g,a,b,c⟩:=h;refine ⟨g,a,?_,c⟩;obtain ⟨r,M,L⟩:=I;by_cases q:r=some g
 ·obtain ⟨_,U,D,E,J,O,_⟩:=L g q;rw [b] at E;cases E;have H:D=#[]:=Array.eq_empty_of_size_eq_zero (by rw [O];rfl);rw [J,H]
 ·rw [M.block g (a_i b) fun x=>q x.symm];exact b
theorem RowE.te {e:TypeId} {s B B' n S:Nat} {xs:List Value} {v:Value} {W W':World} (h:RowE e s B n xs v W) (M:S=n*s) (hT:Te e S B' W W'):RowE e s B n xs v W':=by
 obtain ⟨⟨h0,D⟩,hv⟩:=h;refine ⟨⟨h0,?_⟩,hv⟩;rcases D with D|⟨g,E,H,D,R,J,L,O,V,U⟩
 ·exact .inl D
 obtain ⟨r,hr,hx⟩:=hT;by_cases q:r=some g
 ·obtain ⟨_,cs,I,c1,c2,c3,c4⟩:=hx g q;rw [J] at c1;cases c1;exact .inr ⟨g,E,I,D,R,c2,L,O,by rw [c3];exact V,by rw [<- M,c4,M];exact U⟩
 ·exact .inr ⟨g,E,H,D,R,by rw [hr.block g (a_i J) fun x=>q x.symm];exact J,L,O,V,U⟩
theorem Te.below {e:TypeId} {S:Nat} {D W W':World} (E:Below D.heap.size D W) (h:Te e S D.heap.size W W'):Below D.heap.size D W':=by
 obtain ⟨r,I,H⟩:=h;exact Below.grown E I E.size fun k J=>(H k J).1
theorem k_s {W:World} {B H n s:Nat} {e:TypeId} {v:Value} {I:List Value} (h:W.ownsRow B e s v n I) (L:H<=B):W.ownsRow H e s v n I:=by
 refine ⟨h.1,?_⟩;rcases h.2 with h|⟨g,D,E,O,J,M⟩
 ·exact .inl h
 ·exact .inr ⟨g,D,E,O,Nat.le_trans L J,M⟩
theorem l_c (W:World):W.grownBy W none:=⟨rfl,rfl,rfl,Nat.le_refl _,fun _ _ _=>rfl⟩
section
variable {P : Program} {t e : TypeId} {s b : Nat}
theorem GT.info (T:GT P t e s b):∃ i z,P.info? e=some i/\i.zero=some z/\i.size=s/\i.bytes=b/\z.cells.size=s:=by
 have H:=T.hi;cases L:P.info? e with
 | none=>rw [L] at H;cases H
 | some i=>
  rw [L] at H;simp only [Option.map_some,Option.some.injEq,Prod.mk.injEq] at H;obtain ⟨E,J,I⟩:=H;cases D:i.zero with
  | none=>rw [D] at E;cases E
  | some z=>
   rw [D] at E;simp only [Option.map_some,Option.some.injEq] at E;exact ⟨i,z,rfl,D,J,I,E⟩
/-- append of nothing. -/
theorem p_P (T:GT P t e s b) (I:TypeId) (W:World) (g n c:Nat) (p:Option Addr) (H:Nat) (D:n<=c):(Builtin.append_ #[t,t] I #[.slice (some ⟨g,0,none⟩) n c,.slice p 0 H]).run P W = .ok (.slice (some ⟨g,0,none⟩) n c) W:=by
 obtain ⟨i,z,E,_⟩:=T.info;cases p with
 | none=>
  simp [Builtin.append_,run_underlying T.ht,sizeOf,typeInfo,E,Builtin.lenOf,Builtin.firstCells,D,storeCells]
 | some ad=>
  have hf:=run_firstCells_some (P:=P) W i.size 0 ad 0 H [] (by simp) (fun j u J=>by simp at J);simp [Builtin.append_,run_underlying T.ht,sizeOf,typeInfo,E,Builtin.lenOf,hf,D,storeCells]
/-- append([]T{}, l...). -/
theorem t_F (T:GT P t e s b) (hb:b<=256) (hs:0 < s) (ty:TypeId) (W:World) (B:Nat) (u:Value) (h0:LitE e B u W) (hB:B<=W.heap.size) (p:Option Addr) (n c:Nat) (H:List Value) (M:H.length=n*s) (hc:0 < n->∃ I,p=some I/\∀ j y,H[j]?=some y->W.cell? (I.add j)=some y) (hn:n<=1073741824):
  ∃ J D,(Builtin.append_ #[t,t] ty #[u,.slice p n c]).run P W = .ok J D/\RowE e s B n H J D/\Below W.heap.size W D:=by
 obtain ⟨i,z,hi,hz,ab,R,U⟩:=T.info;obtain ⟨g,rfl,hg,L⟩:=h0;rcases Nat.eq_zero_or_pos n with rfl|E
 ·refine ⟨_,W,p_P T ty W g 0 0 p c (Nat.le_refl _),⟨⟨M,.inr ⟨g,0,#[],rfl,L,hg,Nat.le_refl _,Nat.zero_le _,by simp,?_⟩⟩,g,0,rfl⟩,Below.refl _ _⟩;have:H = []:=List.eq_nil_of_length_eq_zero (by simpa using M);simp [this]
 ·obtain ⟨I,rfl,O⟩:=hc E;have hm:(0+n)*b<=1073741824*256:=Nat.mul_le_mul (by omega) hb;obtain ⟨J,D,hr,ho,aa⟩:=run_append_arg_grows (P:=P) (w:=W) t ty e i z s b T.ht hi hz ab R U hs ⟨g,0,none⟩ 0 0 [] (by simp) (fun j u hu=>by simp at hu) I n c H M O (by omega) (by unfold maxLen;omega) (by omega);rw [Nat.zero_add,List.nil_append] at ho;refine ⟨J,D,hr,⟨k_s ho hB,?_⟩,Below.grown (Below.refl _ _) aa (Nat.le_refl _) (fun j hj=>by cases hj)⟩;rcases ho.2 with ⟨_,h⟩|⟨g',V,_,rfl,_⟩
  ·omega
  ·exact ⟨g',V,rfl⟩
/-- append(u, l...), behind as many. -/
theorem t_G (T:GT P t e s b) (hb:b<=256) (hs:0 < s) (ty:TypeId) (W:World) (B:Nat) (u:Value) (n:Nat) (H:List Value) (hu:RowE e s B n H u W) (hB:B<=W.heap.size) (p:Option Addr) (c:Nat) (h1:∀ y∈H,y.oneCell'=true) (hc:0 < n->∃ U,p=some U/\∀ j y,H[j]?=some y->W.cell? (U.add j)=some y) (hn:n<=1073741):
  ∃ v' I,(Builtin.append_ #[t,t] ty #[u,.slice p n c]).run P W = .ok v' I/\RowE e s B (n+n) (H++H) v' I/\Te e (n*s) B W I:=by
 obtain ⟨i,z,hi,hz,ac,ae,af⟩:=T.info;obtain ⟨D,g,E,rfl⟩:=hu;have M:=D.1;rcases Nat.eq_zero_or_pos n with rfl|R
 ·have:H = []:=List.eq_nil_of_length_eq_zero (by simpa using M);subst this;exact ⟨_,W,p_P T ty W g 0 E p c (Nat.zero_le _),⟨D,g,E,rfl⟩,Te.none (l_c W)⟩
 obtain ⟨U,rfl,O⟩:=hc R;have hm:(n+n)*b<=1073741824*256:=Nat.mul_le_mul (by omega) hb;by_cases J:n+n<=E
 ·obtain ⟨I,hr,V,hg⟩:=run_append_fits (P:=P) (w:=W) B t ty e i s T.ht hi ac g n E H D U n c H M O h1 J;refine ⟨_,I,hr,⟨V,g,E,rfl⟩,some g,hg,fun q hq=>?_⟩;cases hq;rcases D.2 with ⟨h,_⟩|⟨g1,ah,L,k1,k2,k3,k4,k5,k6,k7⟩
  ·cases h
  rcases V.2 with ⟨h,_⟩|⟨g2,ai,aa,j1,j2,j3,j4,j5,j6,j7⟩
  ·cases h
  cases k1;cases j1;refine ⟨k2,L,aa,k3,j3,by rw [j6,k6],?_⟩;have e4:=congrArg (List.take (n*s)) j7;rw [List.take_take,Nat.min_eq_left (Nat.mul_le_mul_right _ (by omega))] at e4;rw [e4,k7];exact List.take_left' M
 ·obtain ⟨v',I,hr,V,ag⟩:=run_append_arg_grows (P:=P) (w:=W) t ty e i z s b T.ht hi hz ac ae af hs ⟨g,0,none⟩ n E H M (World.ownsRow.cells D rfl) U n c H M O (by omega) (by unfold maxLen;omega) (by omega);refine ⟨v',I,hr,⟨k_s V hB,?_⟩,Te.none ag⟩;rcases V.2 with ⟨_,h⟩|⟨g',ab,_,rfl,_⟩
  ·omega
  ·exact ⟨g',ab,rfl⟩
end
theorem NewW.te {e:TypeId} {S B E:Nat} {v:Value} {W W':World} (he:e≠38) (h:NewW B v W) (D:Te e S E W W'):NewW B v W':=by
 obtain ⟨g,a,b,c⟩:=h;exact ⟨g,a,D.heap b (fun H h=>by cases h;exact he rfl),c⟩
/-- Twice the examples, as a row that Sum reads. -/
theorem i_q {w W:World} {D:List Value} {l:List Exm} {n B:Nat} {v:Value} (E:l.length=n) (O:D.length=n*3) (H:∀ i,i < n->ExC w D i (exA l i)) (h:RowE 33 3 B (n+n) (D++D) v W) (U:Below w.heap.size w W):∃ p c,v = .slice p (n+n) c/\ExR W p (n+n) (l++l):=by
 have L:ExO w B (l++l) v W:=⟨D++D,by rw [List.length_append,E];exact h.1,fun i M=>by
  rw [List.length_append,E] at M;by_cases c:i < n
  ·rw [n_e (by rw [E];exact c)];exact (H i c).app
  ·obtain ⟨k,rfl⟩:∃ k,i=n+k:=⟨i - n,by omega⟩
   have J:exA (l++l) (n+k)=exA l k:=by
    unfold exA;rw [List.getD_eq_getElem?_getD,List.getD_eq_getElem?_getD,List.getElem?_append_right (by omega),E,Nat.add_sub_cancel_left]
   rw [J];obtain ⟨V,n1,c1,p2,n2,R,a,b,d,r⟩:=H k (by omega)
   have g:∀ {j:Nat} {u:Value},D[j]?=some u->(D++D)[n*3+j]?=some u:=fun {j u} hj=>by
    rw [List.getElem?_append_right (by omega),O,Nat.add_sub_cancel_left];exact hj
   exact ⟨V,n1,c1,p2,n2,R,by rw [Nat.add_mul];exact g a,by rw [Nat.add_mul,Nat.add_assoc];exact g b,by rw [Nat.add_mul,Nat.add_assoc];exact g d,r⟩⟩
 obtain ⟨p,n',c,e,I,r⟩:=L.exr U;rw [List.length_append,E] at I;subst I;exact ⟨p,c,e,r⟩
theorem n_x (hS:∀ d ls P,SumD d ls P) (hO:OfC [1] liL [0,0]) (hJ:r_h) (w:World) (hT:Hid (Tz w)) (hK:Hid (Kz w)) (z:Nat->Int) (n c:Nat) (p:Option Addr) (ls:List Ly) (n2 c2:Nat) (p2:Option Addr) (k:Int) (zp:Nat->Int) (np cp:Nat) (pp:Option Addr) (l:List Exm) (I cl:Nat) (pl:Option Addr) (h1:RowN .i64 w p n c z) (h2:LayN w p2 n2 c2 ls) (h3:RowN .i64 w pp np cp zp) (h4:ExsN w pl I cl l):
  Calls Tryz.prog 3 #[.agg #[.slice p n c,.slice p2 n2 c2],.int .i64 k,.slice pp np cp,.slice pl I cl] w fun e R=>e = .returned (.bool true)/\Below w.heap.size w R:=by
 haveI:Nonempty World:=⟨w⟩
 obtain ⟨d,hd⟩:∃ d:List Int,Nums .i64 w (.slice p n c) d:=⟨l_i n z,h1.nums⟩
 obtain ⟨P,hP⟩:∃ P:List Int,RowI w pp np cp P:=⟨_,h3.rowI⟩
 have HN:Hid (Nums .i64 w (.slice p n c) d/\LyR 0 w p2 n2 ls/\RowI w pp np cp P/\ExR w pl I l):=⟨hd,h2.2.2,hP,h4.2.2⟩
 have bj:I<=cl:=h4.1;have CS:Hid (∀ d ls P,s_S d ls P):=fun d ls P=>(hS d ls P).c;have CD:Hid (∀ d ls P,SumD d ls P):=hS;have CJ:Hid r_h:=hJ;clear h1 h2 h3 h4 hd hP hS hJ;go_enter Tryz.func3,Tryz.ntmps3;go_wp2_with fail
 generalize aw:World.alloc _ _=W0;have ar:Hid (Below w.heap.size w W0):=by rw [<- aw];exact a_b w _
 obtain ⟨g0,L⟩:W0.cell? ⟨w.heap.size,0,none⟩=some (.slice p n c)/\W0.cell? ⟨w.heap.size,1,none⟩=some (.slice p2 n2 c2):=by rw [<- aw];simp [go_sem]
 clear aw;refine (j_i (CS.out _ _ _) hO W0 (Hid.up_tz hT ar.out) (Hid.up_kz hK ar.out)).mono ?_;rintro e w1 ⟨rfl,hB⟩;have ap:Hid (Below w.heap.size w w1):=a_c ar.out hB;replace g0:=a_h hB g0;replace L:=a_h hB L;have kg:=a_g g0;clear hB ar hO;go_wp2_with fail
 refine (o_3 p p2 n c n2 c2 d ls w1 (HN.out.1.up ap.out) (HN.out.2.1.up ap.out)).mono ?_;rintro e w2 ⟨rfl,hB⟩;have ae:Hid (Below w.heap.size w w2):=a_c ap.out hB;replace g0:=a_h hB g0;replace L:=a_h hB L;replace kg:=a_g g0;clear hB ap;obtain ⟨M,eM⟩:∃ M,tmN n n2 d ls=M:=⟨_,rfl⟩
 by_cases tm:tmP n n2 d ls
 case neg=>
  rw [decide_eq_false tm,eM];go_wp2;go_ret;exact ⟨rfl,ae.out⟩
 have HM:Hid (nP d ls=M/\nE d ls=0/\M<=80/\n2<=6):=by
  have e:nP d ls=M:=by
   rw [<- eM];exact (if_neg (by have:=tm.1;have:=tm.2.1;omega)).symm
  exact ⟨e,tm.2.2.1,by rw [<- e];exact tm.2.2.2,tm.2.1⟩
 rw [decide_eq_true tm,eM];clear tm eM;by_cases a1:3 < I
 ·have:(3:Int) < (I:Int):=by omega
  go_wp2;go_ret;exact ⟨rfl,ae.out⟩
 have be:(I:Int)<=3:=by omega
 by_cases a2:100 < np
 ·have:(100:Int) < (np:Int):=by omega
  go_wp2;go_ret;exact ⟨rfl,ae.out⟩
 have bc:(np:Int)<=100:=by omega
 go_wp2_with fail
 have HX:Hid (w2.cell? ⟨w.heap.size,0,none⟩=some (.slice p n c)/\w2.cell? ⟨w.heap.size,1,none⟩=some (.slice p2 n2 c2)):=⟨g0,L⟩
 clear g0 L kg
 go_loopg [11] I (fun gg i wr=>∃ (j:Nat),j<=I/\gg=I - j/\i = .int .i64 (j:Int)/\Hid (Below w2.heap.size w2 wr))
 case atStart=>exact ⟨0,by omega,by omega,rfl,Below.refl _ _⟩
 case round=>
  obtain ⟨j,hj,hg,rfl,HB⟩:=hrel;by_cases a5:j < I
  ·have bf:(j:Int) < (I:Int):=by omega
   obtain ⟨q,o,rfl,px,nx,cx,py,ny,cy,c0,c1,aZ,_⟩:=(HN.out.2.2.2.up (a_c ae.out HB.out)).2 j a5;have kq:=a_a c0;go_wp2_with fail
   refine (n_j px py nx cx ny cy _ wr).mono ?_;rintro e w3 ⟨rfl,hB⟩;have aK:Hid (Below w2.heap.size w2 w3):=a_c HB.out hB;obtain ⟨r,er⟩:∃ r:Bool,decide (nx<=60/\ny<=60)=r:=⟨_,rfl⟩
   rw [er];clear er hB c0 c1 aZ kq;cases r with
   | false=>
    go_wp2;go_ret;exact ⟨rfl,a_c ae.out aK.out⟩
   | true=>
    go_wp2;go_roundg (I - (j+1))
    case measure=>omega
    case rel=>exact ⟨j+1,by omega,rfl,by first|rfl|simp,aK.out⟩
  ·obtain rfl:I=j:=by omega
   obtain ⟨R1,a4⟩:∃ R1:World,R1=wr:=⟨_,rfl⟩
   subst a4;have ax:Hid (Below w.heap.size w R1):=a_c ae.out HB.out;have a7:0<=M:=by rw [<- HM.out.1];exact p_H HM.out.2.1
   obtain ⟨m,em⟩:=Int.eq_ofNat_of_zero_le a7;subst em;have a9:m<=80:=by have:=HM.out.2.2.1;omega
   go_wp2_with fail
   refine (k_6 pp np cp P m (by omega) (by omega) R1 (HN.out.2.2.1.1.up ax.out)).mono ?_;rintro e w4 ⟨v4,rfl,ai,aq⟩;obtain ⟨p4,n4,c4,rfl⟩:=ai.form_;have g0:=a_d (a_d HX.out.1 HB.out) aq;have L:=a_d (a_d HX.out.2 HB.out) aq;have kg:=a_g g0
   have a6:n4=m:=by
    obtain ⟨_,_,_,e,h⟩:=ai.nums.lst;cases e;rw [<- h.out.1,o_1]
   subst a6;obtain ⟨Q,eQ⟩:∃ Q,n_l P n4=Q:=⟨_,rfl⟩
   rw [eQ] at ai;have H4:Hid (RowI w4 p4 n4 c4 Q/\Below w.heap.size w w4):=⟨⟨ai.nums,by rw [<- eQ];exact r_e HN.out.2.2.1.2.1 _,ai.cap⟩,a_c ax.out aq⟩
   clear ai aq eQ ax HB HX;go_wp2_with fail
   obtain ⟨⟨E,S0,A⟩,eT⟩:∃ T,n_C d ls k Q l=T:=⟨_,rfl⟩
   obtain ⟨⟨E2,S2,C⟩,aD⟩:∃ T,n_C d ls k Q (l++l)=T:=⟨_,rfl⟩
   have au:Hid ((E≠0->E2=E)/\(E=0->E2=0/\e_O S0 S0=S2/\wr (A+A)=C/\S0.length=(nP d ls).toNat)/\InW A):=by
    have e1:e_R (h_i d ls k Q) (nP d ls).toNat l=(E,S0,A):=eT;have e2:e_R (h_i d ls k Q) (nP d ls).toNat (l++l)=(E2,S2,C):=aD;refine ⟨fun h=>?_,fun h=>?_,?_⟩
    ·have:=o_X (f:=h_i d ls k Q) (n:=(nP d ls).toNat) (l:=l) (m:=l) (by rw [e1];exact h);rw [e1,e2] at this;exact this
    ·have h1:=h_m (f:=h_i d ls k Q) (n:=(nP d ls).toNat) (l:=l) (by rw [e1];exact h)
     have h2:(e_R (h_i d ls k Q) (nP d ls).toNat (l++l)).1=0:=by
      rw [f_V fun e he=>(List.mem_append.1 he).elim (h1 e) (h1 e)]
     have h3:=k_3 h2;have h4:=p_b (f:=h_i d ls k Q) (n:=(nP d ls).toNat) (l:=l) (by rw [e1];exact h);rw [e1,e2] at h3;rw [e1] at h4;rw [e2] at h2;exact ⟨h2,h3.2.2.1,h3.2.2.2.2,h4⟩
    ·have:=p_c (f:=h_i d ls k Q) (n:=(nP d ls).toNat) (l:=l);rw [e1] at this;exact this
   obtain ⟨A1,aM⟩:∃ y,A / 18446744073709551616=y:=⟨_,rfl⟩
   obtain ⟨A2,aH⟩:∃ y,A % 18446744073709551616=y:=⟨_,rfl⟩
   have aE:wd A = .agg #[.int .i64 A1,.int .u64 A2]:=by unfold wd;rw [aM,aH]
   obtain ⟨C1,aI⟩:∃ y,C / 18446744073709551616=y:=⟨_,rfl⟩
   obtain ⟨C2,aP⟩:∃ y,C % 18446744073709551616=y:=⟨_,rfl⟩
   have aA:wd C = .agg #[.int .i64 C1,.int .u64 C2]:=by unfold wd;rw [aI,aP]
   obtain ⟨xc,aJ,aU,aQ,aR⟩:=n_w HN.out.2.2.2;have ab:Hid (xc.length=I*3/\(∀ u∈xc,u.oneCell'=true)/\(∀ i,i < I->ExC w xc i (exA l i))):=⟨aJ,aU,aQ⟩
   have ay:Hid (∀ W,Below w.heap.size w W->(0 < I->∃ ad,pl=some ad/\∀ j y,xc[j]?=some y->W.cell? (ad.add j)=some y)):=fun W hW h=>by
    obtain ⟨ad,e,hc⟩:=aR h;exact ⟨ad,e,fun j y hj=>a_h hW (hc j y hj)⟩
   clear aJ aU aQ aR;have cc:=CS.out d ls Q HM.out.2.1 k l p p2 p4 pl n c n2 c2 n4 c4 I cl (by have:=HM.out.2.2.2;omega) (by omega) (by omega) (by have:=HM.out.1;have:=HM.out.2.2.1;omega) w4 (Hid.up_tz hT H4.out.2) (Hid.up_kz hK H4.out.2) (HN.out.1.up H4.out.2) (HN.out.2.1.up H4.out.2) H4.out.1 (HN.out.2.2.2.up H4.out.2);rw [eT] at cc;dsimp only at cc;rw [aE] at cc;clear eT;refine cc.mono ?_;rintro e w5 ⟨v5,rfl,⟨p5,n5,c5,rfl,r5⟩,an⟩;have g0:=a_d g0 an;have L:=a_d L an;have H5:Hid (RowI w5 p4 n4 c4 Q/\Below w.heap.size w w5/\WdR w5 p5 n5 S0/\w5.cell? ⟨w.heap.size,0,none⟩=some (.slice p n c)/\w5.cell? ⟨w.heap.size,1,none⟩=some (.slice p2 n2 c2)):=⟨H4.out.1.up an,a_c H4.out.2 an,r5,g0,L⟩
   clear cc r5 an H4 g0 L kg;go_wp2_with fail
   generalize af:World.alloc _ _=K5
   have V:Hid (RowI K5 p4 n4 c4 Q/\Below w.heap.size w K5/\WdR K5 p5 n5 S0):=by
    rw [<- af];exact ⟨H5.out.1.up (a_b _ _),a_c H5.out.2.1 (a_b _ _),H5.out.2.2.1.up (a_b _ _)⟩
   have g0:K5.cell? ⟨w.heap.size,0,none⟩=some (.slice p n c):=by rw [<- af];exact a_d H5.out.2.2.2.1 (a_b _ _)
   have a0:K5.cell? ⟨w.heap.size,1,none⟩=some (.slice p2 n2 c2):=by rw [<- af];exact a_d H5.out.2.2.2.2 (a_b _ _)
   have q0:K5.cell? ⟨w5.heap.size,0,none⟩=some (.int .i64 A1):=by rw [<- af];simp [go_sem]
   have q1:K5.cell? ⟨w5.heap.size,1,none⟩=some (.int .u64 A2):=by rw [<- af];simp [go_sem]
   have kg:=a_g g0;have kq:=a_g q0;clear af H5
   have aF:Hid (∀ W,Below K5.heap.size K5 W->∀ P cP,ExR W P (I+I) (l++l)->Calls Tryz.prog 8 #[.agg #[.slice p n c,.slice p2 n2 c2],.int .i64 k,.slice p4 n4 c4,.slice P (I+I) cP] W fun e R=>∃ p n c,e = .returned (.tuple #[.slice p n c,.agg #[.int .i64 C1,.int .u64 C2],.int .i64 E2])/\WdR R p n S2/\(∀ ad,p=some ad->W.heap.size<=ad.block/\ad.block < R.heap.size)/\Below W.heap.size W R):=fun W hW P cP hP=>by
    have ao:=a_c V.out.2.1 hW;have cc:=CD.out d ls Q HM.out.2.1 k (l++l) p p2 p4 P n c n2 c2 n4 c4 (I+I) cP (by have:=HM.out.2.2.2;omega) (by omega) (by omega) (by have:=HM.out.1;have:=HM.out.2.2.1;omega) W (Hid.up_tz hT ao) (Hid.up_kz hK ao) (HN.out.1.up ao) (HN.out.2.1.up ao) (V.out.1.up hW) hP;rw [aD] at cc;dsimp only at cc;rw [aA] at cc;refine cc.mono ?_;rintro e' w8 ⟨v8,rfl,⟨p8,n8,c8,rfl,r8⟩,aa,f8⟩;exact ⟨p8,n8,c8,rfl,r8,fun ad ha=>f8 ad n8 c8 (by rw [ha]),aa⟩
   refine t_I 7 (Te 33 (I*3) K5.heap.size) [⟨3,68,LitE 33 K5.heap.size⟩,⟨5,70,RowE 33 3 K5.heap.size I xc⟩,⟨7,72,RowE 33 3 K5.heap.size (I+I) (xc++xc)⟩,⟨8,73,TupF C1 C2 E2 S2⟩,⟨9,64,TupF C1 C2 E2 S2⟩,⟨10,74,SlF S2⟩,⟨13,17,NewW K5.heap.size⟩] 14 106 (by kernel_rfl) rfl rfl [11,12] (by kernel_rfl) (by kernel_rfl) (fun i0 hi o0 ho c a w v h=>?_) (by rfl) [8,9,10] [13] n_D ?fw1 (by decide) (by decide) (fun e _ hk=>by rw [hk];decide) [8,9,10] (by kernel_rfl) ?tt1 ?ph1 ?_
   ·simp only [List.mem_cons,List.not_mem_nil,or_false] at hi;rcases hi with rfl|rfl
    ·cases ho;exact h
    ·cases ho;exact h
   case fw1=>
    intro e he hk v W h b hb;simp only [List.mem_cons,List.not_mem_nil,or_false] at he;rcases he with rfl|rfl|rfl|rfl|rfl|rfl|rfl
    ·exact absurd hk (by simp)
    ·exact absurd hk (by simp)
    ·exact absurd hk (by simp)
    ·exact TupF.lt h hb
    ·exact TupF.lt h hb
    ·exact SlF.lt h hb
    ·exact NewW.lt h hb
   case tt1=>
    intro e he aY hd v W W' h hw hT;simp only [List.mem_cons,List.not_mem_nil,or_false] at he;rcases he with rfl|rfl|rfl|rfl|rfl|rfl|rfl
    ·exact LitE.te h hT
    ·exact RowE.te h rfl hT
    ·exact absurd rfl aY
    ·exact absurd (by simp) hd
    ·exact absurd (by simp) hd
    ·exact absurd (by simp) hd
    ·exact NewW.te (by decide) h hT
   case ph1=>
    intro e he v W W' h hb;simp only [List.mem_cons,List.not_mem_nil,or_false] at he;rcases he with rfl|rfl|rfl|rfl|rfl|rfl|rfl
    ·exact LitE.up h hb
    ·exact RowE.up h hb
    ·exact RowE.up h hb
    ·exact TupF.up h hb
    ·exact TupF.up h hb
    ·exact SlF.up h hb
    ·exact NewW.up h hb
   apply Exists.intro;refine ⟨?yt1,?yl1,?wk1,?pk1,?st1,?sa1,?rest1⟩
   case wk1=>
    intro x;simp only [List.take_succ_cons,List.take_zero]
    iterate 3
     refine a_l rfl rfl ?_;apply Exists.intro;refine ⟨fun F hF hf K hK=>?_,?_⟩
     ·have hFc:=hF.cell;have hFf:=hF.frozen
      go_big_quiet_op
      first|exact hK|(apply Exists.intro;refine ⟨fun _=>?_,?_⟩;(· fail);exact hK)
     (try simp only [Act.put,sA_,sB_,sC_])
    refine d_x rfl (by decide) rfl ?_ ?_
    ·intro F hF hf d;have hFc:=hF.cell;have hFf:=hF.frozen;simp [a_k,a_f,go_sem];exact ⟨⟨(F d).heap.size,rfl,by show ((F d).heap.push _)[(F d).heap.size]?=_;simp,(hF.below d).size⟩,a_b _ _⟩
    (try simp only [Act.put,sA_,sB_,sC_])
    refine a_l rfl rfl ?_;apply Exists.intro;refine ⟨fun F hF hf K hK=>?_,?_⟩
    ·have hFc:=hF.cell;have hFf:=hF.frozen
     go_big_quiet_op
     first|exact hK|(apply Exists.intro;refine ⟨fun _=>?_,?_⟩;(· fail);exact hK)
    (try simp only [Act.put,sA_,sB_,sC_])
    refine d_x rfl (by decide) rfl ?_ ?_
    ·intro F hF hf d;have hFc:=hF.cell;have hFf:=hF.frozen;have h9:=hf _ List.mem_cons_self (by rfl) d;obtain ⟨v8,w8,aB,aG,aa⟩:=t_F exT (by decide) (by decide) 27 (F d) K5.heap.size _ h9 (hF.below d).size pl I cl xc ab.out.1 (ay.out (F d) (a_c V.out.2.1 (hF.below d))) (by omega);simp [a_k,a_f,execOp,resolve,invoke,builtin,Act.eval,aB,Result.andThen];exact ⟨aG,aa⟩
    (try simp only [Act.put,sA_,sB_,sC_])
    refine a_l rfl rfl ?_;apply Exists.intro;refine ⟨fun F hF hf K hK=>?_,?_⟩
    ·have hFc:=hF.cell;have hFf:=hF.frozen
     go_big_quiet_op
     first|exact hK|(apply Exists.intro;refine ⟨fun _=>?_,?_⟩;(· fail);exact hK)
    (try simp only [Act.put,sA_,sB_,sC_])
    refine p_4 rfl rfl rfl ?_ ?_
    ·intro W hW hf;have h9:=hf _ (List.mem_cons_of_mem _ List.mem_cons_self) (by rfl) W;obtain ⟨v8,w8,aB,aG,aX⟩:=t_G exT (by decide) (by decide) 27 W K5.heap.size _ I xc h9 hW.size pl cl ab.out.2.1 (ay.out W (a_c V.out.2.1 hW)) (by omega);simp [b_P,b_O,execOp,resolve,invoke,builtin,Act.eval,aB,Result.andThen];exact ⟨aG,aX.below hW,aX⟩
    (try simp only [Act.put,sA_,sB_,sC_])
    refine d_x rfl (by decide) rfl ?_ ?_
    ·intro F hF hf d;have hFc:=hF.cell;have hFf:=hF.frozen;have h9:=hf _ (List.mem_cons_of_mem _ (List.mem_cons_of_mem _ List.mem_cons_self)) (by rfl) d;obtain ⟨P9,c9,J,r9⟩:=i_q HN.out.2.2.2.1 ab.out.1 ab.out.2.2 h9 (a_c V.out.2.1 (hF.below d));simp only [] at J;simp [a_k,a_f,go_sem,J];refine (aF.out (F d) (hF.below d) P9 c9 r9).mono ?_;rintro e' w8 ⟨p8,n8,c8,rfl,r8,f8,aa⟩;exact ⟨_,rfl,⟨p8,n8,c8,rfl,r8,fun ad ha=>(f8 ad ha).2⟩,aa⟩
    (try simp only [Act.put,sA_,sB_,sC_])
    refine d_x rfl (by decide) rfl ?_ ?_
    ·intro F hF hf d;have hFc:=hF.cell;have hFf:=hF.frozen;have h9:=hf _ (List.mem_cons_of_mem _ (List.mem_cons_of_mem _ (List.mem_cons_of_mem _ List.mem_cons_self))) (by rfl) d;simp [a_k,a_f,go_sem];exact ⟨h9,Below.refl _ _⟩
    (try simp only [Act.put,sA_,sB_,sC_])
    refine d_x rfl (by decide) rfl ?_ ?_
    ·intro F hF hf d;have hFc:=hF.cell;have hFf:=hF.frozen;have h9:=hf _ (List.mem_cons_of_mem _ (List.mem_cons_of_mem _ (List.mem_cons_of_mem _ (List.mem_cons_of_mem _ List.mem_cons_self)))) (by rfl) d;obtain ⟨p9,n9,c9,J,r9,l9⟩:=h9;simp only [] at J;simp [a_k,a_f,go_sem,J];exact ⟨⟨p9,n9,c9,rfl,r9,l9⟩,Below.refl _ _⟩
    iterate 2
     (try simp only [Act.put,sA_,sB_,sC_])
     refine a_l rfl rfl ?_;apply Exists.intro;refine ⟨fun F hF hf K hK=>?_,?_⟩
     ·have hFc:=hF.cell;have hFf:=hF.frozen;have h9:=hf _ (List.mem_cons_of_mem _ (List.mem_cons_of_mem _ (List.mem_cons_of_mem _ (List.mem_cons_of_mem _ List.mem_cons_self)))) (by rfl);obtain ⟨p9,n9,c9,J,_⟩:=h9 K5;simp only [] at J
      go_big_quiet_op
      first|exact hK|(apply Exists.intro;refine ⟨fun _=>?_,?_⟩;(· fail);exact hK)
    (try simp only [Act.put,sA_,sB_,sC_])
    refine d_x rfl (by decide) rfl ?_ ?_
    ·intro F hF hf d;have hFc:=hF.cell;have hFf:=hF.frozen;simp [a_k,a_f,go_sem];exact ⟨⟨(F d).heap.size,rfl,by show ((F d).heap.push _)[(F d).heap.size]?=_;simp,(hF.below d).size⟩,a_b _ _⟩
    (try simp only [Act.put,sA_,sB_,sC_])
    refine b_c ?_;exact rfl
   case pk1=>
    intro x;simp only [b_l,List.foldl_cons,List.foldl_nil,Act.put,sA_,sB_,sC_]
   case yt1=>
    intro i0 hi o0 ho e he W x hx;simp only [List.mem_cons,List.not_mem_nil,or_false] at hi;rcases hi with rfl|rfl
    ·cases he
    ·cases he
   case yl1=>
    intro i0 hi o0 ho hn x hx;simp only [List.mem_cons,List.not_mem_nil,or_false] at hi;rcases hi with rfl|rfl
    ·cases ho;obtain ⟨W9,p9,n9,c9,J,_⟩:=hx _ (List.mem_cons_of_mem _ (List.mem_cons_of_mem _ (List.mem_cons_of_mem _ (List.mem_cons_of_mem _ List.mem_cons_self)))) (by rfl);simp only [] at J;refine ⟨.agg #[.int .i64 C1,.int .u64 C2],fun t ht=>?_,.inl ⟨by rfl,fun w=>?_⟩⟩
     ·cases ht;rfl
     ·simp [execOp,Act.eval,J,go_sem]
    ·cases ho;obtain ⟨W9,p9,n9,c9,J,_⟩:=hx _ (List.mem_cons_of_mem _ (List.mem_cons_of_mem _ (List.mem_cons_of_mem _ (List.mem_cons_of_mem _ List.mem_cons_self)))) (by rfl);simp only [] at J;refine ⟨.int .i64 E2,fun t ht=>?_,.inl ⟨by rfl,fun w=>?_⟩⟩
     ·cases ht;rfl
     ·simp [execOp,Act.eval,J,go_sem]
   case st1=>
    intro e he hk o ho x F hF hf d;simp only [List.mem_cons,List.not_mem_nil,or_false] at he;rcases he with rfl|rfl|rfl|rfl|rfl|rfl|rfl
    ·exact absurd hk (by simp)
    ·exact absurd hk (by simp)
    ·exact absurd hk (by simp)
    ·cases ho;have h9:=hf _ (List.mem_cons_of_mem _ (List.mem_cons_of_mem _ List.mem_cons_self)) (by rfl) d;obtain ⟨P9,c9,J,r9⟩:=i_q HN.out.2.2.2.1 ab.out.1 ab.out.2.2 h9 (a_c V.out.2.1 (hF.below d));simp only [] at J;refine b_f (φ:=u_b C1 C2 E2 S2 (F d).heap.size) ?_ ?_
     ·rintro v R ⟨p8,n8,c8,rfl,r8,f8⟩;refine ⟨⟨p8,n8,c8,rfl,r8,fun ad ha=>(f8 ad ha).2⟩,fun b hb=>.inl ?_⟩;obtain ⟨ad,e1,e2⟩:=n_v hb;exact e2 ▸ (f8 ad e1).1
     ·simp [a_k,a_f,go_sem,J];refine (aF.out (F d) (hF.below d) P9 c9 r9).mono ?_;rintro e' w8 ⟨p8,n8,c8,rfl,r8,f8,aa⟩;exact ⟨_,rfl,⟨p8,n8,c8,rfl,r8,f8⟩,aa⟩
    ·cases ho;have h9:=hf _ (List.mem_cons_of_mem _ (List.mem_cons_of_mem _ (List.mem_cons_of_mem _ List.mem_cons_self))) (by rfl) d;refine b_f (φ:=fun v R=>v=x 8/\R=F d) ?_ ?_
     ·rintro v R ⟨rfl,rfl⟩;exact ⟨h9,fun b hb=>.inr ⟨_,(List.mem_cons_of_mem _ (List.mem_cons_of_mem _ (List.mem_cons_of_mem _ List.mem_cons_self))),by simp,by rfl,hb⟩⟩
     ·simp [a_k,a_f,go_sem]
      first|exact Below.refl _ _|exact ⟨⟨rfl,rfl⟩,Below.refl _ _⟩
    ·cases ho;have h9:=hf _ (List.mem_cons_of_mem _ (List.mem_cons_of_mem _ (List.mem_cons_of_mem _ (List.mem_cons_of_mem _ List.mem_cons_self)))) (by rfl) d;obtain ⟨p9,n9,c9,J,r9,l9⟩:=h9;simp only [] at J;refine b_f (φ:=fun v R=>v = .slice p9 n9 c9/\R=F d) ?_ ?_
     ·rintro v R ⟨rfl,rfl⟩;exact ⟨⟨p9,n9,c9,rfl,r9,l9⟩,fun b hb=>.inr ⟨_,(List.mem_cons_of_mem _ (List.mem_cons_of_mem _ (List.mem_cons_of_mem _ (List.mem_cons_of_mem _ List.mem_cons_self)))),by simp,by rfl,by show n_D (x 9)=_;rw [J];exact p_d hb⟩⟩
     ·simp [a_k,a_f,go_sem,J]
      first|exact Below.refl _ _|exact ⟨⟨rfl,rfl⟩,Below.refl _ _⟩
    ·exact absurd hk (by simp)
   case sa1=>
    intro e he hk o ho x F hF hf d;simp only [List.mem_cons,List.not_mem_nil,or_false] at he;rcases he with rfl|rfl|rfl|rfl|rfl|rfl|rfl
    ·exact absurd hk (by simp)
    ·exact absurd hk (by simp)
    ·exact absurd hk (by simp)
    ·exact absurd hk (by simp)
    ·exact absurd hk (by simp)
    ·exact absurd hk (by simp)
    ·cases ho;refine b_f (φ:=fun v R=>v = .pointer (some ⟨(F d).heap.size,0,none⟩)/\R=(F d).alloc (.cells #[.int .i64 0,.int .u64 0] 38)) ?_ ?_
     ·rintro v R ⟨rfl,rfl⟩;exact ⟨⟨(F d).heap.size,rfl,by show ((F d).heap.push _)[(F d).heap.size]?=_;simp,(hF.below d).size⟩,fun b hb=>Nat.le_of_eq (Option.some.inj hb)⟩
     ·simp [a_k,a_f,go_sem]
      first|exact a_b _ _|exact ⟨⟨rfl,rfl⟩,a_b _ _⟩
   intro z1 xs aW hf ah;simp only [List.drop_succ_cons,List.drop_zero];obtain ⟨aj,ag,aV,ev,r_,_⟩:=hf _ (List.mem_cons_of_mem _ (List.mem_cons_of_mem _ (List.mem_cons_of_mem _ (List.mem_cons_of_mem _ (List.mem_cons_of_mem _ List.mem_cons_self)))));obtain ⟨L,eb,aN,aC⟩:=hf _ (List.mem_cons_of_mem _ (List.mem_cons_of_mem _ (List.mem_cons_of_mem _ (List.mem_cons_of_mem _ (List.mem_cons_of_mem _ (List.mem_cons_of_mem _ List.mem_cons_self))))));have ah:=ah _ _ (List.mem_cons_of_mem _ (List.mem_cons_of_mem _ (List.mem_cons_of_mem _ (List.mem_cons_of_mem _ (List.mem_cons_of_mem _ List.mem_cons_self))))) (List.mem_cons_of_mem _ (List.mem_cons_of_mem _ (List.mem_cons_of_mem _ (List.mem_cons_of_mem _ (List.mem_cons_of_mem _ (List.mem_cons_of_mem _ List.mem_cons_self)))))) (by simp) (by simp);obtain ⟨bh,e3⟩:∃ q,xs 3=q:=⟨_,rfl⟩
   obtain ⟨bi,e5⟩:∃ q,xs 5=q:=⟨_,rfl⟩
   obtain ⟨bd,e7⟩:∃ q,xs 7=q:=⟨_,rfl⟩
   obtain ⟨bk,e8⟩:∃ q,xs 8=q:=⟨_,rfl⟩
   obtain ⟨bg,J⟩:∃ q,xs 9=q:=⟨_,rfl⟩
   simp only [] at ev eb ah;rw [ev,eb] at ah;simp only [ev,eb,e3,e5,e7,e8,J];obtain ⟨⟨y0,y1,y2,y3⟩,u0,u1⟩:=r_p C1 C2 aN;have kz:=a_a y0;have hU:Below K5.heap.size K5 ((z1.setCell ⟨L,0,none⟩ (.int .i64 C1)).setCell ⟨L,1,none⟩ (.int .u64 C2)):=(aW.setCell (p:=⟨L,0,none⟩) aC _).setCell (p:=⟨L,1,none⟩) aC _;have az:WdR ((z1.setCell ⟨L,0,none⟩ (.int .i64 C1)).setCell ⟨L,1,none⟩ (.int .u64 C2)) aj ag S2:=r_.stay (((Stay.refl _ _).set _ _).set _ _) fun ad ha he=>ah ad.block (by rw [ha];rfl) (by rw [he];rfl);obtain ⟨U1,eU⟩:∃ U,((z1.setCell ⟨L,0,none⟩ (.int .i64 C1)).setCell ⟨L,1,none⟩ (.int .u64 C2))=U:=⟨_,rfl⟩
   rw [eU] at hU u0 u1 az;have O:Hid (Below w.heap.size w U1/\WdR U1 p5 n5 S0/\WdR U1 aj ag S2):=⟨a_c V.out.2.1 hU,V.out.2.2.up hU,az⟩
   have ak:Hid (U1.cell? ⟨w5.heap.size,0,none⟩=some (.int .i64 A1)/\U1.cell? ⟨w5.heap.size,1,none⟩=some (.int .u64 A2)/\U1.cell? ⟨L,0,none⟩=some (.int .i64 C1)/\U1.cell? ⟨L,1,none⟩=some (.int .u64 C2)):=⟨a_d q0 hU,a_d q1 hU,u0,u1⟩
   clear hf ah aW ev eb aN aC e3 e5 e7 e8 J r_ az u0 u1 hU g0 a0 q0 q1 kg kq aF V;by_cases hE:E=0
   case neg=>
    have bb:(E != 0)=true:=by simpa using hE
    have e2:=au.out.1 hE;subst e2;go_wp2;go_ret;refine ⟨rfl,?_⟩
    (try rw [eU])
    exact O.out.1
   subst hE;obtain ⟨e2,eS,eA,aT⟩:=au.out.2.1 rfl;subst e2;have HE:Hid (e_O S0 S0=S2/\wr (A+A)=C/\S0.length=(nP d ls).toNat/\InW A):=⟨eS,eA,aT,au.out.2.2⟩
   clear eS eA aT au;go_wp2_with fail
   (try rw [eU])
   clear eU y0 y1 y2 y3 kz;have av:(nP d ls).toNat<=80:=by have:=HM.out.1;have:=HM.out.2.2.1;omega
   have a3:n5<=80:=by rw [<- O.out.2.1.1,HE.out.2.2.1];exact av
   clear av;have cc:=CJ.out p5 p5 n5 c5 n5 c5 S0 S0 (by omega) U1 O.out.2.1 O.out.2.1;rw [if_pos rfl,if_pos rfl,HE.out.1] at cc;refine cc.mono ?_;rintro e w6 ⟨v6,rfl,⟨p6,n6,c6,rfl,r6⟩,ac⟩;have H7:Hid (Below w.heap.size w w6/\WdR w6 p6 n6 S2/\WdR w6 aj ag S2):=⟨a_c O.out.1 ac,r6,O.out.2.2.up ac⟩
   have q0:=a_d ak.out.1 ac;have q1:=a_d ak.out.2.1 ac;have u0:=a_d ak.out.2.2.1 ac;have u1:=a_d ak.out.2.2.2 ac;have kq:=a_g q0;have ku:=a_g u0;have ba:ag<=80:=by rw [<- O.out.2.2.1,<- HE.out.1,h_l,O.out.2.1.1];exact a3
   have aO:Hid (∀ W,Below w6.heap.size w6 W->Calls Tryz.prog 10 #[.slice aj ag aV,.slice p6 n6 c6] W fun e R=>e = .returned (.bool true)/\Below W.heap.size W R):=fun W hW=>by
    have cw:=n_k aj p6 ag aV n6 c6 S2 S2 (by omega) W (H7.out.2.2.up hW) (H7.out.2.1.up hW);rw [decide_eq_true rfl] at cw;exact cw
   have aL:Hid (∀ W,Below w6.heap.size w6 W->Calls Tryz.prog 11 #[.agg #[.int .i64 A1,.int .u64 A2],.agg #[.int .i64 A1,.int .u64 A2]] W fun e R=>e = .returned (.agg #[.int .i64 C1,.int .u64 C2])/\Below W.heap.size W R):=fun W hW=>by
    have:=Wd.add_any A A HE.out.2.2.2 HE.out.2.2.2 W;rw [HE.out.2.1,aE,aA] at this;exact this
   have hq:=fun W=>j_g C1 C2 C1 C2 W;simp only [decide_true] at hq;clear cc r6 ac ak O HE ab ay CD CS CJ HM HN aE aA aD aM aH aI aP;go_wp2_with fail
   refine rel [] 18 106 (by kernel_rfl) rfl rfl (by kernel_rfl) (by rfl) ?_ ?_
   ·intro e he;simp at he
   apply Exists.intro;refine ⟨fun x=>?_,?_,?_⟩
   ·simp only [List.take_succ_cons,List.take_zero]
    iterate 9
     refine a_l rfl rfl ?_;apply Exists.intro;refine ⟨fun F hF hf K hK=>?_,?_⟩
     ·have hFc:=hF.cell;have hFf:=hF.frozen
      go_big_quiet_op
      first|exact hK|(apply Exists.intro;refine ⟨fun _=>?_,?_⟩;(· fail);exact hK)
     (try simp only [Act.put,sA_,sB_,sC_])
    refine a_l rfl rfl ?_;apply Exists.intro;refine ⟨fun F hF hf K hK=>?_,?_⟩
    ·have hFc:=hF.cell;have hFf:=hF.frozen
     go_big_quiet_op
     first|exact hK|(apply Exists.intro;refine ⟨fun _=>?_,?_⟩;(· exact hF.call (aO.out _ (hF.below _)));exact hK)
    iterate 4
     (try simp only [Act.put,sA_,sB_,sC_])
     refine a_l rfl rfl ?_;apply Exists.intro;refine ⟨fun F hF hf K hK=>?_,?_⟩
     ·have hFc:=hF.cell;have hFf:=hF.frozen
      go_big_quiet_op
      first|exact hK|(apply Exists.intro;refine ⟨fun _=>?_,?_⟩;(· fail);exact hK)
    (try simp only [Act.put,sA_,sB_,sC_])
    refine a_l rfl rfl ?_;apply Exists.intro;refine ⟨fun F hF hf K hK=>?_,?_⟩
    ·have hFc:=hF.cell;have hFf:=hF.frozen
     go_big_quiet_op
     first|exact hK|(apply Exists.intro;refine ⟨fun _=>?_,?_⟩;(· exact hF.call (aL.out _ (hF.below _)));exact hK)
    iterate 3
     (try simp only [Act.put,sA_,sB_,sC_])
     refine a_l rfl rfl ?_;apply Exists.intro;refine ⟨fun F hF hf K hK=>?_,?_⟩
     ·have hFc:=hF.cell;have hFf:=hF.frozen
      go_big_quiet_op
      first|exact hK|(apply Exists.intro;refine ⟨fun _=>?_,?_⟩;(· fail);exact hK)
    (try simp only [Act.put,sA_,sB_,sC_])
    refine b_c ?_;exact rfl
   ·intro x;simp only [b_l,List.foldl_nil]
   ·intro w9 xs aS hf;simp only [List.drop_succ_cons,List.drop_zero];have a8:Hid (Below w.heap.size w w9):=a_c H7.out.1 aS;clear hf aS aO aL q0 q1 u0 u1 kq ku;go_wp2;go_ret;exact ⟨rfl,a8.out⟩
theorem gtwice_walk (w:World) (V:Hid (Tz w)) (hK:Hid (Kz w)) (z:Nat->Int) (n c:Nat) (p:Option Addr) (ls:List Ly) (J H:Nat) (O:Option Addr) (k:Int) (R:Nat->Int) (E M:Nat) (L:Option Addr) (l:List Exm) (I cl:Nat) (D:Option Addr) (h1:RowN .i64 w p n c z) (h2:LayN w O J H ls) (hk:-9223372036854775808<=k/\k<=9223372036854775807) (h3:RowN .i64 w L E M R) (U:ExsN w D I cl l):
  Calls Tryz.prog 3 #[.agg #[.slice p n c,.slice O J H],.int .i64 k,.slice L E M,.slice D I cl] w fun e w'=>e = .returned (.bool true)/\Below w.heap.size w w':=n_x (fun _ _ _=>s_L (r_o _ _ _)) (t_Q (o_5 _)) s_K w V hK z n c p ls J H O k R E M L l I cl D h1 h2 h3 U
end Go.Proofs.YtcpbhhlepdgdkaaGreatDoor.Wd
namespace Go.Proofs.YtcpbhhlepdgdkaaGreatDoor.Wd
open Go.RowKit
theorem c_H {H:Type} {enc:TypeId×Value->H} {P:Program} {w:World} {I:Nat} {sp:Nat->Bool} {L:Bool} {fuel:Nat} {e q:TypeId} {E J M:Field} {V:List Value} {bs:List UInt8} {a b c:Int} {p:List MemPlace}
  (he:P.underlying e=some (.struct #[E,J,M])) (ce:P.cellsOf e=4) (o0:E.offset=0) (o1:J.offset=1) (o2:M.offset=2) (c0:P.cellsOf E.type=1) (c1:P.cellsOf J.type=1) (c2:P.cellsOf M.type=2)
  (u0:P.underlying E.type=some .string) (u1:P.underlying J.type=some (.int .i64)) (u2:P.underlying M.type=some (.array 2 q)) (uq:P.underlying q=some (.int .i64)) (cq:P.cellsOf q=1)
  (h:DataW.trod enc P w I sp L fuel e V=some (.agg [.lit (.string bs),.lit (.int .i64 a),.agg [.lit (.int .i64 b),.lit (.int .i64 c)]],p)):V = [.string ⟨bs.toArray⟩,.int .i64 a,.int .i64 b,.int .i64 c]:=by
 obtain ⟨ys,n,_,hx,hl,aa,hf⟩:=DataW.trod_struct he h;rw [ce] at hl;have D:=(Prod.mk.inj hx).1;simp only [DataW.agg.injEq] at D
 match ys,aa with
 | [y0,y1,y2],_=>
  simp only [List.map_cons,List.map_nil,List.cons.injEq,and_true] at D;obtain ⟨R,U,h2⟩:=D;have t0:=hf 0 E rfl;have t1:=hf 1 J rfl;have t2:=hf 2 M rfl
  match V,hl with
  | [v0,v1,v2,v3],_=>
   simp [o0,c0] at t0;simp [o1,c1] at t1;simp [o2,c2] at t2;obtain ⟨z0,e0,x0,_⟩:=DataW.trod_string u0 t0;obtain ⟨z1,e1,x1,_⟩:=DataW.trod_int u1 t1;obtain ⟨ac,ab⟩:=y2;simp only [] at h2;subst h2;have O:=Lib.cells_of_tab (zs:=[b,c]) u2 uq cq c2 t2;simp only [List.cons.injEq,and_true,List.map_cons,List.map_nil] at e0 e1 O;obtain ⟨O,e3⟩:=O;subst e0 e1 O e3;rw [x0] at R;rw [x1] at U;simp only [DataW.lit.injEq,Lit.string.injEq,Lit.int.injEq,true_and] at R U;subst U;rw [R]
theorem t_H {α:Type} (l:List α) (h:l.length=20):l=(l.drop 0).take 4++((l.drop 4).take 4++((l.drop 8).take 4++((l.drop 12).take 4++(l.drop 16).take 4))):=by
 have k:∀ n,l.drop n=(l.drop n).take 4++l.drop (n+4):=fun n=>by
  have:=(List.take_append_drop 4 (l.drop n)).symm;rw [List.drop_drop] at this;exact this
 conv=>lhs;rw [<- List.drop_zero (l:=l),k 0,k 4,k 8,k 12,k 16,List.drop_eq_nil_of_le (show l.length<=16+4 by omega),List.append_nil]
theorem kinds_cells {H:Type} {enc:TypeId×Value->H} {P:Program} {w:World} {V:Nat} {sp:Nat->Bool} {aa:Bool} {fuel:Nat} {t e q:TypeId} {f0 f1 f2:Field} {E:List Value} {p:List MemPlace}
  (ht:P.underlying t=some (.array 5 e)) (ct:P.cellsOf t=20)
  (he:P.underlying e=some (.struct #[f0,f1,f2])) (I:P.cellsOf e=4) (J:f0.offset=0) (o1:f1.offset=1) (o2:f2.offset=2) (M:P.cellsOf f0.type=1) (c1:P.cellsOf f1.type=1) (U:P.cellsOf f2.type=2)
  (u0:P.underlying f0.type=some .string) (u1:P.underlying f1.type=some (.int .i64)) (u2:P.underlying f2.type=some (.array 2 q)) (L:P.underlying q=some (.int .i64)) (O:P.cellsOf q=1)
  (h:DataW.trod enc P w V sp aa fuel t E=some (Rows.laid_carousel_model_kinds,p)):E=kArr.toList:=by
 cases fuel with
 | zero=>simp [DataW.trod] at h
 | succ fuel=>
  simp only [DataW.trod,ht,I,ct] at h
  split at h
  ·rename_i hl
   obtain ⟨xs,hm,hx⟩:=Option.map_eq_some_iff.1 h;have D:=(Prod.mk.inj hx).1;unfold Rows.laid_carousel_model_kinds at D;simp only [DataW.agg.injEq] at D;have af:xs.length=5:=by simpa using Lib.mapM_length hm
   have g:=fun i (hi:i < 5)=>Lib.mapM_at hm i i (by simp [hi]);obtain ⟨b0,R,g0⟩:=g 0 (by omega);obtain ⟨b1,ae,g1⟩:=g 1 (by omega);obtain ⟨b2,ac,g2⟩:=g 2 (by omega);obtain ⟨b3,ad,g3⟩:=g 3 (by omega);obtain ⟨b4,ab,g4⟩:=g 4 (by omega)
   match xs,af with
   | [(d0,q0),(d1,q1),(d2,q2),(d3,q3),(d4,q4)],_=>
    simp only [List.map_cons,List.map_nil,List.cons.injEq,and_true] at D;obtain ⟨rfl,rfl,rfl,rfl,rfl⟩:=D;simp at R ae ac ad ab;subst R ae ac ad ab;have r0:=c_H he I J o1 o2 M c1 U u0 u1 u2 L O g0;have r1:=c_H he I J o1 o2 M c1 U u0 u1 u2 L O g1;have r2:=c_H he I J o1 o2 M c1 U u0 u1 u2 L O g2;have r3:=c_H he I J o1 o2 M c1 U u0 u1 u2 L O g3;have r4:=c_H he I J o1 o2 M c1 U u0 u1 u2 L O g4;rw [t_H E (by omega)];rw [show (List.drop 0 E).take 4=_ from r0,show (List.drop 4 E).take 4=_ from r1,show (List.drop 8 E).take 4=_ from r2,show (List.drop 12 E).take 4=_ from r3,show (List.drop 16 E).take 4=_ from r4];rfl
  ·cases h
theorem kz_var {W : World} (h : W.var? Tryz.prog "carousel/model.kinds" = some kArr) : Kz W := by
 have D:=World.var?_cell (g:=0) (by kernel_rfl) h;intro i E;have e:∀ j,j < 20->kArr[j]?=kArr.toList[j]?:=fun j _=>by simp
 rcases (show i=0∨i=1∨i=2∨i=3∨i=4 by omega) with rfl|rfl|rfl|rfl|rfl
 ·exact ⟨(D 0).trans rfl,(D 1).trans rfl,(D 2).trans rfl,(D 3).trans rfl⟩
 ·exact ⟨(D 4).trans rfl,(D 5).trans rfl,(D 6).trans rfl,(D 7).trans rfl⟩
 ·exact ⟨(D 8).trans rfl,(D 9).trans rfl,(D 10).trans rfl,(D 11).trans rfl⟩
 ·exact ⟨(D 12).trans rfl,(D 13).trans rfl,(D 14).trans rfl,(D 15).trans rfl⟩
 ·exact ⟨(D 16).trans rfl,(D 17).trans rfl,(D 18).trans rfl,(D 19).trans rfl⟩
end Go.Proofs.YtcpbhhlepdgdkaaGreatDoor.Wd
