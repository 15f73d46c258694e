/- Tensors that can be read: what tens.Good -/
import Derived.Test.YtcpbhhlepdgdkaaGreatDoorT00
import Derived.Deep.AppendLies
import Derived.Shelf.Small.Bits
import Derived.Shelf.Strconv.Itoa0
import Derived.Shelf.Bits.Mul64
set_option linter.unusedVariables false
set_option linter.unusedSimpArgs false
set_option maxHeartbeats 16000000
set_option maxRecDepth 16000
namespace Go.Proofs.YtcpbhhlepdgdkaaGreatDoor.Wd
open Go.RowKit
theorem RowN.riI {w:World} {p:Option Addr} {n c:Nat} {z:Nat->Int} (h:RowN .i64 w p n c z):RI (l_i n z):=fun y D=>bounds_i64 (h.wf y D)
/-- A cell for a tensor, newly made. -/
def NewC (B:Nat) (v:Value) (W:World):Prop:=∃ b,v = .pointer (some ⟨b,0,none⟩)/\W.heap[b]?=some (.cells #[.slice none 0 0,.slice none 0 0] 77 (0,0))/\B<=b
theorem a_i {W:World} {b:Nat} {o:Obj} (h:W.heap[b]?=some o):b < W.heap.size:=by
 rcases Nat.lt_or_ge b W.heap.size with D|D
 ·exact D
 ·rw [Array.getElem?_eq_none D] at h;cases h
theorem NewC.up {B:Nat} {v:Value} {W W':World} (h:NewC B v W) (E:Below W.heap.size W W'):NewC B v W':=by
 obtain ⟨b,e,D,H⟩:=h;exact ⟨b,e,by rw [E.block b (a_i D)];exact D,H⟩
theorem c_r {W:World} {b:Nat} {s t:Value} {e:TypeId} (h:W.heap[b]?=some (.cells #[s,t] e (0,0))):Cel W b s t:=by
 refine ⟨?_,?_,?_,?_⟩
 ·unfold World.cell?;simp [h]
 ·unfold World.cell?;simp [h]
 ·unfold World.frozen?;simp [h]
 ·unfold World.frozen?;simp [h]
theorem OwnK.off_type {k:IntKind} {e J:TypeId} {W:World} {B b:Nat} {v:Value} {l:List Int} {R:Array Value} {U:Nat×Nat} (h:OwnK k e W B v l) (hb:W.heap[b]?=some (.cells R J U)) (I:e≠J):Off b v:=by
 intro V n c D;rcases h.2 with ⟨H,_⟩|⟨q,L,M,H,h2,O,_⟩
 ·rw [H] at D;cases D
 ·rw [H] at D;cases D;intro E;have E:q=b:=E;subst E;rw [O] at hb
  injection hb with hb
  injection hb with _ h5 _
  exact I h5
/-- A tensor's copy. -/
def OwnT (B:Nat) (D X:List Int) (v:Value) (W:World):Prop:=∃ p n c p2 n2 c2,v = .agg #[.slice p n c,.slice p2 n2 c2]/\OwnK .i64 3 W B (.slice p n c) D/\OwnK .i64 48 W B (.slice p2 n2 c2) X
theorem OwnT.up {B:Nat} {D X:List Int} {v:Value} {W W':World} (h:OwnT B D X v W) (E:Below W.heap.size W W'):OwnT B D X v W':=by
 obtain ⟨p,n,c,M,J,I,e,L,H⟩:=h;exact ⟨p,n,c,M,J,I,e,L.up E,H.up E⟩
/-- A literal's row. -/
def LitN (l:List Int) (v:Value) (W:World):Prop:=∃ g,v = .slice (some ⟨g,0,none⟩) l.length l.length/\Nums .i64 W v l
theorem LitN.up {l:List Int} {v:Value} {W W':World} (h:LitN l v W) (D:Below W.heap.size W W'):LitN l v W':=by
 obtain ⟨g,e,E⟩:=h;exact ⟨g,e,E.up D⟩
/-- A tensor's two literals. -/
def TupP (B:Nat) (D X:List Int) (E:Int) (v:Value) (W:World):Prop:=∃ u,v = .tuple #[u,.int .i64 E]/\OwnT B D X u W
theorem TupP.up {B:Nat} {D X:List Int} {E:Int} {v:Value} {W W':World} (h:TupP B D X E v W) (H:Below W.heap.size W W'):TupP B D X E v W':=by
 obtain ⟨u,e,I⟩:=h;exact ⟨u,e,I.up H⟩
theorem TRes.own {W:World} {B:Nat} {v:Value} {D X:List Int} (h:TRes W B v D X):OwnT B D X v W:=by
 obtain ⟨s,t,rfl,H,E⟩:=h;obtain ⟨p,n,c,rfl,_⟩:=H.nums.lst;obtain ⟨L,J,I,rfl,_⟩:=E.nums.lst;exact ⟨p,n,c,L,J,I,rfl,H,E⟩
/-- A slice has room for what it holds. -/
theorem OwnK.cap {k:IntKind} {e:TypeId} {W:World} {B n c:Nat} {p:Option Addr} {l:List Int} (h:OwnK k e W B (.slice p n c) l):n<=c:=by
 rcases h.2 with ⟨D,_⟩|⟨q,H,I,D,J,L,E,_⟩
 ·cases D;exact Nat.le_refl _
 ·cases D;exact E
theorem OwnK.obj {k:IntKind} {e:TypeId} {W:World} {B g n c:Nat} {l:List Int} (h:OwnK k e W B (.slice (some ⟨g,0,none⟩) n c) l):∃ J L,W.heap[g]?=some (.cells J e L):=by
 rcases h.2 with ⟨D,_⟩|⟨q,E,H,D,M,I,_⟩
 ·cases D
 ·cases D;exact ⟨_,_,I⟩
theorem s_N {E D:Nat}:goodN (ntl [(E:Int),(D:Int)])↔1<=E/\1<=D/\E*D<=4096:=by
 have H:ntl [(E:Int),(D:Int)] = [E,D]:=a_p [E,D];rw [H];constructor
 ·intro h;exact ⟨h.2.1 _ (by simp),h.2.1 _ (by simp),by have:=h.2.2;simpa [a_e] using this⟩
 ·rintro ⟨a,b,c⟩;exact ⟨by simp,fun y I=>by simp at I;omega,by simpa [a_e] using c⟩
theorem j_F {a b:Nat} (E:a<=4096) (hb:b<=4096):RI [(a:Int),(b:Int)]:=fun q D=>by
 simp at D;omega
theorem c_N {a b:Nat} (h:a*b<=4096) (D:1<=a) (hb:1<=b):a<=4096/\b<=4096:=⟨by have:=Nat.mul_le_mul_left a hb;omega,by have:=Nat.mul_le_mul_right b D;omega⟩
theorem a_W {d x:List Int} (h:isP d x) (J:d.length=2):∃ E D:Nat,d = [(E:Int),(D:Int)]/\x.length=E*D/\1<=E/\1<=D/\E*D<=4096:=by
 obtain ⟨a,H,rfl⟩:=b_n h.1;have I:=h.2;rw [a_p] at I;rw [a_v] at J
 match a,J with
 | [E,D],_=>
  have e:a_e [E,D]=E*D:=by simp [a_e]
  rw [e] at I;refine ⟨E,D,rfl,I,H.2.1 _ (by simp),H.2.1 _ (by simp),?_⟩;have:=H.2.2;rw [e] at this;exact this
theorem c_h {d x:List Int} (h:isP d x) (L:d.length=3):∃ E D H:Nat,d = [(E:Int),(D:Int),(H:Int)]/\x.length=E*D*H/\1<=E/\1<=D/\1<=H/\E*D*H<=4096:=by
 obtain ⟨a,I,rfl⟩:=b_n h.1;have J:=h.2;rw [a_p] at J;rw [a_v] at L
 match a,L with
 | [E,D,H],_=>
  have e:a_e [E,D,H]=E*D*H:=by simp [a_e,Nat.mul_assoc]
  rw [e] at J;refine ⟨E,D,H,rfl,J,I.2.1 _ (by simp),I.2.1 _ (by simp),I.2.1 _ (by simp),?_⟩;have:=I.2.2;rw [e] at this;exact this
theorem r_q {E D H:Nat}:goodN (ntl [(E:Int),(D:Int),(H:Int)])↔1<=E/\1<=D/\1<=H/\E*D*H<=4096:=by
 have I:ntl [(E:Int),(D:Int),(H:Int)] = [E,D,H]:=a_p [E,D,H];rw [I];constructor
 ·intro h;exact ⟨h.2.1 _ (by simp),h.2.1 _ (by simp),h.2.1 _ (by simp),by have:=h.2.2;simpa [a_e,Nat.mul_assoc] using this⟩
 ·rintro ⟨a,b,c,e⟩;exact ⟨by simp,fun y J=>by simp at J;omega,by simpa [a_e,Nat.mul_assoc] using e⟩
theorem j_G {a b c:Nat} (H:a<=4096) (hb:b<=4096) (E:c<=4096):RI [(a:Int),(b:Int),(c:Int)]:=fun q D=>by
 simp at D;omega
theorem c_o (a b:Nat):a_e (ntl [(a:Int),(b:Int)])=a*b:=by rw [show ntl [(a:Int),(b:Int)] = [a,b] from a_p [a,b]];simp [a_e]
theorem e_w (a b c:Nat):a_e (ntl [(a:Int),(b:Int),(c:Int)])=a*b*c:=by rw [show ntl [(a:Int),(b:Int),(c:Int)] = [a,b,c] from a_p [a,b,c]];simp [a_e,Nat.mul_assoc]
end Go.Proofs.YtcpbhhlepdgdkaaGreatDoor.Wd
namespace Go.Proofs.YtcpbhhlepdgdkaaGreatDoor.Wd
open Go.RowKit Fx
/-- Blocks of other types than these stand. -/
def Only (S:List TypeId) (W W':World):Prop:=W.heap.size<=W'.heap.size/\∀ k,k < W.heap.size->(∀ cs e fz,W.heap[k]?=some (.cells cs e fz)->e∉S)->W'.heap[k]?=W.heap[k]?
theorem Only.refl (S:List TypeId) (W:World):Only S W W:=⟨Nat.le_refl _,fun _ _ _=>rfl⟩
theorem Only.trans {S:List TypeId} {a b c:World} (h:Only S a b) (E:Only S b c):Only S a c:=⟨Nat.le_trans h.1 E.1,fun k H D=>by
 have e:=h.2 k H D;rw [E.2 k (Nat.lt_of_lt_of_le H h.1) (by rw [e];exact D),e]⟩
theorem Only.of {S:List TypeId} {a b:World} (h:Below a.heap.size a b):Only S a b:=⟨h.size,fun k D _=>h.block k D⟩
theorem Only.more {S D:List TypeId} {a b:World} (h:Only S a b) (L:∀ e,e∈S->e∈D):Only D a b:=⟨h.1,fun k M J=>h.2 k M fun E e H he I=>J E e H he (L e I)⟩
theorem Only.keep {S:List TypeId} {a b:World} (h:Only S a b) {k:Nat} {I:Array Value} {e:TypeId} {E:Nat×Nat} (D:a.heap[k]?=some (.cells I e E)) (he:e∉S):b.heap[k]?=some (.cells I e E):=by
 rw [h.2 k (a_i D) (fun J M L H=>by rw [D] at H;cases H;exact he)];exact D
theorem Only.grown {S:List TypeId} {a b:World} {D:Option Nat} (h:a.grownBy b D) (O:∀ k,D=some k->∃ H e E,a.heap[k]?=some (.cells H e E)/\e∈S):Only S a b:=⟨h.size,fun k R I=>h.block k R fun e=>by
 obtain ⟨H,L,E,M,J⟩:=O k e.symm;exact I H L E M J⟩
theorem a_X (W:World) (b o:Nat) (x:Value) (k:Nat) (h:k≠b):(W.setCell ⟨b,o,none⟩ x).heap[k]?=W.heap[k]?:=by
 unfold World.setCell;simp [Array.getElem?_modify,Ne.symm h]
theorem a_n {W:World} {b o:Nat} {x:Value} {D:Array Value} {e:TypeId} {E:Nat×Nat} (h:W.heap[b]?=some (.cells D e E)):(W.setCell ⟨b,o,none⟩ x).heap[b]?=some (.cells (D.setIfInBounds o x) e E):=by
 unfold World.setCell;simp [Array.getElem?_modify,h]
theorem Only.set {S:List TypeId} {W:World} {b o:Nat} {x:Value} {E:Array Value} {e:TypeId} {H:Nat×Nat} (h:W.heap[b]?=some (.cells E e H)) (he:e∈S):Only S W (W.setCell ⟨b,o,none⟩ x):=⟨by simp,fun k J I=>a_X W b o x k fun D=>by
 subst D;exact I E e H h he⟩
theorem OwnK.only {k:IntKind} {e:TypeId} {S:List TypeId} {W W':World} {B:Nat} {v:Value} {l:List Int} (h:OwnK k e W B v l) (J:Only S W W') (he:e∉S):OwnK k e W' B v l:=by
 refine ⟨h.1,?_⟩;rcases h.2 with H|⟨g,D,E,I,hb,L,rest⟩
 ·exact .inl H
 ·exact .inr ⟨g,D,E,I,hb,J.keep L he,rest⟩
/-- A node, as the document has it. -/
structure Nd where
 op:Int
 a:Int
 b:Int
 k:Int
 D:List Int
 X:List Int
/-- A node's six cells. -/
def NdC (W:World) (B:Nat) (nd:Nd) (u:List Value):Prop:=∃ s t,u = [.int .i64 nd.op,.int .i64 nd.a,.int .i64 nd.b,.int .i64 nd.k,s,t]/\OwnK .i64 3 W B s nd.D/\OwnK .i64 48 W B t nd.X
def NdsC (W:World) (B:Nat) (ns:List Nd) (xs:List Value):Prop:=xs.length=ns.length*6/\∀ i nd,ns[i]?=some nd->NdC W B nd ((xs.drop (i*6)).take 6)
theorem NdC.only {S:List TypeId} {W W':World} {B:Nat} {nd:Nd} {u:List Value} (h:NdC W B nd u) (D:Only S W W') (I:3∉S) (H:48∉S):NdC W' B nd u:=by
 obtain ⟨s,t,e,J,E⟩:=h;exact ⟨s,t,e,J.only D I,E.only D H⟩
theorem NdsC.only {S:List TypeId} {W W':World} {B:Nat} {ns:List Nd} {D:List Value} (h:NdsC W B ns D) (E:Only S W W') (I:3∉S) (H:48∉S):NdsC W' B ns D:=⟨h.1,fun i nd J=>(h.2 i nd J).only E I H⟩
theorem NdC.len {W:World} {B:Nat} {nd:Nd} {u:List Value} (h:NdC W B nd u):u.length=6:=by
 obtain ⟨s,t,rfl,_⟩:=h;rfl
theorem NdC.one {W:World} {B:Nat} {nd:Nd} {u:List Value} (h:NdC W B nd u):∀ x∈u,x.oneCell'=true:=by
 obtain ⟨s,t,rfl,H,E⟩:=h;obtain ⟨_,_,_,rfl,_⟩:=H.nums.lst;obtain ⟨_,_,_,rfl,_⟩:=E.nums.lst;intro x D;simp only [List.mem_cons,List.not_mem_nil,or_false] at D;rcases D with rfl|rfl|rfl|rfl|rfl|rfl <;> rfl
theorem NdsC.push {W:World} {B:Nat} {ns:List Nd} {J:List Value} {nd:Nd} {u:List Value} (h:NdsC W B ns J) (I:NdC W B nd u):NdsC W B (ns++[nd]) (J++u):=by
 have L:=I.len;refine ⟨by rw [List.length_append,List.length_append,h.1,L];simp;omega,fun i x D=>?_⟩;by_cases E:i < ns.length
 ·rw [List.getElem?_append_left E] at D;have:=h.2 i x D;rw [List.drop_append_of_le_length (by rw [h.1];omega),List.take_append_of_le_length (by rw [List.length_drop,h.1];omega)];exact this
 ·rw [List.getElem?_append_right (by omega)] at D
  obtain H:i=ns.length:=by
   rcases Nat.eq_or_lt_of_le (Nat.le_of_not_lt E) with e|e
   ·exact e.symm
   ·rw [List.getElem?_eq_none (by simp;omega)] at D;cases D
  subst H;rw [Nat.sub_self] at D;cases D;rw [<- h.1,List.drop_left,List.take_of_length_le (by omega)];exact I
theorem NdsC.nil (W:World) (B:Nat):NdsC W B [] []:=⟨rfl,fun i nd h=>by simp at h⟩
/-- A tape: a block with one cell, the row of its nodes. -/
def Tap (TT NT:TypeId) (W:World) (B b:Nat) (ns:List Nd):Prop:=B<=b/\∃ v xs,W.heap[b]?=some (.cells #[v] TT (0,0))/\W.ownsRow B NT 6 v ns.length xs/\NdsC W B ns xs
theorem a_C {S:List TypeId} {W W':World} {B n s:Nat} {e:TypeId} {v:Value} {H:List Value} (h:W.ownsRow B e s v n H) (L:Only S W W') (he:e∉S):W'.ownsRow B e s v n H:=by
 refine ⟨h.1,?_⟩;rcases h.2 with I|⟨g,D,E,J,hb,M,rest⟩
 ·exact .inl I
 ·exact .inr ⟨g,D,E,J,hb,L.keep M he,rest⟩
theorem Tap.only {TT NT:TypeId} {S:List TypeId} {W W':World} {B b:Nat} {ns:List Nd} (h:Tap TT NT W B b ns) (D:Only S W W') (O:TT∉S) (I:NT∉S) (M:3∉S) (H:48∉S):Tap TT NT W' B b ns:=by
 obtain ⟨hb,v,R,L,E,J⟩:=h;exact ⟨hb,v,R,D.keep L O,a_C E D I,J.only D M H⟩
theorem Tap.up {TT NT:TypeId} {W W':World} {B b:Nat} {ns:List Nd} (h:Tap TT NT W B b ns) (D:Below W.heap.size W W'):Tap TT NT W' B b ns:=h.only (S:=[]) (Only.of D) (by simp) (by simp) (by simp) (by simp)
theorem Tap.new {TT NT:TypeId} {W:World} {B:Nat} (D:B<=W.heap.size):Tap TT NT (W.alloc (.cells #[.slice none 0 0] TT)) B W.heap.size []:=
 ⟨D,_,[],heap_alloc_new W _,World.ownsRow_nil _ _ _ _,NdsC.nil _ _⟩
theorem e_b {TT NT:TypeId} (D:NT≠TT) {W:World} {B b n s:Nat} {v H:Value} {I:List Value} (hb:W.heap[b]?=some (.cells #[H] TT (0,0))) (h:W.ownsRow B NT s v n I):v.ownBlock≠some b:=by
 rcases h.2 with ⟨rfl,_⟩|⟨g,J,L,rfl,_,E,_⟩
 ·simp [Value.ownBlock]
 ·intro e;simp [Value.ownBlock] at e;subst e;rw [hb] at E;cases E;exact D rfl
/-- A node more: the row was made longer, then the tape's cell was written. -/
theorem Tap.push {TT NT:TypeId} (H:NT≠TT) (n1:3∉[TT,NT]) (U:48∉[TT,NT]) {W W':World} {B b:Nat} {ns:List Nd} {v E:Value} {J u:List Value} {nd:Nd} (hB:B<=b)
  (R:W.heap[b]?=some (.cells #[v] TT (0,0))) (ho:W.ownsRow B NT 6 v ns.length J) (hn:NdsC W B ns J) (hu:NdC W B nd u) (V:W.grownBy W' v.ownBlock) (O:W'.ownsRow B NT 6 E (ns.length+1) (J++u)):
  Tap TT NT (W'.setCell ⟨b,0,none⟩ E) B b (ns++[nd])/\Only [TT,NT] W (W'.setCell ⟨b,0,none⟩ E):=by
 have I:∀ k,v.ownBlock=some k->∃ cs e fz,W.heap[k]?=some (.cells cs e fz)/\e∈[TT,NT]:=fun k L=>by
  rcases ho.2 with ⟨rfl,_⟩|⟨g,aa,ab,rfl,_,M,_⟩
  ·simp [Value.ownBlock] at L
  ·simp [Value.ownBlock] at L;subst L;exact ⟨_,_,_,M,by simp⟩
 have o1:Only [TT,NT] W W':=Only.grown V I
 have D:W'.heap[b]?=some (.cells #[v] TT (0,0)):=by
  rw [V.block b (a_i R) (Ne.symm (e_b H R ho))];exact R
 have o2:Only [TT,NT] W' (W'.setCell ⟨b,0,none⟩ E):=Only.set D (by simp);have o3:Only [TT] W' (W'.setCell ⟨b,0,none⟩ E):=Only.set D (by simp);refine ⟨⟨hB,E,J++u,?_,?_,?_⟩,o1.trans o2⟩
 ·rw [a_n D];rfl
 ·rw [List.length_append];exact a_C O o3 (by simp;exact H)
 ·exact ((hn.push hu).only o1 n1 U).only o2 n1 U
/-- What a walk reads of a tape. -/
theorem Tap.head {TT NT:TypeId} {W:World} {B b:Nat} {ns:List Nd} (h:Tap TT NT W B b ns):∃ p c D,W.heap[b]?=some (.cells #[.slice p ns.length c] TT (0,0))/\W.ownsRow B NT 6 (.slice p ns.length c) ns.length D/\NdsC W B ns D/\ns.length<=c:=by
 obtain ⟨hb,v,D,J,E,I⟩:=h;rcases E.2 with ⟨rfl,L⟩|⟨g,M,O,rfl,R,V,U,rest⟩
 ·rw [L] at E;have H:ns = []:=List.eq_nil_of_length_eq_zero L;subst H;exact ⟨none,0,D,J,E,I,Nat.le_refl _⟩
 ·exact ⟨_,_,D,J,E,I,U⟩
theorem b_G {W:World} {b:Nat} {v:Value} {e:TypeId} (h:W.heap[b]?=some (.cells #[v] e (0,0))):W.cell? ⟨b,0,none⟩=some v/\W.frozen? ⟨b,0,none⟩=false:=by
 unfold World.cell? World.frozen?;simp [h]
/-- A node's cells, one by one. -/
theorem d_y {NT:TypeId} {W:World} {B:Nat} {ns:List Nd} {p:Option Addr} {c n:Nat} {J:List Value} (L:W.ownsRow B NT 6 (.slice p n c) n J) (O:NdsC W B ns J) (hl:ns.length=n) (i:Nat) (hi:i < n):
  ∃ q nd s t,p=some ⟨q,0,none⟩/\ns[i]?=some nd/\W.cell? ⟨q,i*6,none⟩=some (.int .i64 nd.op)/\W.cell? ⟨q,i*6+1,none⟩=some (.int .i64 nd.a)/\W.cell? ⟨q,i*6+2,none⟩=some (.int .i64 nd.b)/\W.cell? ⟨q,i*6+3,none⟩=some (.int .i64 nd.k)/\W.cell? ⟨q,i*6+4,none⟩=some s/\W.cell? ⟨q,i*6+5,none⟩=some t
   /\ OwnK .i64 3 W B s nd.D/\OwnK .i64 48 W B t nd.X:=by
 have I:ns[i]?=some (ns[i]'(by omega)):=List.getElem?_eq_getElem _;obtain ⟨s,t,e,R,M⟩:=O.2 i _ I
 have E:∀ j u,((J.drop (i*6)).take 6)[j]?=some u->J[i*6+j]?=some u:=fun j u h=>by
  rw [List.getElem?_take] at h
  split at h
  ·rw [List.getElem?_drop] at h;exact h
  ·cases h
 rw [e] at E;rcases L.2 with ⟨h0,h1⟩|⟨g,U,V,hv,hb,hg,rest⟩
 ·omega
 ·cases hv
  have H:∀ j u,J[j]?=some u->W.cell? ⟨g,j,none⟩=some u:=fun j u h=>by
   have:=L.cells (g:=g) rfl j u h;rw [a_t,Nat.zero_add] at this;exact this
  exact ⟨g,_,s,t,rfl,I,H _ _ (E 0 _ rfl),H _ _ (E 1 _ rfl),H _ _ (E 2 _ rfl),H _ _ (E 3 _ rfl),H _ _ (E 4 _ rfl),H _ _ (E 5 _ rfl),R,M⟩
/-- A slice's type whose elements are nodes. -/
structure StT (P:Program) (t e:TypeId) (b:Nat):Prop where
 ht:P.underlying t=some (.slice e)
 hi:(P.info? e).map (fun i=>(i.zero.map fun z=>z.cells.size,i.size,i.bytes))=some (some 6,6,b)
/-- A literal's block of one node. -/
def LitS (e:TypeId) (B:Nat) (u:List Value) (v:Value) (W:World):Prop:=∃ g,v = .slice (some ⟨g,0,none⟩) 1 1/\W.heap[g]?=some (.cells u.toArray e (0,0))/\B<=g
theorem LitS.up {e:TypeId} {B:Nat} {u:List Value} {v:Value} {W W':World} (h:LitS e B u v W) (H:Below W.heap.size W W'):LitS e B u v W':=by
 obtain ⟨g,E,D,I⟩:=h;exact ⟨g,E,by rw [H.block g (a_i D)];exact D,I⟩
theorem LitS.grown {e:TypeId} {B:Nat} {u:List Value} {v:Value} {W W':World} {r:Option Nat} (h:LitS e B u v W) (J:W.grownBy W' r) (I:∀ k,r=some k->k < B):LitS e B u v W':=by
 obtain ⟨g,E,D,H⟩:=h;refine ⟨g,E,?_,H⟩;rw [J.block g (a_i D) (fun e=>by have:=I g e.symm;omega)];exact D
/-- A row of nodes of one's own. -/
def OwnN (e:TypeId) (B n:Nat) (xs:List Value) (v:Value) (W:World):Prop:=W.ownsRow B e 6 v n xs
theorem OwnN.up {e:TypeId} {B n:Nat} {D:List Value} {v:Value} {W W':World} (h:OwnN e B n D v W) (E:Below W.heap.size W W'):OwnN e B n D v W':=a_C (S:=[]) h (Only.of E) (by simp)
theorem g_T {a b c:World} {r:Option Nat} (h:a.grownBy b r) (D:Below b.heap.size b c):a.grownBy c r:=⟨D.os.trans h.os,D.tape.trans h.tape,D.output.trans h.output,Nat.le_trans h.size D.size,fun k E H=>(D.block k (Nat.lt_of_lt_of_le E h.size)).trans (h.block k E H)⟩
theorem b_g {a b:World} (r:Option Nat) (h:Below a.heap.size a b):a.grownBy b r:=⟨h.os,h.tape,h.output,h.size,fun k D _=>h.block k D⟩
theorem d_T {a b c:World} {r:Option Nat} (h:a.grownBy b r) (D:b.grownBy c r):a.grownBy c r:=⟨D.os.trans h.os,D.tape.trans h.tape,D.output.trans h.output,Nat.le_trans h.size D.size,fun k H E=>(D.block k (Nat.lt_of_lt_of_le H h.size) E).trans (h.block k H E)⟩
end Go.Proofs.YtcpbhhlepdgdkaaGreatDoor.Wd
namespace Go.Proofs
open Go.Shelf
def Tryz.lays134_ren:Go.Shelf.Ren:=⟨fun|134=>180|129=>184|n=>n,fun|53=>36|3=>3|4=>4|46=>86|5=>5|9=>9|n=>n,fun|n=>n⟩
theorem Tryz.lays134:Go.Proofs.Lays.n134 Tryz.prog Tryz.lays134_ren:={
 mixed:=by kernel_rfl
 f129:=Tryz.func184.trans (congrArg some (by kernel_rfl))
 f134:=Tryz.func180.trans (congrArg some (by kernel_rfl))
 t3:=Tryz.underlying3
 a3:=Tryz.isAgg3
 z3:=Tryz.sizeOf3
 v3:=Tryz.zeroValue3
 t4:=Tryz.underlying4
 a4:=Tryz.isAgg4
 z4:=Tryz.sizeOf4
 v4:=Tryz.zeroValue4
 t5:=Tryz.underlying5
 a5:=Tryz.isAgg5
 z5:=Tryz.sizeOf5
 v5:=Tryz.zeroValue5
 t9:=Tryz.underlying9
 a9:=Tryz.isAgg9
 z9:=Tryz.sizeOf9
 v9:=Tryz.zeroValue9
 t46:=Tryz.underlying86
 a46:=Tryz.isAgg86
 z46:=Tryz.sizeOf86
 v46:=Tryz.zeroValue86
 t53:=Tryz.underlying36
 a53:=Tryz.isAgg36
 z53:=Tryz.sizeOf36
 v53:=Tryz.zeroValue36 }
theorem Tryz.bits_LeadingZeros64 (x:Int) (w:World) (D:0<=x) (E:x<=18446744073709551615):
  Calls Tryz.prog 180 #[.int .u64 x] w fun e H=>e = .returned (.int .i64 (64 - (Lib.bitLen x.toNat:Int)))/\H=w:=Any.bits_LeadingZeros64 Tryz.lays134 x w D E
def Tryz.lays264_ren:Go.Shelf.Ren:=⟨fun|264=>119|n=>n,fun|53=>36|46=>86|n=>n,fun|n=>n⟩
theorem Tryz.lays264:Go.Proofs.Lays.n264 Tryz.prog Tryz.lays264_ren:={
 mixed:=by kernel_rfl
 f264:=Tryz.func119.trans (congrArg some (by kernel_rfl))
 t46:=Tryz.underlying86
 a46:=Tryz.isAgg86
 z46:=Tryz.sizeOf86
 v46:=Tryz.zeroValue86
 t53:=Tryz.underlying36
 a53:=Tryz.isAgg36
 z53:=Tryz.sizeOf36
 v53:=Tryz.zeroValue36 }
open Go.RowKit Go.Lib in
theorem Tryz.bits_Mul64 (x y:Nat) (H:x < 18446744073709551616) (E:y < 18446744073709551616) (w:World):
  Calls Tryz.prog 119 #[.int .u64 x,.int .u64 y] w fun e D=>e = .returned (.tuple #[.int .u64 ((x*y / 18446744073709551616:Nat):Int),.int .u64 ((x*y % 18446744073709551616:Nat):Int)])/\D=w:=Any.bits_Mul64 Tryz.lays264 x y H E w
def Tryz.lays212_ren:Go.Shelf.Ren:=⟨fun|212=>91|263=>118|264=>119|n=>n,fun|46=>86|51=>182|146=>183|53=>36|148=>62|n=>n,fun|n=>n⟩
theorem Tryz.lays212:Go.Proofs.Lays.n212 Tryz.prog Tryz.lays212_ren:={
 mixed:=by kernel_rfl
 f212:=Tryz.func91.trans (congrArg some (by kernel_rfl))
 f263:=Tryz.func118.trans (congrArg some (by kernel_rfl))
 f264:=Tryz.func119.trans (congrArg some (by kernel_rfl))
 t46:=Tryz.underlying86
 a46:=Tryz.isAgg86
 z46:=Tryz.sizeOf86
 v46:=Tryz.zeroValue86
 t51:=Tryz.underlying182
 a51:=Tryz.isAgg182
 z51:=Tryz.sizeOf182
 v51:=Tryz.zeroValue182
 t53:=Tryz.underlying36
 a53:=Tryz.isAgg36
 z53:=Tryz.sizeOf36
 v53:=Tryz.zeroValue36
 t146:=Tryz.underlying183
 a146:=Tryz.isAgg183
 z146:=Tryz.sizeOf183
 v146:=Tryz.zeroValue183
 t148:=Tryz.underlying62
 a148:=Tryz.isAgg62
 z148:=Tryz.sizeOf62
 v148:=Tryz.zeroValue62 }
open Go.RowKit Go.Lib in
theorem Tryz.bits_Mul (x y:Nat) (H:x < 18446744073709551616) (E:y < 18446744073709551616) (w:World):
  Calls Tryz.prog 91 #[.int .u64 x,.int .u64 y] w fun e D=>e = .returned (.tuple #[.int .u64 ((x*y / 18446744073709551616:Nat):Int),.int .u64 ((x*y % 18446744073709551616:Nat):Int)])/\D=w:=Any.bits_Mul Tryz.lays212 x y H E w
end Go.Proofs
namespace Go.Proofs.YtcpbhhlepdgdkaaGreatDoor.Fx
open Go.RowKit
theorem ret_int {k:IntKind} {a b:Int} (h:a=b):Ending.returned (.int k a) = .returned (.int k b):=by rw [h]
theorem bound_any (b:Bool) (w:World):
  Calls Tryz.prog 136 #[.bool b] w fun e D=>e = .returned (.int .i64 (lim b))/\D=w:=by
 cases b
 all_goals
  go_enter Tryz.func136,Tryz.ntmps136;go_wp2;go_ret;exact ⟨rfl,rfl⟩
theorem size_any (a:Int) (n:Nat) (E:InR a) (D:a.natAbs=n) (w:World):
  Calls Tryz.prog 151 #[.int .i64 a] w fun e I=>e = .returned (.int .u64 n)/\I=w:=by
 unfold InR at E;have H:Hid (a.natAbs=n):=D;clear D;by_cases h:a < 0
 all_goals
  go_enter Tryz.func151,Tryz.ntmps151;go_wp2;go_ret;refine ⟨ret_int ?_,rfl⟩;have D:=H.out
  try simp only [IntKind.wrap_u64]
  omega
theorem j_H (b:Bool) (n:Nat) (E:n < 18446744073709551616) (w:World):
  Calls Tryz.prog 152 #[.bool b,.int .u64 n] w fun e D=>e = .returned (.int .i64 (hold (sg b n)))/\D=w:=by
 by_cases h:9223372036854775807 < n
 ·go_enter Tryz.func152,Tryz.ntmps152;go_wp2_with (go_at_call 136;refine (bound_any _ _).mono ?_;rintro e D ⟨rfl,rfl⟩)
  go_ret;exact ⟨ret_int (g_S b n h),rfl⟩
 ·cases b
  all_goals
   go_enter Tryz.func152,Tryz.ntmps152;go_wp2;go_ret
   first|exact ⟨ret_int (p_6 n (by omega)),rfl⟩|exact ⟨ret_int (l_G n (by omega)),rfl⟩
theorem nearest_any (q r d:Nat) (E:q < 18446744073709551615) (I:r < d) (H:d<=9223372036854775808) (w:World):
  Calls Tryz.prog 173 #[.int .u64 q,.int .u64 r,.int .u64 d] w fun e D=>e = .returned (.int .u64 (nr q r d:Nat))/\D=w:=by
 go_enter Tryz.func173,Tryz.ntmps173;go_wp2
 all_goals
  go_ret;refine ⟨ret_int ?_,rfl⟩
  try simp only [beq_iff_eq,beq_eq_false_iff_ne,ne_eq] at *
  unfold nr
  split <;> omega
theorem i_A (E D:Nat) (J:E < 2147483648) (H:D < 18446744073709551616) (w:World):
  Calls Tryz.prog 153 #[.int .u64 E,.int .u64 D] w fun e I=>e = .returned (.int .u64 (rq (E*18446744073709551616+D) 4294967296:Nat))/\I=w:=by
 go_enter Tryz.func153,Tryz.ntmps153;go_wp2_with fail
 rw [joinN E D (by omega) H,s_V D H];have c:=nearest_any (E*4294967296+D / 4294967296) (D % 4294967296) 4294967296 (by omega) (by omega) (by omega) w;rw [show ((4294967296:Nat):Int)=4294967296 from rfl] at c;refine c.mono ?_;rintro e I ⟨rfl,rfl⟩;go_wp2;go_ret;refine ⟨ret_int ?_,rfl⟩;rw [<- n_Y,p_7,p_8]
theorem of_any (n:Int) (E:InR n) (w:World):
  Calls Tryz.prog 174 #[.int .i64 n] w fun e D=>e = .returned (.int .i64 (hold (n*4294967296)))/\D=w:=by
 unfold InR at E;by_cases I:n > 2147483647
 ·go_enter Tryz.func174,Tryz.ntmps174;go_wp2;go_ret;exact ⟨ret_int (f_u (by omega)).symm,rfl⟩
 ·by_cases H:n < -2147483648
  ·go_enter Tryz.func174,Tryz.ntmps174;go_wp2;go_ret;exact ⟨ret_int (f_v (by omega)).symm,rfl⟩
  ·go_enter Tryz.func174,Tryz.ntmps174;go_wp2;go_ret;refine ⟨ret_int ?_,rfl⟩;rw [hold_in (by omega) (by omega)]
theorem add_any (a b:Int) (D:InR a) (hb:InR b) (w:World):
  Calls Tryz.prog 107 #[.int .i64 a,.int .i64 b] w fun e E=>e = .returned (.int .i64 (hold (a+b)))/\E=w:=by
 go_enter Tryz.func107,Tryz.ntmps107;go_wp2_with (go_at_call 136;refine (bound_any _ _).mono ?_;rintro e E ⟨rfl,rfl⟩)
 all_goals
  go_ret
  first
  |exact ⟨ret_int (l_H a b D hb ‹_›),rfl⟩
  |exact ⟨ret_int (n_V a b D hb ‹_›),rfl⟩
theorem sub_any (a b:Int) (D:InR a) (hb:InR b) (w:World):
  Calls Tryz.prog 137 #[.int .i64 a,.int .i64 b] w fun e E=>e = .returned (.int .i64 (hold (a - b)))/\E=w:=by
 go_enter Tryz.func137,Tryz.ntmps137;go_wp2_with (go_at_call 136;refine (bound_any _ _).mono ?_;rintro e E ⟨rfl,rfl⟩)
 all_goals
  go_ret
  first
  |exact ⟨ret_int (l_I a b D hb ‹_›),rfl⟩
  |exact ⟨ret_int (n_X a b D hb ‹_›),rfl⟩
theorem n_4 (x y D E:Nat) (M:x < 18446744073709551616) (L:y < 18446744073709551616) (H:D=x*y / 18446744073709551616) (I:E=x*y % 18446744073709551616) (w:World):
  Calls Tryz.prog 119 #[.int .u64 x,.int .u64 y] w fun e J=>e = .returned (.tuple #[.int .u64 D,.int .u64 E])/\J=w:=by
 subst H I;exact Tryz.bits_Mul64 x y M L w
theorem mul_any (a b:Int) (U:InR a) (hb:InR b) (w:World):
  Calls Tryz.prog 123 #[.int .i64 a,.int .i64 b] w fun e I=>e = .returned (.int .i64 (mulI a b))/\I=w:=by
 have hx:a.natAbs<=9223372036854775808:=by unfold InR at U;omega
 have hy:b.natAbs<=9223372036854775808:=by unfold InR at hb;omega
 obtain ⟨x,L⟩:∃ x,a.natAbs=x:=⟨_,rfl⟩
 obtain ⟨y,M⟩:∃ y,b.natAbs=y:=⟨_,rfl⟩
 obtain ⟨D,R⟩:∃ D,D=x*y / 18446744073709551616:=⟨_,rfl⟩
 obtain ⟨H,e2⟩:∃ H,H=x*y % 18446744073709551616:=⟨_,rfl⟩
 have hh:D<=4611686018427387904:=by
  have:=Nat.mul_le_mul (L ▸ hx) (M ▸ hy);omega
 have V:H < 18446744073709551616:=by omega
 have E:Hid (a.natAbs=x/\b.natAbs=y/\D=x*y / 18446744073709551616/\H=x*y % 18446744073709551616):=⟨L,M,R,e2⟩
 have J:x < 18446744073709551616:=by omega
 have O:y < 18446744073709551616:=by omega
 clear L M R e2;by_cases hf:D < 2147483648
 all_goals
  go_enter Tryz.func123,Tryz.ntmps123;go_wp2_with fail
  refine (size_any a x U E.out.1 _).mono ?_;rintro e I ⟨rfl,rfl⟩;go_wp2_with fail
  refine (size_any b y hb E.out.2.1 _).mono ?_;rintro e I ⟨rfl,rfl⟩;go_wp2_with fail
  refine (n_4 x y D H J O E.out.2.2.1 E.out.2.2.2 _).mono ?_;rintro e I ⟨rfl,rfl⟩;go_wp2_with fail
 ·refine (i_A D H hf V _).mono ?_;rintro e I ⟨rfl,rfl⟩;go_wp2_with fail
  refine (j_H _ _ (n_Z D H hf V) _).mono ?_;rintro e I ⟨rfl,rfl⟩;go_wp2;go_ret;exact ⟨ret_int (n_0 a b x y E.out.1 E.out.2.1 D H E.out.2.2.1 E.out.2.2.2),rfl⟩
 ·refine (bound_any _ _).mono ?_;rintro e I ⟨rfl,rfl⟩;go_wp2;go_ret;exact ⟨ret_int (p_9 a b x y E.out.1 E.out.2.1 (by have:=E.out.2.2.1;omega)),rfl⟩
end Go.Proofs.YtcpbhhlepdgdkaaGreatDoor.Fx
namespace Go.Proofs.YtcpbhhlepdgdkaaGreatDoor.Wd
open Go.RowKit
theorem RI.in {l:List Int} (h:RI l) (k:Nat) (D:k < l.length):Fx.InR (l.getD k 0):=h.at k D
theorem q_d (K:FuncId) (ac:∀ args W,(callFunc K args).run Tryz.prog W = .ok (.enter K args) W) (op:Int->Int->Int) (cK:∀ a b,Fx.InR a->Fx.InR b->∀ W,Calls Tryz.prog K #[.int .i64 a,.int .i64 b] W fun e w'=>e = .returned (.int .i64 (op a b))/\w'=W)
  (p p2 p3 p4:Option Addr) (n c n2 c2 n3 c3 n4 c4:Nat) (d x d' y:List Int) (hd:RI d) (hx:RI x) (O:RI d') (hy:RI y) (w:World) (h1:Nums .i64 w (.slice p n c) d) (h2:Nums .i64 w (.slice p2 n2 c2) x) (h3:Nums .i64 w (.slice p3 n3 c3) d') (h4:Nums .i64 w (.slice p4 n4 c4) y)
  (R:¬ (isP d x/\isP d' y/\b_x d d'=0)):
  Calls Tryz.prog 106 #[.agg #[.slice p n c,.slice p2 n2 c2],.agg #[.slice p3 n3 c3,.slice p4 n4 c4],.func (.func K) #[] #[]] w fun e w'=>∃ v',e = .returned (.tuple #[v',.int .i64 (b_C d x d' y)])/\TRes w' w.heap.size v' (b_J d x d' y) (b_Z op d x d' y)/\Below w.heap.size w w':=by
 have cA:=fun W (hW:Below w.heap.size w W)=>a_B _ _ d x hd W (h1.up hW) (h2.up hW);have cB:=fun W (hW:Below w.heap.size w W)=>a_B _ _ d' y O W (h3.up hW) (h4.up hW);have cJ:=fun W (hW:Below w.heap.size w W)=>g_E _ _ d d' hd O W (h1.up hW) (h3.up hW);by_cases ha:isP d x
 ·rw [decide_eq_true ha] at cA;by_cases hb:isP d' y
  ·rw [decide_eq_true hb] at cB;have hE:b_x d d'≠0:=fun h=>R ⟨ha,hb,h⟩;obtain ⟨e1,e2,V⟩:=j_E (op:=op) ⟨ha,hb⟩ hE;rw [e1,e2,V];obtain ⟨E,eE⟩:∃ E,b_x d d'=E:=⟨_,rfl⟩
   obtain ⟨JL,eJ⟩:∃ JL,b_W d d'=JL:=⟨_,rfl⟩
   rw [eE] at hE cJ ⊢;rw [eJ] at cJ;have ad:(E != 0)=true:=by simp [hE]
   clear eE eJ e1 e2 V ha hb R h1 h2 h3 h4 hd hx O hy cK;go_enter Tryz.func106,Tryz.ntmps106;go_wp2_with fail
   generalize D:World.alloc _ _=W0;have J:=b_1 (w:=w) D (by go_grown);have XA:Hid (Cel W0 w.heap.size (.slice p n c) (.slice p2 n2 c2)):=a_F D (by simp [go_sem]);have XB:Hid (Cel W0 (w.heap.size+1) (.slice p3 n3 c3) (.slice p4 n4 c4)):=a_F D (by simp [go_sem]);have XR:Hid (Cel W0 (w.heap.size+2) (.slice none 0 0) (.slice none 0 0)):=a_F D (by simp [go_sem]);clear D;refine (cA W0 J.out).mono ?_;rintro e w1 ⟨rfl,I⟩;have H:=a_N (a_c J.out I) I;clear I;have xb:=XB.out.up H.out.2;obtain ⟨b0,b1,_,_⟩:=xb;go_wp2_with fail
   refine (cB w1 H.out.1).mono ?_;rintro e w2 ⟨rfl,M⟩;have L:=a_N (a_c H.out.1 M) (a_c H.out.2 M);clear M b0 b1;have xa:=XA.out.up L.out.2;have xb:=XB.out.up L.out.2;obtain ⟨a0,a1,_,_⟩:=xa;obtain ⟨b0,b1,_,_⟩:=xb;go_wp2_with fail
   refine (cJ w2 L.out.1).mono ?_;rintro e w3 ⟨vj,rfl,aa,U⟩;have ab:=a_N (a_c L.out.1 U) (a_c L.out.2 U);have ae:Hid (OwnK .i64 3 w3 w2.heap.size vj JL/\Below w2.heap.size w2 w3):=⟨aa,U⟩
   clear U aa a0 a1 b0 b1;have xr:=(XR.out.up ab.out.2)
   have BF:=a_j (ab.out.1) (w.heap.size+2) (by omega) (.slice none 0 0) (.slice none 0 0);have cf:=xr.set (.slice none 0 0) (.slice none 0 0);obtain ⟨r0,r1,r2,r3⟩:=xr;obtain ⟨y0,y1,_,_⟩:=cf;go_wp2;exact bodyPost_ret (v:=.tuple #[.agg #[.slice none 0 0,.slice none 0 0],.int .i64 E]) (by simp [results,Tryz.results106,go_sem,y0,y1]) rfl ⟨_,rfl,TRes.none _ _,BF⟩
  ·rw [decide_eq_false hb] at cB;obtain ⟨e1,e2,V⟩:=f_w (op:=op) (d:=d) (x:=x) (d':=d') (y:=y) fun h=>hb h.2;rw [e1,e2,V];clear e1 e2 V ha hb R h1 h2 h3 h4 hd hx O hy cK cJ;go_enter Tryz.func106,Tryz.ntmps106;go_wp2_with fail
   generalize D:World.alloc _ _=W0;have J:=b_1 (w:=w) D (by go_grown);have XA:Hid (Cel W0 w.heap.size (.slice p n c) (.slice p2 n2 c2)):=a_F D (by simp [go_sem]);have XB:Hid (Cel W0 (w.heap.size+1) (.slice p3 n3 c3) (.slice p4 n4 c4)):=a_F D (by simp [go_sem]);have XR:Hid (Cel W0 (w.heap.size+2) (.slice none 0 0) (.slice none 0 0)):=a_F D (by simp [go_sem]);clear D;refine (cA W0 J.out).mono ?_;rintro e w1 ⟨rfl,I⟩;have H:=a_N (a_c J.out I) I;clear I;have xb:=XB.out.up H.out.2;obtain ⟨b0,b1,_,_⟩:=xb;go_wp2_with fail
   refine (cB w1 H.out.1).mono ?_;rintro e w2 ⟨rfl,M⟩;have L:=a_N (a_c H.out.1 M) (a_c H.out.2 M);clear M b0 b1;have xr:=(XR.out.up L.out.2)
   have BF:=a_j (L.out.1) (w.heap.size+2) (by omega) (.slice none 0 0) (.slice none 0 0);have cf:=xr.set (.slice none 0 0) (.slice none 0 0);obtain ⟨r0,r1,r2,r3⟩:=xr;obtain ⟨y0,y1,_,_⟩:=cf;go_wp2;exact bodyPost_ret (v:=.tuple #[.agg #[.slice none 0 0,.slice none 0 0],.int .i64 1]) (by simp [results,Tryz.results106,go_sem,y0,y1]) rfl ⟨_,rfl,TRes.none _ _,BF⟩
 ·rw [decide_eq_false ha] at cA;obtain ⟨e1,e2,V⟩:=f_w (op:=op) (d:=d) (x:=x) (d':=d') (y:=y) fun h=>ha h.1;rw [e1,e2,V];clear e1 e2 V ha R h1 h2 h3 h4 hd hx O hy cK cJ cB;go_enter Tryz.func106,Tryz.ntmps106;go_wp2_with fail
  generalize D:World.alloc _ _=W0;have J:=b_1 (w:=w) D (by go_grown);have XA:Hid (Cel W0 w.heap.size (.slice p n c) (.slice p2 n2 c2)):=a_F D (by simp [go_sem]);have XB:Hid (Cel W0 (w.heap.size+1) (.slice p3 n3 c3) (.slice p4 n4 c4)):=a_F D (by simp [go_sem]);have XR:Hid (Cel W0 (w.heap.size+2) (.slice none 0 0) (.slice none 0 0)):=a_F D (by simp [go_sem]);clear D;refine (cA W0 J.out).mono ?_;rintro e w1 ⟨rfl,I⟩;have H:=a_N (a_c J.out I) I;clear I;have xr:=(XR.out.up H.out.2)
  have BF:=a_j (H.out.1) (w.heap.size+2) (by omega) (.slice none 0 0) (.slice none 0 0);have cf:=xr.set (.slice none 0 0) (.slice none 0 0);obtain ⟨r0,r1,r2,r3⟩:=xr;obtain ⟨y0,y1,_,_⟩:=cf;go_wp2;exact bodyPost_ret (v:=.tuple #[.agg #[.slice none 0 0,.slice none 0 0],.int .i64 1]) (by simp [results,Tryz.results106,go_sem,y0,y1]) rfl ⟨_,rfl,TRes.none _ _,BF⟩
theorem n_5 (K:FuncId) (aw:∀ args W,(callFunc K args).run Tryz.prog W = .ok (.enter K args) W) (op:Int->Int->Int) (cK:∀ a b,Fx.InR a->Fx.InR b->∀ W,Calls Tryz.prog K #[.int .i64 a,.int .i64 b] W fun e M=>e = .returned (.int .i64 (op a b))/\M=W)
  (p p2 p3 p4:Option Addr) (n c n2 c2 n3 c3 n4 c4:Nat) (d x d' y:List Int) (hd:RI d) (hx:RI x) (az:RI d') (hy:RI y) (w:World) (h1:Nums .i64 w (.slice p n c) d) (h2:Nums .i64 w (.slice p2 n2 c2) x) (h3:Nums .i64 w (.slice p3 n3 c3) d') (h4:Nums .i64 w (.slice p4 n4 c4) y)
  (a b J:List Nat) (R:Joint d x d' y a b J):
  Calls Tryz.prog 106 #[.agg #[.slice p n c,.slice p2 n2 c2],.agg #[.slice p3 n3 c3,.slice p4 n4 c4],.func (.func K) #[] #[]] w fun e M=>∃ v',e = .returned (.tuple #[v',.int .i64 (b_C d x d' y)])/\TRes M w.heap.size v' (b_J d x d' y) (b_Z op d x d' y)/\Below w.heap.size w M:=by
 have cA:=fun W (L:Below w.heap.size w W)=>a_B _ _ d x hd W (h1.up L) (h2.up L);have cB:=fun W (L:Below w.heap.size w W)=>a_B _ _ d' y az W (h3.up L) (h4.up L);have cJ:=fun W (L:Below w.heap.size w W)=>g_E _ _ d d' hd az W (h1.up L) (h3.up L);obtain ⟨e1,e2,e3⟩:=R.E (op:=op);rw [e1,e2,e3];have aW:isP d x:=by rw [R.da];unfold isP;rw [a_p];exact ⟨R.ga,R.lx⟩
 have aM:isP d' y:=by rw [R.db];unfold isP;rw [a_p];exact ⟨R.gb,R.ly⟩
 rw [decide_eq_true aW] at cA;rw [decide_eq_true aM] at cB;rw [R.je,R.jn] at cJ;obtain ⟨JL,eJ⟩:∃ JL,itl J=JL:=⟨_,rfl⟩
 obtain ⟨V,eV⟩:∃ V,((List.range (a_e J)).map fun i=>op (x.getD (b_U a J i) 0) (y.getD (b_U b J i) 0))=V:=⟨_,rfl⟩
 obtain ⟨N,eN⟩:∃ N,a_e J=N:=⟨_,rfl⟩
 rw [eJ] at cJ ⊢;rw [eV];have D:Hid (Joint d x d' y a b J/\itl J=JL/\((List.range (a_e J)).map fun i=>op (x.getD (b_U a J i) 0) (y.getD (b_U b J i) 0))=V/\a_e J=N/\V.length=N):=⟨R,eJ,eV,eN,by rw [<- eV,<- eN];simp⟩
 have hN:1<=N/\N<=4096:=by rw [<- eN];exact ⟨R.gJ.pos,R.gJ.2.2⟩
 have bc:1<=(N:Int)/\(N:Int)<=4096:=by omega
 have HR:Hid (RI x/\RI y):=⟨hx,hy⟩
 have aI:Hid (∀ args W,(callFunc K args).run Tryz.prog W = .ok (.enter K args) W):=aw;have aY:Hid (∀ a b,Fx.InR a->Fx.InR b->∀ W,Calls Tryz.prog K #[.int .i64 a,.int .i64 b] W fun e M=>e = .returned (.int .i64 (op a b))/\M=W):=cK;have H0:Hid (Nums .i64 w (.slice p n c) (itl a)/\Nums .i64 w (.slice p2 n2 c2) x/\Nums .i64 w (.slice p3 n3 c3) (itl b)/\Nums .i64 w (.slice p4 n4 c4) y):=⟨by rw [<- R.da];exact h1,h2,by rw [<- R.db];exact h3,h4⟩
 clear e1 e2 e3 aW aM eJ eV eN h1 h2 h3 h4 hd hx az hy cK R aw;go_enter Tryz.func106,Tryz.ntmps106;go_wp2_with fail
 generalize af:World.alloc _ _=W0;have aD:=b_1 (w:=w) af (by go_grown);have XA:Hid (Cel W0 w.heap.size (.slice p n c) (.slice p2 n2 c2)):=a_F af (by simp [go_sem]);have XB:Hid (Cel W0 (w.heap.size+1) (.slice p3 n3 c3) (.slice p4 n4 c4)):=a_F af (by simp [go_sem]);have XR:Hid (Cel W0 (w.heap.size+2) (.slice none 0 0) (.slice none 0 0)):=a_F af (by simp [go_sem]);clear af;refine (cA W0 aD.out).mono ?_;rintro e w1 ⟨rfl,aB⟩;have ak:=a_N (a_c aD.out aB) aB;clear aB;have xb:=XB.out.up ak.out.2;obtain ⟨b0,b1,_,_⟩:=xb;go_wp2_with fail
 refine (cB w1 ak.out.1).mono ?_;rintro e w2 ⟨rfl,aE⟩;have aa:=a_N (a_c ak.out.1 aE) (a_c ak.out.2 aE);clear aE b0 b1;have xa:=XA.out.up aa.out.2;have xb:=XB.out.up aa.out.2;obtain ⟨a0,a1,_,_⟩:=xa;obtain ⟨b0,b1,_,_⟩:=xb;go_wp2_with fail
 refine (cJ w2 aa.out.1).mono ?_;rintro e w3 ⟨vj,rfl,aT,an⟩;have ag:=a_N (a_c aa.out.1 an) (a_c aa.out.2 an);have ap:Hid (OwnK .i64 3 w3 w2.heap.size vj JL/\Below w2.heap.size w2 w3):=⟨aT,an⟩
 clear an aT a0 a1 b0 b1;have cZ:=size_any vj JL (by rw [<- D.out.2.1];exact j_t D.out.1.gJ.le) w3 ap.out.1.nums;rw [<- D.out.2.1,a_p,b_6 D.out.1.gJ,D.out.2.2.2.1] at cZ;go_wp2_with fail
 refine cZ.mono ?_;rintro e w9 ⟨rfl,rfl⟩;clear cZ;go_wp2_with (at_make;refine a_y k_C (by decide) _ rfl (.tmp 36) (.tmp 36) rfl .i64 .i64 N N N rfl rfl rfl rfl (by omega) w.heap.size w ag.out.1.size ag.out.1 ?_;intro U av B4 a5;clear a5)
 have ab:=a_N (a_c ag.out.1 B4) (a_c ag.out.2 B4);have aq:Hid (OwnK .i64 3 U w2.heap.size vj JL):=ap.out.1.up B4;obtain ⟨g,hg⟩:∃ g,w9.heap.size=g:=⟨_,rfl⟩
 rw [hg] at av;have Hg:Hid (W0.heap.size<=g/\w2.heap.size<=g/\g < U.heap.size/\w9.heap.size=g):=⟨by rw [<- hg];exact ag.out.2.size,by rw [<- hg];exact ap.out.2.size,av.out.size,hg⟩
 have aK:∀ W,Below U.heap.size U W->Calls Tryz.prog 122 #[.slice p n c,vj] W fun e M=>∃ v',e = .returned v'/\OwnK .i64 3 M U.heap.size v' (itl (b_X a J))/\Below W.heap.size W M:=fun W L=>by
  refine (e_v _ _ a J D.out.1.ga D.out.1.gJ (g_D D.out.1.ja) W (H0.out.1.up (a_c ab.out.1 L)) ?_).mono ?_
  ·rw [D.out.2.1];exact (aq.out.up L).nums
  ·rintro e M ⟨v',rfl,h,hb⟩;exact ⟨v',rfl,h.low L.size,hb⟩
 have aU:∀ W,Below U.heap.size U W->Calls Tryz.prog 122 #[.slice p3 n3 c3,vj] W fun e M=>∃ v',e = .returned v'/\OwnK .i64 3 M U.heap.size v' (itl (b_X b J))/\Below W.heap.size W M:=fun W L=>by
  refine (e_v _ _ b J D.out.1.gb D.out.1.gJ (g_D D.out.1.jb) W (H0.out.2.2.1.up (a_c ab.out.1 L)) ?_).mono ?_
  ·rw [D.out.2.1];exact (aq.out.up L).nums
  ·rintro e M ⟨v',rfl,h,hb⟩;exact ⟨v',rfl,h.low L.size,hb⟩
 have xa:=XA.out.up ab.out.2;have xb:=XB.out.up ab.out.2;obtain ⟨a0,a1,_,_⟩:=xa;obtain ⟨b0,b1,_,_⟩:=xb;have z0:=a_a a0;have z1:=a_a b0;clear B4;haveI:Nonempty World:=⟨w⟩
 go_wp2_with fail
 refine rel [⟨3,41,fun v W=>OwnK .i64 3 W U.heap.size v (itl (b_X a J))⟩,⟨7,45,fun v W=>OwnK .i64 3 W U.heap.size v (itl (b_X b J))⟩] 8 76 (by kernel_rfl) rfl rfl (by kernel_rfl) (by rfl) ?_ ?_
 ·intro e he v W W' h hb;simp only [List.mem_cons,List.not_mem_nil,or_false] at he;rcases he with rfl|rfl
  ·exact OwnK.up h hb
  ·exact OwnK.up h hb
 apply Exists.intro;refine ⟨fun x=>?_,?_,?_⟩
 ·simp only [List.take_succ_cons,List.take_zero]
  iterate 3
   refine a_l rfl rfl ?_;apply Exists.intro;refine ⟨fun F hF hf K hK=>?_,?_⟩
   ·have hFc:=hF.cell;have hFf:=hF.frozen
    go_big_quiet_op
    exact hK
   (try simp only [c_K])
  refine a_q rfl rfl ?_ ?_
  ·intro F hF hf d;have hFc:=hF.cell;have hFf:=hF.frozen;simp [a_k,a_f,go_sem];refine (aK _ (hF.below d)).mono ?_;rintro e' w8 ⟨v8,rfl,h8,aF⟩;exact ⟨_,rfl,h8,aF⟩
  iterate 3
   (try simp only [c_K])
   refine a_l rfl rfl ?_;apply Exists.intro;refine ⟨fun F hF hf K hK=>?_,?_⟩
   ·have hFc:=hF.cell;have hFf:=hF.frozen
    go_big_quiet_op
    exact hK
  (try simp only [c_K])
  refine a_q rfl rfl ?_ ?_
  ·intro F hF hf d;have hFc:=hF.cell;have hFf:=hF.frozen;simp [a_k,a_f,go_sem];refine (aU _ (hF.below d)).mono ?_;rintro e' w8 ⟨v8,rfl,h8,aF⟩;exact ⟨_,rfl,h8,aF⟩
  (try simp only [c_K])
  refine b_c ?_;exact rfl
 ·exact fun x=>rfl
 ·intro w5 xs ac hf;simp only [List.drop_succ_cons,List.drop_zero];have ar:=hf _ List.mem_cons_self;have ao:=hf _ (List.mem_cons_of_mem _ List.mem_cons_self);obtain ⟨fa,aP⟩:∃ fa,xs 3=fa:=⟨_,rfl⟩
  obtain ⟨fb,aS⟩:∃ fb,xs 7=fb:=⟨_,rfl⟩
  simp only [aP,aS] at ar ao ⊢;clear aP aS hf;obtain ⟨pa,na,ca,rfl,aj⟩:=ar.nums.lst;obtain ⟨pb,O,cb,rfl,ai⟩:=ao.nums.lst;obtain rfl:na=N:=by rw [<- aj.out.1,a_v,d_Q,D.out.2.2.2.1]
  obtain rfl:O=na:=by rw [<- ai.out.1,a_v,d_Q,D.out.2.2.2.1]
  have am:Hid (OwnK .i64 3 w5 U.heap.size (.slice pa O ca) (itl (b_X a J))/\OwnK .i64 3 w5 U.heap.size (.slice pb O cb) (itl (b_X b J))/\Below U.heap.size U w5):=⟨ar,ao,ac⟩
  have au:=a_N (a_c ab.out.1 ac) (a_c ab.out.2 ac);have aV:=XA.out.up au.out.2;have aL:=XB.out.up au.out.2;have aX:=XR.out.up au.out.2;have aA:Hid (Cel w5 w.heap.size (.slice p n c) (.slice p2 n2 c2)/\Cel w5 (w.heap.size+1) (.slice p3 n3 c3) (.slice p4 n4 c4)/\Cel w5 (w.heap.size+2) (.slice none 0 0) (.slice none 0 0)):=⟨aV,aL,aX⟩
  have hz:=a_a XR.out.1
  have a3:Hid (OwnK .i64 48 w5 g (.slice (some ⟨g,0,none⟩) O O) (b_I V 0)):=by
   show OwnK _ _ _ _ _ _;rw [a_1,D.out.2.2.2.2];exact av.out.up ac
  have aO:Hid (OwnK .i64 3 w5 w2.heap.size vj JL):=aq.out.up ac;have Hz:Hid (w.heap.size+2 < W0.heap.size):=hz;rw [hg];clear ar ao ac aj ai aV aL aX a0 a1 b0 b1 z0 z1 aK aU av aq hg hz;go_wp2_with fail
  go_loopg [48] O (fun gg i wr=>∃ (k:Nat),k<=O/\gg=O - k/\i = .int .i64 (k:Int)/\Hid (OwnK .i64 48 wr g (.slice (some ⟨g,0,none⟩) O O) (b_I V k))/\Hid (Below w.heap.size w wr/\Stay g w5 wr))
  case atStart=>exact ⟨0,by omega,by omega,by first|rfl|simp,a3,au.out.1,Stay.refl _ _⟩
  case round=>
   obtain ⟨k,hk,hg,rfl,aH,H⟩:=hrel;obtain ⟨R1,a2⟩:∃ R1:World,R1=wr:=⟨_,rfl⟩
   subst a2;by_cases ae:k < O
   ·have a9:(k:Int) < (O:Int):=by omega
    have a4:=(am.out.1.nums.stay H.out.2 (am.out.1.off Hg.out.2.2.1)).lst;have aZ:=(am.out.2.1.nums.stay H.out.2 (am.out.2.1.off Hg.out.2.2.1)).lst;obtain ⟨_,_,_,e4,aj⟩:=a4;cases e4;obtain ⟨_,_,_,e4,ai⟩:=aZ;cases e4;obtain ⟨qa,oa,rfl,aG⟩:=aj.out.2 k ae;obtain ⟨qb,ob,rfl,I⟩:=ai.out.2 k ae;have ad:k < a_e J:=by rw [D.out.2.2.2.1];exact ae
    rw [a_O,f_p D.out.1.ga D.out.1.gJ D.out.1.fa D.out.1.ja k ad] at aG;rw [a_O,f_p D.out.1.gb D.out.1.gJ D.out.1.fb D.out.1.jb k ad] at I;have ia:=g_C D.out.1.ga.2.1 D.out.1.gJ.2.1 D.out.1.fa D.out.1.ja k ad;have ib:=g_C D.out.1.gb.2.1 D.out.1.gJ.2.1 D.out.1.fb D.out.1.jb k ad;obtain ⟨_,_,_,e4,HX⟩:=(H0.out.2.1.up H.out.1).lst;cases e4;obtain ⟨_,_,_,e4,HY⟩:=(H0.out.2.2.2.up H.out.1).lst;cases e4;obtain ⟨i,ei⟩:∃ i,b_U a J k=i:=⟨_,rfl⟩
    obtain ⟨j,ej⟩:∃ j,b_U b J k=j:=⟨_,rfl⟩
    rw [ei] at aG ia;rw [ej] at I ib;rw [<- D.out.1.lx,HX.out.1] at ia;rw [<- D.out.1.ly,HY.out.1] at ib;obtain ⟨qx,ox,rfl,aJ⟩:=HX.out.2 i ia;obtain ⟨qy,oy,rfl,aN⟩:=HY.out.2 j ib;have a8:(i:Int) < (n2:Int):=by omega
    have bb:(j:Int) < (n4:Int):=by omega
    have rx:=HR.out.1.in i (by rw [HX.out.1];exact ia);have ry:=HR.out.2.in j (by rw [HY.out.1];exact ib);obtain ⟨X,eX⟩:∃ X,x.getD i 0=X:=⟨_,rfl⟩
    obtain ⟨Y,eY⟩:∃ Y,y.getD j 0=Y:=⟨_,rfl⟩
    rw [eX] at aJ rx;rw [eY] at aN ry;obtain ⟨Z,eZ⟩:∃ Z,op X Y=Z:=⟨_,rfl⟩
    have HZ:Hid (V.getD k 0=Z):=by
     show _=_;rw [<- D.out.2.2.1,a_J _ _ _ _ ad,ei,ej,eX,eY,eZ]
    have cz:∀ W,Calls Tryz.prog K #[.int .i64 X,.int .i64 Y] W fun e M=>e = .returned (.int .i64 Z)/\M=W:=fun W=>by rw [<- eZ];exact aY.out X Y rx ry W
    have ay:w.heap.size≠g:=by have:=Hz.out;have:=Hg.out.1;omega
    have ax:w.heap.size+1≠g:=by have:=Hz.out;have:=Hg.out.1;omega
    obtain ⟨a0,a1,_,_⟩:=aA.out.1.stay H.out.2 ay;obtain ⟨b0,b1,_,_⟩:=aA.out.2.1.stay H.out.2 ax;have z0:=a_a a0;have z1:=a_a b0;have z2:=a_a aG;have z3:=a_a I;have z4:=a_a aJ;have z5:=a_a aN;have z6:=aH.out.size;have Hk:Hid (k < V.length):=by show _ < _;rw [D.out.2.2.2.2];exact ae
    clear eX eY eZ ei ej aj ai HX HY ay ax ad ia ib;go_wp2_with fail
    refine j_B 21 76 (by kernel_rfl) rfl rfl (by kernel_rfl) ?_;apply Exists.intro;refine ⟨?_,?_⟩
    ·intro F hF;have hFc:=hF.cell;have hFf:=hF.frozen;simp only [List.take_succ_cons,List.take_zero,List.eraseIdx_cons_succ,List.eraseIdx_cons_zero]
     repeat (go_big_quiet_step ((rw [aI.out];exact ⟨rfl,hF.same (cz _)⟩)))
     refine wpQuiet_nil ?_;exact rfl
    ·intro W1 I;simp only [List.drop_succ_cons,List.drop_zero];have aC:=aH.out.up I;obtain ⟨a7,ba⟩:=aC.cell (by rw [a_z];exact D.out.2.2.2.2) k ae
     have H5:Hid (OwnK .i64 48 (W1.setCell ⟨g,k,none⟩ (.int .i64 Z)) g (.slice (some ⟨g,0,none⟩) O O) (b_I V (k+1))):=by
      have:=aC.store (by rw [a_z];exact D.out.2.2.2.2) k Z;rw [<- HZ.out,b_r V k Hk.out] at this;rw [<- HZ.out];exact this
     have a6:w.heap.size<=g:=by have:=Hz.out;have:=Hg.out.1;omega
     have H6:Hid (Below w.heap.size w (W1.setCell ⟨g,k,none⟩ (.int .i64 Z))/\Stay g w5 (W1.setCell ⟨g,k,none⟩ (.int .i64 Z))):=⟨(a_c H.out.1 I).setCell (p:=⟨g,k,none⟩) a6 _,(H.out.2.up I).set _ _⟩
     clear aC I cz z0 z1 z2 z3 z4 z5 z6 a0 a1 b0 b1;go_wp2;go_roundg (O - (k+1))
     case measure=>omega
     case rel=>exact ⟨k+1,by omega,rfl,by first|rfl|simp,H5,H6⟩
   ·obtain rfl:k=O:=by omega
    obtain ⟨pj,nj,cj,rfl,_⟩:=aO.out.nums.lst;have aQ:w.heap.size+2≠g:=by have:=Hz.out;have:=Hg.out.1;omega
    have xr:=aA.out.2.2.stay H.out.2 aQ;have ah:=aH.out;rw [<- D.out.2.2.2.2,b_h,D.out.2.2.2.2] at ah;have aR:=aO.out.stay H.out.2 (ap.out.1.off_new (by rw [Hg.out.2.2.2];exact Nat.le_refl _))
    have HF:Hid (TRes (set2 R1 (w.heap.size+2) (.slice pj nj cj) (.slice (some ⟨g,0,none⟩) k k)) w.heap.size (.agg #[.slice pj nj cj,.slice (some ⟨g,0,none⟩) k k]) JL V/\Below w.heap.size w (set2 R1 (w.heap.size+2) (.slice pj nj cj) (.slice (some ⟨g,0,none⟩) k k))):=by
     refine ⟨(TRes.set (aR.low aa.out.2.size) (ah.low Hg.out.1) Hz.out).low aD.out.size,a_j H.out.1 _ (by omega) _ _⟩
    have cf:=xr.set (.slice pj nj cj) (.slice (some ⟨g,0,none⟩) k k);obtain ⟨r0,r1,r2,r3⟩:=xr;obtain ⟨y0,y1,_,_⟩:=cf;clear ah aR;go_wp2;exact bodyPost_ret (v:=.tuple #[.agg #[.slice pj nj cj,.slice (some ⟨g,0,none⟩) k k],.int .i64 0]) (by simp [results,Tryz.results106,go_sem,y0,y1]) rfl ⟨_,rfl,HF.out⟩
theorem g_U (K:FuncId) (D:∀ args W,(callFunc K args).run Tryz.prog W = .ok (.enter K args) W) (op:Int->Int->Int) (cK:∀ a b,Fx.InR a->Fx.InR b->∀ W,Calls Tryz.prog K #[.int .i64 a,.int .i64 b] W fun e U=>e = .returned (.int .i64 (op a b))/\U=W)
  (p V H O:Option Addr) (n c R M I c3 L c4:Nat) (d x d' y:List Int) (hd:RI d) (hx:RI x) (E:RI d') (hy:RI y) (w:World) (h1:Nums .i64 w (.slice p n c) d) (h2:Nums .i64 w (.slice V R M) x) (h3:Nums .i64 w (.slice H I c3) d') (h4:Nums .i64 w (.slice O L c4) y):
  Calls Tryz.prog 106 #[.agg #[.slice p n c,.slice V R M],.agg #[.slice H I c3,.slice O L c4],.func (.func K) #[] #[]] w fun e U=>∃ v',e = .returned (.tuple #[v',.int .i64 (b_C d x d' y)])/\TRes U w.heap.size v' (b_J d x d' y) (b_Z op d x d' y)/\Below w.heap.size w U:=by
 by_cases h:isP d x/\isP d' y/\b_x d d'=0
 ·obtain ⟨a,b,J,hJ⟩:=n_3 ⟨h.1,h.2.1⟩ h.2.2;exact n_5 K D op cK p V H O n c R M I c3 L c4 d x d' y hd hx E hy w h1 h2 h3 h4 a b J hJ
 ·exact q_d K D op cK p V H O n c R M I c3 L c4 d x d' y hd hx E hy w h1 h2 h3 h4 h
theorem g_V (p p2 p3 p4:Option Addr) (n c n2 c2 n3 c3 n4 c4:Nat) (d x d' y:List Int) (hd:RI d) (hx:RI x) (U:RI d') (hy:RI y) (w:World) (h1:Nums .i64 w (.slice p n c) d) (h2:Nums .i64 w (.slice p2 n2 c2) x) (h3:Nums .i64 w (.slice p3 n3 c3) d') (h4:Nums .i64 w (.slice p4 n4 c4) y):
  Calls Tryz.prog 79 #[.agg #[.slice p n c,.slice p2 n2 c2],.agg #[.slice p3 n3 c3,.slice p4 n4 c4]] w fun e O=>∃ v',e = .returned (.tuple #[v',.int .i64 (b_C d x d' y)])/\TRes O w.heap.size v' (b_J d x d' y) (b_Z (fun a b=>Fx.hold (a+b)) d x d' y)/\Below w.heap.size w O:=by
 have cE:∀ W,Below w.heap.size w W->Calls Tryz.prog 106 #[.agg #[.slice p n c,.slice p2 n2 c2],.agg #[.slice p3 n3 c3,.slice p4 n4 c4],.func (.func 107) #[] #[]] W fun e O=>∃ v',e = .returned (.tuple #[v',.int .i64 (b_C d x d' y)])/\TRes O W.heap.size v' (b_J d x d' y) (b_Z (fun a b=>Fx.hold (a+b)) d x d' y)/\Below W.heap.size W O:=
  fun W hW=>g_U _ (fun args W=>by simp [go_sem]) _ (fun a b ha hb W=>Fx.add_any a b ha hb W) p p2 p3 p4 n c n2 c2 n3 c3 n4 c4 d x d' y hd hx U hy W (h1.up hW) (h2.up hW) (h3.up hW) (h4.up hW)
 obtain ⟨E,eE⟩:∃ E,b_C d x d' y=E:=⟨_,rfl⟩
 obtain ⟨D,eD⟩:∃ D,b_J d x d' y=D:=⟨_,rfl⟩
 obtain ⟨V,eV⟩:∃ V,b_Z (fun a b=>Fx.hold (a+b)) d x d' y=V:=⟨_,rfl⟩
 rw [eE,eD,eV] at cE ⊢;clear eE eD eV h1 h2 h3 h4 hd hx U hy;go_enter Tryz.func79,Tryz.ntmps79;go_wp2_with fail
 generalize I:World.alloc _ _=W0;have H:Hid (Below w.heap.size w W0):=by show Below _ _ _;rw [<- I];go_grown
 have XR:Hid (Cel W0 (w.heap.size+2) (.slice none 0 0) (.slice none 0 0)):=a_F I (by simp [go_sem]);clear I;refine (cE W0 H.out).mono ?_;rintro e w1 ⟨v1,rfl,⟨s1,t1,rfl,L,M⟩,J⟩;obtain ⟨ps,ns,R,rfl,_⟩:=L.nums.lst;obtain ⟨pt,nt,ct,rfl,_⟩:=M.nums.lst;have xr:=XR.out.up J;have BF:=a_j (a_c H.out J) (w.heap.size+2) (by omega) (.slice ps ns R) (.slice pt nt ct);have HF:Hid (TRes (set2 w1 (w.heap.size+2) (.slice ps ns R) (.slice pt nt ct)) w.heap.size (.agg #[.slice ps ns R,.slice pt nt ct]) D V):=(TRes.set L M (a_a XR.out.1)).low H.out.size;have cf:=xr.set (.slice ps ns R) (.slice pt nt ct);obtain ⟨r0,r1,r2,r3⟩:=xr;obtain ⟨y0,y1,_,_⟩:=cf;clear L M J;go_wp2;exact bodyPost_ret (v:=.tuple #[.agg #[.slice ps ns R,.slice pt nt ct],.int .i64 E]) (by simp [results,Tryz.results79,go_sem,y0,y1]) rfl ⟨_,rfl,HF.out,BF⟩
theorem n_6 (p p2 p3 p4:Option Addr) (n c n2 c2 n3 c3 n4 c4:Nat) (d x d' y:List Int) (hd:RI d) (hx:RI x) (U:RI d') (hy:RI y) (w:World) (h1:Nums .i64 w (.slice p n c) d) (h2:Nums .i64 w (.slice p2 n2 c2) x) (h3:Nums .i64 w (.slice p3 n3 c3) d') (h4:Nums .i64 w (.slice p4 n4 c4) y):
  Calls Tryz.prog 108 #[.agg #[.slice p n c,.slice p2 n2 c2],.agg #[.slice p3 n3 c3,.slice p4 n4 c4]] w fun e O=>∃ v',e = .returned (.tuple #[v',.int .i64 (b_C d x d' y)])/\TRes O w.heap.size v' (b_J d x d' y) (b_Z (fun a b=>Fx.hold (a - b)) d x d' y)/\Below w.heap.size w O:=by
 have cE:∀ W,Below w.heap.size w W->Calls Tryz.prog 106 #[.agg #[.slice p n c,.slice p2 n2 c2],.agg #[.slice p3 n3 c3,.slice p4 n4 c4],.func (.func 137) #[] #[]] W fun e O=>∃ v',e = .returned (.tuple #[v',.int .i64 (b_C d x d' y)])/\TRes O W.heap.size v' (b_J d x d' y) (b_Z (fun a b=>Fx.hold (a - b)) d x d' y)/\Below W.heap.size W O:=
  fun W hW=>g_U _ (fun args W=>by simp [go_sem]) _ (fun a b ha hb W=>Fx.sub_any a b ha hb W) p p2 p3 p4 n c n2 c2 n3 c3 n4 c4 d x d' y hd hx U hy W (h1.up hW) (h2.up hW) (h3.up hW) (h4.up hW)
 obtain ⟨E,eE⟩:∃ E,b_C d x d' y=E:=⟨_,rfl⟩
 obtain ⟨D,eD⟩:∃ D,b_J d x d' y=D:=⟨_,rfl⟩
 obtain ⟨V,eV⟩:∃ V,b_Z (fun a b=>Fx.hold (a - b)) d x d' y=V:=⟨_,rfl⟩
 rw [eE,eD,eV] at cE ⊢;clear eE eD eV h1 h2 h3 h4 hd hx U hy;go_enter Tryz.func108,Tryz.ntmps108;go_wp2_with fail
 generalize I:World.alloc _ _=W0;have H:Hid (Below w.heap.size w W0):=by show Below _ _ _;rw [<- I];go_grown
 have XR:Hid (Cel W0 (w.heap.size+2) (.slice none 0 0) (.slice none 0 0)):=a_F I (by simp [go_sem]);clear I;refine (cE W0 H.out).mono ?_;rintro e w1 ⟨v1,rfl,⟨s1,t1,rfl,L,M⟩,J⟩;obtain ⟨ps,ns,R,rfl,_⟩:=L.nums.lst;obtain ⟨pt,nt,ct,rfl,_⟩:=M.nums.lst;have xr:=XR.out.up J;have BF:=a_j (a_c H.out J) (w.heap.size+2) (by omega) (.slice ps ns R) (.slice pt nt ct);have HF:Hid (TRes (set2 w1 (w.heap.size+2) (.slice ps ns R) (.slice pt nt ct)) w.heap.size (.agg #[.slice ps ns R,.slice pt nt ct]) D V):=(TRes.set L M (a_a XR.out.1)).low H.out.size;have cf:=xr.set (.slice ps ns R) (.slice pt nt ct);obtain ⟨r0,r1,r2,r3⟩:=xr;obtain ⟨y0,y1,_,_⟩:=cf;clear L M J;go_wp2;exact bodyPost_ret (v:=.tuple #[.agg #[.slice ps ns R,.slice pt nt ct],.int .i64 E]) (by simp [results,Tryz.results108,go_sem,y0,y1]) rfl ⟨_,rfl,HF.out,BF⟩
theorem j_I (p p2 p3 p4:Option Addr) (n c n2 c2 n3 c3 n4 c4:Nat) (d x d' y:List Int) (hd:RI d) (hx:RI x) (U:RI d') (hy:RI y) (w:World) (h1:Nums .i64 w (.slice p n c) d) (h2:Nums .i64 w (.slice p2 n2 c2) x) (h3:Nums .i64 w (.slice p3 n3 c3) d') (h4:Nums .i64 w (.slice p4 n4 c4) y):
  Calls Tryz.prog 109 #[.agg #[.slice p n c,.slice p2 n2 c2],.agg #[.slice p3 n3 c3,.slice p4 n4 c4]] w fun e O=>∃ v',e = .returned (.tuple #[v',.int .i64 (b_C d x d' y)])/\TRes O w.heap.size v' (b_J d x d' y) (b_Z (Fx.mulI) d x d' y)/\Below w.heap.size w O:=by
 have cE:∀ W,Below w.heap.size w W->Calls Tryz.prog 106 #[.agg #[.slice p n c,.slice p2 n2 c2],.agg #[.slice p3 n3 c3,.slice p4 n4 c4],.func (.func 123) #[] #[]] W fun e O=>∃ v',e = .returned (.tuple #[v',.int .i64 (b_C d x d' y)])/\TRes O W.heap.size v' (b_J d x d' y) (b_Z (Fx.mulI) d x d' y)/\Below W.heap.size W O:=
  fun W hW=>g_U _ (fun args W=>by simp [go_sem]) _ (fun a b ha hb W=>Fx.mul_any a b ha hb W) p p2 p3 p4 n c n2 c2 n3 c3 n4 c4 d x d' y hd hx U hy W (h1.up hW) (h2.up hW) (h3.up hW) (h4.up hW)
 obtain ⟨E,eE⟩:∃ E,b_C d x d' y=E:=⟨_,rfl⟩
 obtain ⟨D,eD⟩:∃ D,b_J d x d' y=D:=⟨_,rfl⟩
 obtain ⟨V,eV⟩:∃ V,b_Z (Fx.mulI) d x d' y=V:=⟨_,rfl⟩
 rw [eE,eD,eV] at cE ⊢;clear eE eD eV h1 h2 h3 h4 hd hx U hy;go_enter Tryz.func109,Tryz.ntmps109;go_wp2_with fail
 generalize I:World.alloc _ _=W0;have H:Hid (Below w.heap.size w W0):=by show Below _ _ _;rw [<- I];go_grown
 have XR:Hid (Cel W0 (w.heap.size+2) (.slice none 0 0) (.slice none 0 0)):=a_F I (by simp [go_sem]);clear I;refine (cE W0 H.out).mono ?_;rintro e w1 ⟨v1,rfl,⟨s1,t1,rfl,L,M⟩,J⟩;obtain ⟨ps,ns,R,rfl,_⟩:=L.nums.lst;obtain ⟨pt,nt,ct,rfl,_⟩:=M.nums.lst;have xr:=XR.out.up J;have BF:=a_j (a_c H.out J) (w.heap.size+2) (by omega) (.slice ps ns R) (.slice pt nt ct);have HF:Hid (TRes (set2 w1 (w.heap.size+2) (.slice ps ns R) (.slice pt nt ct)) w.heap.size (.agg #[.slice ps ns R,.slice pt nt ct]) D V):=(TRes.set L M (a_a XR.out.1)).low H.out.size;have cf:=xr.set (.slice ps ns R) (.slice pt nt ct);obtain ⟨r0,r1,r2,r3⟩:=xr;obtain ⟨y0,y1,_,_⟩:=cf;clear L M J;go_wp2;exact bodyPost_ret (v:=.tuple #[.agg #[.slice ps ns R,.slice pt nt ct],.int .i64 E]) (by simp [results,Tryz.results109,go_sem,y0,y1]) rfl ⟨_,rfl,HF.out,BF⟩
end Go.Proofs.YtcpbhhlepdgdkaaGreatDoor.Wd
