/- The reference's numerals. · Bytes of tex -/
import Derived.Test.YtihjnbbhpojnpaaGreatDoorQ16
import Derived.Lib.Strings
set_option linter.unusedVariables false
set_option linter.unusedSimpArgs false
set_option maxHeartbeats 16000000
set_option maxRecDepth 16000
namespace Go.Proofs.YtihjnbbhpojnpaaGreatDoor.Rf
open Go.RowKit Fx
theorem nDig_le:∀ (k n:Nat),n < 10 ^ (k+1)→Lib.nDigits n≤k+1
 | 0,n,h=>by rw [Lib.nDigits_small (by simpa using h)];omega
 | k+1,n,h=>by
  by_cases h10:n < 10
  ·rw [Lib.nDigits_small h10];omega
  ·rw [Lib.nDigits_big h10]
   have:=nDig_le k (n / 10) (by rw [Nat.pow_succ] at h;omega)
   omega
theorem app_mk (a b:List UInt8):(⟨a.toArray⟩:ByteArray)++⟨b.toArray⟩=⟨(a++b).toArray⟩:=by
 apply ByteArray.ext
 rw [ByteArray.data_append]
 simp
/-- One byte, as a string. -/
def b1 (c:Int):ByteArray:=⟨#[UInt8.ofNat c.toNat]⟩
theorem conv1 (W:World) (b:Nat) (c:Int) (h0:0≤c) (h1:c < 256) (h:W.cell? ⟨b,0,none⟩=some (.int .u8 c)):
  Sem.run Tryz.prog (convert 124 9 (.slice (some ⟨b,0,none⟩) 1 1)) W = .ok (.string (b1 c)) W:=by
 have hx:((UInt8.ofNat c.toNat).toNat:Int)=c:=by
  rw [UInt8.toNat_ofNat']
  omega
 exact run_convert_bytes_back (P:=Tryz.prog) W 124 9 5 ⟨b,0,none⟩ 1 [UInt8.ofNat c.toNat] Tryz.underlying124 Tryz.underlying5 Tryz.underlying9 (fun j hj=>by
  have:j=0:=by simpa using hj
  subst this
  show W.cell? ⟨b,0,none⟩=some (.int .u8 ((UInt8.ofNat c.toNat).toNat:Int))
  rw [hx]
  exact h)
theorem digits_one (n:Int) (u:Nat) (en:Hid (n=(u:Int))) (hn:0≤n∧n < 10) (w:World):
  Calls Tryz.prog 42 #[.int .u64 n] w fun e w'=>e = .returned (.string (b1 (48+n)))∧Below w.heap.size w w':=by
 have hcv:=fun W b=>conv1 W b (48+n) (by omega) (by omega)
 go_enter Tryz.func42,Tryz.ntmps42
 go_wp2
 go_ret
 exact ⟨rfl,by go_grown⟩
theorem digits_more (n:Int) (hn:10≤n∧n < 18446744073709551616) (s:ByteArray) (hs:s.size≤20)
  (q c:Int) (r1:IntKind.u64.wrap (n.tdiv 10)=q) (r2:IntKind.u8.wrap (IntKind.u64.wrap (48+n.tmod 10))=c) (hc:48≤c∧c≤57)
  (ih:Hid (∀ w,Calls Tryz.prog 42 #[.int .u64 q] w fun e w'=>e = .returned (.string s)∧Below w.heap.size w w')) (w:World):
  Calls Tryz.prog 42 #[.int .u64 n] w fun e w'=>e = .returned (.string (s++b1 c))∧Below w.heap.size w w':=by
 have hcv:=fun W b=>conv1 W b c (by omega) (by omega)
 have hsz:(b1 c).size≤1:=Nat.le_refl _
 go_enter Tryz.func42,Tryz.ntmps42
 go_wp2_with fail
 go_region_with (go_at_call 42;refine (ih.out _).mono ?_;rintro e w1 ⟨rfl,hb⟩;obtain ⟨hcell,hfroz⟩:=Wd.bcell hb;simp only [World.size_alloc,World.size_drew] at hcell hfroz;have hB:Below w.heap.size w w1:=Below.trans (by go_grown) (hb.mono (by simp;try omega));have hsz1:=hb.size;simp at hsz1)
 all_goals
  go_wp2
  go_ret
  exact ⟨rfl,by go_grown⟩
theorem b1_digit (k:Nat) (h:k < 10):b1 (48+(k:Int))=⟨#[UInt8.ofNat (48+k)]⟩:=by
 unfold b1
 rw [show (48+(k:Int)).toNat=48+k by omega]
/-- The reference's numeral of a number. -/
theorem digits_ref (u:Nat):u < 18446744073709551616→∀ w:World,
  Calls Tryz.prog 42 #[.int .u64 (u:Int)] w fun e w'=>e = .returned (.string ⟨(Lib.decDigits u).toArray⟩)∧Below w.heap.size w w':=by
 induction u using Nat.strongRecOn with
 | _ u ih=>
  intro hu w
  by_cases h:u < 10
  ·have c:=digits_one (u:Int) u rfl (by omega) w
   rw [b1_digit u h] at c
   rw [Lib.decDigits_one h]
   exact c
  ·have hsz:(⟨(Lib.decDigits (u / 10)).toArray⟩:ByteArray).size≤20:=by
    show (Lib.decDigits (u / 10)).toArray.size≤20
    rw [List.size_toArray,Lib.decDigits_length]
    exact nDig_le 19 _ (by omega)
   have c:=digits_more (u:Int) (by omega) ⟨(Lib.decDigits (u / 10)).toArray⟩ hsz ((u / 10:Nat):Int) (48+((u % 10:Nat):Int))
    (by rw [IntKind.wrap_u64,Int.tdiv_eq_ediv_of_nonneg (by omega)];omega)
    (by rw [IntKind.wrap_u8,IntKind.wrap_u64,Int.tmod_eq_emod_of_nonneg (by omega)];omega) (by omega)
    (fun w=>ih (u / 10) (by omega) (by omega) w) w
   rw [b1_digit (u % 10) (by omega),show (⟨#[UInt8.ofNat (48+u % 10)]⟩:ByteArray)=⟨([UInt8.ofNat (48+u % 10)]:List UInt8).toArray⟩ from rfl,app_mk] at c
   rw [Lib.decDigits,dif_neg h]
   exact c
theorem digits_at (n:Int) (u:Nat) (s:ByteArray) (en:n=(u:Int)) (hu:u < 18446744073709551616) (es:s=⟨(Lib.decDigits u).toArray⟩) (w:World):
  Calls Tryz.prog 42 #[.int .u64 n] w fun e w'=>e = .returned (.string s)∧Below w.heap.size w w':=by
 subst en es
 exact digits_ref u hu w
theorem num_any (x:Int) (hx:0≤x∧x≤9999) (w:World):Calls Tryz.prog 23 #[.int .i64 x] w fun e w'=>e = .returned (.string (Wd.dgB x))∧Below w.heap.size w w':=by
 have cD:=digits_at x x.toNat (Wd.dgB x) (by omega) (by omega) rfl w
 obtain ⟨D,eD⟩:∃ D,Wd.dgB x=D:=⟨_,rfl⟩
 rw [eD] at cD ⊢
 clear eD
 go_enter Tryz.func23,Tryz.ntmps23
 go_wp2_with fail
 refine cD.mono ?_
 rintro e w1 ⟨rfl,hB⟩
 go_wp2
 go_ret
 exact ⟨rfl,hB⟩
end Go.Proofs.YtihjnbbhpojnpaaGreatDoor.Rf
namespace Go.Proofs.YtihjnbbhpojnpaaGreatDoor.Wd
open Go.RowKit
theorem ba_ext {a b:ByteArray} (h:a.data.toList=b.data.toList):a=b:=by
 obtain ⟨⟨x⟩⟩:=a
 obtain ⟨⟨y⟩⟩:=b
 simp at h
 rw [h]
theorem ba_app (a b:ByteArray):(a++b).data.toList=a.data.toList++b.data.toList:=by
 obtain ⟨⟨x⟩⟩:=a
 obtain ⟨⟨y⟩⟩:=b
 rw [Rf.app_mk]
theorem size_list (u:ByteArray):u.size=u.data.toList.length:=by
 show u.data.size=_
 simp
end Go.Proofs.YtihjnbbhpojnpaaGreatDoor.Wd
namespace Go.Proofs.YtihjnbbhpojnpaaGreatDoor.Wd
/-- Words, byte by byte: cur is the one under way. -/
def fieldsL:List UInt8→List UInt8→List (List UInt8)
 | [],cur=>if cur = [] then [] else [cur]
 | b :: r,cur=>if blankB b then (if cur = [] then fieldsL r [] else cur :: fieldsL r []) else fieldsL r (cur++[b])
def pieceB (l:List UInt8) (a b:Nat):List UInt8:=(l.drop a).take (b - a)
def curB (l:List UInt8) (st:Option Nat) (n:Nat):List UInt8:=match st with|none=>[]|some a=>pieceB l a n
theorem get_list (s:ByteArray) (n:Nat) (h:n < s.data.toList.length):s.get! n=s.data.toList[n]:=by
 have h':n < s.data.size:=by simpa using h
 show (s.data[n]!)=_
 rw [getElem!_pos s.data n h']
 simp
theorem spans_lt (s:ByteArray):∀ n a,(spansN s n).2=some a→a < n
 | 0,a,h=>by cases h
 | n+1,a,h=>by
  have ih:=spans_lt s n
  have e:spansN s (n+1)=spanStep s n (spansN s n):=rfl
  rw [e] at h
  unfold spanStep at h
  cases hs:(spansN s n).2 with
  | none=>rw [hs] at h;split at h <;> simp at h;omega
  | some c=>
   rw [hs] at h
   have:=ih c hs
   split at h <;> simp at h
   omega
theorem piece_grow (l:List UInt8) (a n:Nat) (h:a≤n) (hn:n < l.length):pieceB l a n++[l[n]]=pieceB l a (n+1):=by
 unfold pieceB
 rw [show n+1 - a=n - a+1 by omega,List.take_add_one]
 congr 1
 rw [List.getElem?_drop,show a+(n - a)=n by omega,List.getElem?_eq_getElem hn]
 rfl
theorem piece_ne (l:List UInt8) (a n:Nat) (h:a < n) (hn:n≤l.length):pieceB l a n≠[]:=by
 intro e
 have:=congrArg List.length e
 simp [pieceB] at this
 omega
theorem fields_at (s:ByteArray):∀ n,n≤s.data.toList.length→fieldsL s.data.toList []=(spansN s n).1.map (fun x=>pieceB s.data.toList x.1 x.2)++fieldsL (s.data.toList.drop n) (curB s.data.toList (spansN s n).2 n)
 | 0,_=>by simp [spansN,curB]
 | n+1,h=>by
  have hn:n < s.data.toList.length:=by omega
  rw [fields_at s n (by omega),List.drop_eq_getElem_cons hn]
  have e:spansN s (n+1)=spanStep s n (spansN s n):=rfl
  have hlt:=spans_lt s n
  rw [e]
  unfold spanStep
  rw [get_list s n hn,fieldsL]
  cases hs:(spansN s n).2 with
  | none=>
   cases hb:blankB s.data.toList[n] with
   | true=>simp [curB]
   | false=>
    have e1:pieceB s.data.toList n (n+1) = [s.data.toList[n]]:=by
     unfold pieceB
     rw [List.drop_eq_getElem_cons hn,show n+1 - n=1 by omega]
     rfl
    simp only [curB,Bool.false_eq_true,if_false,List.nil_append]
    rw [e1]
  | some a=>
   have ha:=hlt a hs
   have hne:=piece_ne s.data.toList a n ha (by omega)
   cases hb:blankB s.data.toList[n] with
   | true=>simp [curB,hne]
   | false=>
    have:=piece_grow s.data.toList a n (by omega) hn
    simp only [curB,Bool.false_eq_true,if_false]
    rw [this]
theorem words_fields (s:ByteArray):(wordsB s).map (·.data.toList)=fieldsL s.data.toList []:=by
 have hz:s.data.toList.length=s.size:=by show s.data.toList.length=s.data.size;rw [Array.length_toList]
 rw [fields_at s s.size (by omega),List.drop_eq_nil_of_le (by omega)]
 unfold wordsB Lib.closeSpans
 have hx:∀ a b,(s.extract a b).data.toList=pieceB s.data.toList a b:=fun a b=>Lib.extract_data s a b
 cases hs:(spansN s s.size).2 with
 | none=>
  simp [fieldsL,curB,hx]
  exact fun _ _ _=>rfl
 | some a=>
  have hne:=piece_ne s.data.toList a s.size (spans_lt s _ a hs) (by omega)
  simp [fieldsL,curB,hx,hne]
  exact ⟨fun _ _ _=>rfl,rfl⟩
def okW (w:ByteArray):Prop:=w.data.toList≠[]∧∀ b∈w.data.toList,blankB b=false
def dgOk (n:Nat):Bool:=decide (numB (dgB (n:Int))=some (n:Int)) && (!(dgB (n:Int)).data.toList.isEmpty && (dgB (n:Int)).data.toList.all fun b=>!blankB b) && decide ((dgB (n:Int)).data.toList.length≤5)
theorem dg_all:(List.range 1025).all dgOk=true:=by decide +kernel
theorem dg_ok {x:Int} (h:0≤x∧x≤1024):numB (dgB x)=some x∧okW (dgB x)∧(dgB x).data.toList.length≤5:=by
 have:=List.all_eq_true.1 dg_all x.toNat (List.mem_range.2 (by omega))
 unfold dgOk at this
 rw [Int.toNat_of_nonneg h.1] at this
 simp only [Bool.and_eq_true,decide_eq_true_eq,Bool.not_eq_true',List.isEmpty_eq_false_iff,List.all_eq_true] at this
 exact ⟨this.1.1,⟨this.1.2.1,fun b hb=>this.1.2.2 b hb⟩,this.2⟩
theorem kind_w (s:ByteArray) (h:kindI s < 5):okW s∧numB s=none∧s.data.toList.length≤5:=by
 have key:∀ u:ByteArray,(!u.data.toList.isEmpty && u.data.toList.all fun b=>!blankB b)=true→okW u:=fun u hu=>by
  simp only [Bool.and_eq_true,Bool.not_eq_true',List.isEmpty_eq_false_iff,List.all_eq_true] at hu
  exact ⟨hu.1,fun b hb=>hu.2 b hb⟩
 rcases kind_cases s with ⟨rfl,e⟩|⟨rfl,e⟩|⟨rfl,e⟩|⟨rfl,e⟩|⟨rfl,e⟩|⟨_,e⟩
 ·exact ⟨key _ (by decide +kernel),by decide +kernel,by decide +kernel⟩
 ·exact ⟨key _ (by decide +kernel),by decide +kernel,by decide +kernel⟩
 ·exact ⟨key _ (by decide +kernel),by decide +kernel,by decide +kernel⟩
 ·exact ⟨key _ (by decide +kernel),by decide +kernel,by decide +kernel⟩
 ·exact ⟨key _ (by decide +kernel),by decide +kernel,by decide +kernel⟩
 ·omega
theorem lyW_ok {l:Ly} (h:LayOk l):∀ u∈lyW l,okW u∧u.data.toList.length≤5:=by
 intro u hu
 unfold lyW at hu
 rcases layOk_cases h with ⟨_,k,h1,h2⟩|⟨_,k,h1,h2⟩|⟨_,k,h1,h2⟩|⟨_,k,h1,h2⟩|⟨_,k,h1,h2⟩ <;> rw [k] at hu <;> simp at hu
 ·rcases hu with rfl|rfl
  ·exact ⟨(kind_w _ h.1).1,(kind_w _ h.1).2.2⟩
  ·exact (dg_ok (by omega)).2
 ·rcases hu with rfl|rfl|rfl
  ·exact ⟨(kind_w _ h.1).1,(kind_w _ h.1).2.2⟩
  ·exact (dg_ok (by omega)).2
  ·exact (dg_ok (by omega)).2
 ·rcases hu with rfl|rfl
  ·exact ⟨(kind_w _ h.1).1,(kind_w _ h.1).2.2⟩
  ·exact (dg_ok (by omega)).2
 ·rcases hu with rfl|rfl
  ·exact ⟨(kind_w _ h.1).1,(kind_w _ h.1).2.2⟩
  ·exact (dg_ok (by omega)).2
 ·subst hu
  exact ⟨(kind_w _ h.1).1,(kind_w _ h.1).2.2⟩
theorem in_rng {d:List Int} (h:InOk d):d.length≤2∧d≠[]∧∀ x∈d,0≤x∧x≤1024:=by
 rcases h with ⟨x,rfl,h⟩|⟨x,y,rfl,h,h2⟩
 ·simp;omega
 ·simp;omega
theorem netW_ok {d:List Int} {ls:List Ly} (hd:InOk d) (hl:∀ l∈ls,LayOk l):∀ w∈netW d ls,okW w∧w.data.toList.length≤5:=by
 intro w hw
 unfold netW at hw
 simp only [List.mem_cons,List.mem_append,List.mem_map,List.mem_flatMap] at hw
 rcases hw with rfl|⟨x,hx,rfl⟩|⟨l,hm,hx⟩
 ·exact ⟨⟨by simp [kIn],fun b hb=>by
   simp [kIn] at hb
   rcases hb with rfl|rfl <;> decide⟩,by simp [kIn]⟩
 ·exact (dg_ok ((in_rng hd).2.2 x hx)).2
 ·exact lyW_ok (hl l hm) w hx
end Go.Proofs.YtihjnbbhpojnpaaGreatDoor.Wd
namespace Go.Proofs.YtihjnbbhpojnpaaGreatDoor.Wd
open Go.RowKit
/-- A slice of layers of the call's own, by its elements' type. -/
def LyE (e:TypeId) (W:World) (B:Nat) (v:Value) (ls:List Ly):Prop:=W.ownsRow B e 3 v ls.length (ls.flatMap lyC)
theorem LyE.rd {e:TypeId} {W:World} {B:Nat} {v:Value} {ls:List Ly} (h:LyE e W B v ls):∃ p c,v = .slice p ls.length c∧LyR 0 W p ls.length ls:=by
 have h':=h
 rcases h.2 with ⟨rfl,h0⟩|⟨g,cap,cur,rfl,hB,h5,h6⟩
 ·exact ⟨none,0,by rw [h0],rfl,fun i hi=>by omega⟩
 ·refine ⟨_,cap,rfl,rfl,fun i hi=>?_⟩
  have hc:∀ k,k < 3→∀ v,(lyC (lyA ls i))[k]?=some v→W.cell? ⟨g,0+i*3+k,none⟩=some v:=fun k hk v hv=>by
   have:=World.ownsRow.cells h' rfl (i*3+k) v ((lyC_at ls i k hi hk).trans hv)
   rw [addr_plus,← Nat.add_assoc] at this
   exact this
  exact ⟨g,0,rfl,hc 0 (by omega) _ rfl,hc 1 (by omega) _ rfl,hc 2 (by omega) _ rfl⟩
theorem LyE.up {e:TypeId} {W W':World} {B:Nat} {v:Value} {ls:List Ly} (h:LyE e W B v ls) (hB:Below W.heap.size W W'):LyE e W' B v ls:=owns_only (S:=[]) h (Only.of hB) (by simp)
theorem layT2:GT Tryz.prog 30 61 3 32:=⟨Tryz.underlying30,by kernel_rfl⟩
theorem alloc3 (w:World) (a b c:Obj):(((w.alloc a).alloc b).alloc c).heap[w.heap.size]?=some a∧(((w.alloc a).alloc b).alloc c).heap[w.heap.size+1]?=some b∧(((w.alloc a).alloc b).alloc c).heap[w.heap.size+2]?=some c∧Below w.heap.size w (((w.alloc a).alloc b).alloc c):=by
 have s1:(w.alloc a).heap.size=w.heap.size+1:=by simp
 have s2:((w.alloc a).alloc b).heap.size=w.heap.size+2:=by simp
 have h1:=heap_alloc_new w a
 have h2:=heap_alloc_new (w.alloc a) b
 have h3:=heap_alloc_new ((w.alloc a).alloc b) c
 rw [s1] at h2
 rw [s2] at h3
 refine ⟨?_,?_,h3,blit (blit (up_alloc _ _) _) _⟩
 ·rw [(up_alloc ((w.alloc a).alloc b) c).block _ (by omega),(up_alloc (w.alloc a) b).block _ (by omega)]
  exact h1
 ·rw [(up_alloc ((w.alloc a).alloc b) c).block _ (by omega)]
  exact h2
theorem take_lyC (ls:List Ly) (k:Nat) (hk:k < ls.length):(ls.take (k+1)).flatMap lyC=(ls.take k).flatMap lyC++[.string (lyA ls k).1,.int .i64 (lyA ls k).2.1,.int .i64 (lyA ls k).2.2]:=by
 have e:lyA ls k=ls[k]:=by unfold lyA;rw [List.getD_eq_getElem?_getD,List.getElem?_eq_getElem hk];rfl
 rw [List.take_succ_eq_append_getElem hk,List.flatMap_append,e]
 simp [lyC]
theorem net_any (p p2:Option Addr) (n c n2 c2:Nat) (ls:List Ly) (hbig:n2≤1073741823) (w:World) (hL:LyR 0 w p2 n2 ls):
  Calls Tryz.prog 8 #[.agg #[.slice p n c,.slice p2 n2 c2]] w fun e w'=>∃ p3 c3,e = .returned (.agg #[.slice p n c,.slice p3 n2 c3])∧LyE 61 w' w.heap.size (.slice p3 n2 c3) ls∧Below w.heap.size w w':=by
 haveI:Nonempty World:=⟨w⟩
 have HL:Hid (LyR 0 w p2 n2 ls):=hL
 clear hL
 go_enter Tryz.func8,Tryz.ntmps8
 go_wp2_with fail
 generalize hW0:World.alloc _ _=W0
 have HX:Hid (W0.heap[w.heap.size]?=some (.cells #[.slice p n c,.slice p2 n2 c2] 26 (0,0))∧W0.heap[w.heap.size+1]?=some (.cells #[.slice none 0 0,.slice none 0 0] 32 (0,0))∧W0.heap[w.heap.size+2]?=some (.cells #[.slice p n c,.slice none 0 0] 32 (0,0))∧Below w.heap.size w W0):=by
  rw [← hW0]
  exact alloc3 w _ _ _
 clear hW0
 go_loopg [4] n2 (fun gg v wr=>∃ (k:Nat) (vL:Value),k≤n2∧gg=n2 - k∧v = .int .i64 (k:Int)∧Hid (wr.heap[w.heap.size]?=some (.cells #[.slice p n c,.slice p2 n2 c2] 26 (0,0))∧wr.heap[w.heap.size+1]?=some (.cells #[.slice none 0 0,.slice none 0 0] 32 (0,0))∧wr.heap[w.heap.size+2]?=some (.cells #[.slice p n c,vL] 32 (0,0))∧Below w.heap.size w wr)∧Hid (wr.ownsRow w.heap.size 61 3 vL k ((ls.take k).flatMap lyC)))
 case atStart=>exact ⟨0,.slice none 0 0,by omega,by omega,rfl,HX,⟨rfl,.inl ⟨rfl,rfl⟩⟩⟩
 case round=>
  obtain ⟨k,vL,hk,hg,rfl,HI,HL9⟩:=hrel
  obtain ⟨pL,cL,rfl⟩:∃ pL cL,vL = .slice pL k cL:=by
   rcases HL9.out.2 with ⟨rfl,h0⟩|⟨g,cap,cur,rfl,_⟩
   ·exact ⟨none,0,by rw [h0]⟩
   ·exact ⟨_,_,rfl⟩
  obtain ⟨⟨b0,_⟩,⟨b1,_⟩⟩:=box_2 HI.out.1
  have kb1:=cell_size b1
  by_cases hkn:k < n2
  ·have hk':(k:Int) < (n2:Int):=by omega
   obtain ⟨q,o,rfl,c0,c1,c2'⟩:=(HL.out.up HI.out.2.2.2).2 k hkn
   have hlen:k < ls.length:=by rw [HL.out.1];exact hkn
   obtain ⟨l,el⟩:∃ l,lyA ls k=l:=⟨_,rfl⟩
   obtain ⟨s,a,b⟩:=l
   have HT:Hid ((ls.take (k+1)).flatMap lyC=(ls.take k).flatMap lyC++[.string s,.int .i64 a,.int .i64 b]):=by
    have:=take_lyC ls k hlen
    rw [el] at this
    exact this
   rw [el] at c0 c1 c2'
   have kc0:=cell_size c0
   have HRW:Hid (∀ z,Value.ownBlock (.slice pL k cL)=some z→z < wr.heap.size):=fun z hz'=>(World.ownsRow.lt HL9.out z hz').2
   have HZ9:Hid (w.heap.size≤wr.heap.size):=HI.out.2.2.2.size
   have HG:Hid (∀ W,wr.grownBy W (Value.ownBlock (.slice pL k cL))→Only [61] wr W∧Below w.heap.size w W):=fun W hW=>⟨grown_only HL9.out hW,Below.grown HI.out.2.2.2 hW HZ9.out fun k hk=>(World.ownsRow.lt HL9.out k hk).1⟩
   have HQ:Hid (∀ W,wr.grownBy W (Value.ownBlock (.slice pL k cL))→W.cell? ⟨w.heap.size+2,1,none⟩=some (.slice pL k cL)∧W.cell? ⟨w.heap.size,1,none⟩=some (.slice (some ⟨q,o,none⟩) n2 c2)∧W.cell? ⟨q,o+k*3,none⟩=some (.string s)∧W.cell? ⟨q,o+k*3+1,none⟩=some (.int .i64 a)∧W.cell? ⟨q,o+k*3+2,none⟩=some (.int .i64 b)):=fun W hW=>by
    obtain ⟨h1,h2⟩:=HG.out W hW
    obtain ⟨q',o',e,d0,d1,d2⟩:=(HL.out.up h2).2 k hkn
    cases e
    rw [el] at d0 d1 d2
    exact ⟨(box_2 (h1.keep HI.out.2.2.1 (by decide))).2.1,(box_2 (h1.keep HI.out.1 (by decide))).2.1,d0,d1,d2⟩
   clear el
   go_wp2
   refine from_region (by kernel_rfl) ?_
   refine seg (fun q W=>match q with|false=>Below wr.heap.size wr W|true=>wr.grownBy W (Value.ownBlock (.slice pL k cL))) (fun W W'=>W.grownBy W' (Value.ownBlock (.slice pL k cL))) 22 [⟨21,36,LitS 61 wr.heap.size [.string s,.int .i64 a,.int .i64 b]⟩,⟨22,37,OwnG 61 3 w.heap.size (k+1) (((ls.take k).flatMap lyC)++[.string s,.int .i64 a,.int .i64 b])⟩] 0 24 40 rfl rfl (by kernel_rfl) (by rfl) ?_ ?_ ?_ ?_ ?_ ?_
   ·intro q W W' h hb
    cases q
    ·exact bstep h hb
    ·exact grown_up h hb
   ·exact ⟨rfl,rfl,rfl,Nat.le_refl _,fun _ _=>rfl⟩
   ·exact .inl ⟨_,List.mem_cons_of_mem _ List.mem_cons_self,rfl⟩
   ·intro e he v W W' h hb
    simp only [List.mem_cons,List.not_mem_nil,or_false] at he
    rcases he with rfl|rfl
    ·exact LitS.up h hb
    ·exact OwnG.up h hb
   ·intro e he hne v W W' h hc ht
    simp only [List.mem_cons,List.not_mem_nil,or_false] at he
    rcases he with rfl|rfl
    ·exact LitS.grown h ht HRW.out
    ·exact absurd rfl hne
   apply Exists.intro
   refine ⟨fun x=>?_,?_,?_⟩
   ·simp only [List.drop_succ_cons,List.drop_zero,List.take_succ_cons,List.take_zero]
    iterate 21
     refine segQuiet rfl rfl ?_
     apply Exists.intro
     refine ⟨fun b' F hF hf K hK=>?_,?_⟩
     ·have hFc:=hF.cls
      have q:=fun d=>HQ.out (F d) (by
       cases b'
       ·exact below_grown _ (hFc d)
       ·exact hFc d)
      have q1:=fun d=>(q d).1
      have q2:=fun d=>(q d).2.1
      have q3:=fun d=>(q d).2.2.1
      have q4:=fun d=>(q d).2.2.2.1
      have q5:=fun d=>(q d).2.2.2.2
      clear hFc q
      go_big_quiet_op
      first|exact hK|(apply Exists.intro;refine ⟨fun _=>?_,?_⟩;(· fail);exact hK)
     (try simp only [Act.put,List.setIfInBounds_toArray,List.set_cons_zero,List.set_cons_succ])
    refine segTold rfl (by decide) rfl ?_ ?_
    ·intro b' F hF hf d
     have hFc:=hF.cls
     have hcls:wr.heap.size≤(F d).heap.size:=by
      cases b'
      ·exact (hFc d).size
      ·exact (hFc d).size
     simp [yieldsR,yieldsUpon,go_sem]
     exact ⟨⟨(F d).heap.size,rfl,heap_alloc_new (F d) _,hcls⟩,up_alloc _ _⟩
    (try simp only [Act.put,List.setIfInBounds_toArray,List.set_cons_zero,List.set_cons_succ])
    refine segBusy rfl rfl rfl ?_ ?_
    ·intro W hW hf
     have h7:=hf _ List.mem_cons_self (by rfl) W
     obtain ⟨g7,e7,hg7,_⟩:=h7
     simp only [] at e7
     obtain ⟨g8,c8,w8,hr8,ho8,hgr8⟩:=appGr layT2 (by decide) (by decide) 30 W w.heap.size (.slice pL k cL) k ((ls.take k).flatMap lyC) (owns_only (S:=[]) HL9.out (Only.of hW) (by simp)) g7 [.string s,.int .i64 a,.int .i64 b] hg7 rfl (fun x hx=>by simp at hx;rcases hx with rfl|rfl|rfl <;> rfl) (by omega) (Nat.le_trans HZ9.out (Below.size hW))
     simp [leavesR,leavesUpon,execOp,resolve,invoke,builtin,Act.eval,e7,hr8,Result.andThen]
     exact ⟨⟨g8,c8,rfl,ho8⟩,grown_trans (below_grown _ hW) hgr8,hgr8⟩
    (try simp only [Act.put,List.setIfInBounds_toArray,List.set_cons_zero,List.set_cons_succ])
    refine segQuiet rfl rfl ?_
    apply Exists.intro
    refine ⟨fun b' F hF hf K hK=>?_,?_⟩
    ·have hFc:=hF.cls
     have q:=fun d=>HQ.out (F d) (by
      cases b'
      ·exact below_grown _ (hFc d)
      ·exact hFc d)
     have q1:=fun d=>(q d).1
     have q2:=fun d=>(q d).2.1
     have q3:=fun d=>(q d).2.2.1
     have q4:=fun d=>(q d).2.2.2.1
     have q5:=fun d=>(q d).2.2.2.2
     clear hFc q
     go_big_quiet_op
     first|exact hK|(apply Exists.intro;refine ⟨fun _=>?_,?_⟩;(· fail);exact hK)
    (try simp only [Act.put,List.setIfInBounds_toArray,List.set_cons_zero,List.set_cons_succ])
    refine segEnd ?_
    exact rfl
   ·exact fun x=>rfl
   ·intro w8 xs8 hC8 hf8
    refine from_list 24 (by kernel_rfl) ?_
    simp only [List.drop_succ_cons,List.drop_zero]
    have h8:=hf8 _ (List.mem_cons_of_mem _ List.mem_cons_self)
    obtain ⟨x5,e5⟩:∃ z,xs8 21=z:=⟨_,rfl⟩
    obtain ⟨x6,e6⟩:∃ z,xs8 22=z:=⟨_,rfl⟩
    simp only [e6] at h8
    simp only [e5,e6]
    obtain ⟨g8,c8,rfl,h8⟩:=h8
    have hO8:=HG.out w8 hC8
    have hv8:=hO8.1.keep HI.out.2.2.1 (by decide)
    obtain ⟨_,⟨r0,r1⟩⟩:=box_2 hv8
    have HF:Hid ((w8.setCell ⟨w.heap.size+2,1,none⟩ (.slice (some ⟨g8,0,none⟩) (k+1) c8)).heap[w.heap.size]?=some (.cells #[.slice p n c,.slice (some ⟨q,o,none⟩) n2 c2] 26 (0,0))∧(w8.setCell ⟨w.heap.size+2,1,none⟩ (.slice (some ⟨g8,0,none⟩) (k+1) c8)).heap[w.heap.size+1]?=some (.cells #[.slice none 0 0,.slice none 0 0] 32 (0,0))∧(w8.setCell ⟨w.heap.size+2,1,none⟩ (.slice (some ⟨g8,0,none⟩) (k+1) c8)).heap[w.heap.size+2]?=some (.cells #[.slice p n c,.slice (some ⟨g8,0,none⟩) (k+1) c8] 32 (0,0))∧Below w.heap.size w (w8.setCell ⟨w.heap.size+2,1,none⟩ (.slice (some ⟨g8,0,none⟩) (k+1) c8))):=by
     refine ⟨?_,?_,?_,hO8.2.setCell (p:=⟨w.heap.size+2,1,none⟩) (Nat.le_add_right _ _) _⟩
     ·rw [heap_set _ _ _ _ _ (by omega)]
      exact hO8.1.keep HI.out.1 (by decide)
     ·rw [heap_set _ _ _ _ _ (by omega)]
      exact hO8.1.keep HI.out.2.1 (by decide)
     ·rw [heap_setat hv8]
      rfl
    have HF2:Hid ((w8.setCell ⟨w.heap.size+2,1,none⟩ (.slice (some ⟨g8,0,none⟩) (k+1) c8)).ownsRow w.heap.size 61 3 (.slice (some ⟨g8,0,none⟩) (k+1) c8) (k+1) ((ls.take (k+1)).flatMap lyC)):=by
     show World.ownsRow _ _ _ _ _ _ _
     rw [HT.out]
     exact owns_only (S:=[32]) h8 (Only.set hv8 (by simp)) (by decide)
    clear hO8 hv8 h8 hf8 hC8 e5 e6
    go_wp2
    go_roundg (n2 - (k+1))
    case measure=>omega
    case rel=>exact ⟨k+1,_,by omega,rfl,by first|rfl|simp,HF,HF2⟩
  ·obtain rfl:k=n2:=by omega
   obtain ⟨⟨d0,d0'⟩,⟨d1,d1'⟩⟩:=box_2 HI.out.2.1
   obtain ⟨⟨f0,_⟩,⟨f1,_⟩⟩:=box_2 HI.out.2.2.1
   have kd:=cell_size d0
   have kf:=cell_size f0
   go_wp2
   generalize hU:World.setCell _ _ _=U
   obtain ⟨u0,u1,hBU,hOU⟩:=two_set HI.out.2.1 hU
   have HLF:LyE 61 U w.heap.size (.slice pL k cL) ls:=by
    have:=owns_only HL9.out hOU (by decide)
    rw [List.take_of_length_le (by rw [HL.out.1];exact Nat.le_refl _)] at this
    unfold LyE
    rw [HL.out.1]
    exact this
   exact bodyPost_ret (v:=.agg #[.slice p n c,.slice pL k cL]) (by simp [results,Tryz.results8,go_sem,u0,u1]) rfl ⟨_,_,rfl,HLF,hBU w _ (by omega) HI.out.2.2.2⟩
theorem rnumber_any (s:ByteArray) (w:World):
  Calls Tryz.prog 19 #[.string s] w fun e w'=>e = .returned (.int .i64 ((numB s).getD (-1)))∧w'=w:=by
 obtain ⟨r,er⟩:∃ r,numB s=r:=⟨_,rfl⟩
 have HR:Hid (numB s=r):=er
 rw [er]
 clear er
 obtain ⟨n,en⟩:∃ n,s.size=n:=⟨_,rfl⟩
 have HN:Hid (s.size=n):=en
 go_enter Tryz.func19,Tryz.ntmps19
 by_cases h0:n=0
 ·subst h0
  have e:r=none:=by rw [← HR.out];unfold numB;rw [if_neg fun h=>by have:=h.1.1.1;omega]
  subst e
  have en':((s.size:Nat):Int)=0:=by rw [en];rfl
  go_wp2
  go_ret
  exact ⟨rfl,rfl⟩
 have g0:(1:Int)≤(n:Int):=by omega
 by_cases h4:4 < n
 ·have h4':(4:Int) < (n:Int):=by omega
  have e:r=none:=by rw [← HR.out];unfold numB;rw [if_neg fun h=>by have:=h.1.1.2;omega]
  subst e
  go_wp2
  go_ret
  exact ⟨rfl,rfl⟩
 have h4':(n:Int)≤4:=by omega
 obtain ⟨b0,eb0⟩:∃ x,(((s.get! 0).toNat:Nat):Int)=x:=⟨_,rfl⟩
 have hb0:=byte_run s 0 (by omega) b0 eb0
 rw [show ((0:Nat):Int)=0 from rfl] at hb0
 have HZ:Hid (numB s=if ¬ (1 < n∧b0=48)∧allDig s n=true then some (numV s n) else none):=by
  show _=_
  subst en
  unfold numB
  by_cases hc:1 < s.size∧b0=48
  ·rw [if_neg,if_neg fun h=>h.1 hc]
   intro h
   exact h.1.2 ⟨by omega,by have:=hc.2;omega⟩
  ·by_cases hd:allDig s s.size=true
   ·rw [if_pos ⟨⟨⟨by omega,by omega⟩,fun h=>hc ⟨by omega,by have:=h.2;omega⟩⟩,hd⟩,if_pos ⟨hc,hd⟩]
   ·rw [if_neg fun h=>hd h.2,if_neg fun h=>hd h.2]
 clear eb0
 by_cases hc:1 < n∧b0=48
 ·have e:r=none:=by rw [← HR.out,HZ.out,if_neg fun h=>h.1 hc]
  obtain ⟨hc1,hc2⟩:=hc
  subst e hc2
  have hc1':(1:Int) < (n:Int):=by omega
  clear HZ HR
  go_wp2
  go_ret
  exact ⟨rfl,rfl⟩
 have HZ2:Hid (r=if allDig s n=true then some (numV s n) else none):=by
  show _=_
  rw [← HR.out,HZ.out]
  by_cases hd:allDig s n=true
  ·rw [if_pos ⟨hc,hd⟩,if_pos hd]
  ·rw [if_neg fun h=>hd h.2,if_neg hd]
 have hway:(n:Int)≤1∨(1 < (n:Int)∧(b0==48)=false):=by
  rcases Nat.lt_or_ge 1 n with h|h
  ·exact .inr ⟨by omega,by simpa using fun e=>hc ⟨h,e⟩⟩
  ·exact .inl (by omega)
 clear HZ hc HR
 rcases hway with hn1|⟨hn1,hb48⟩
 all_goals
  go_wp2_with fail
  go_loopg [3,4] n (fun gg u v wr=>∃ (k:Nat) (x:Int),k≤n∧gg=n - k∧u = .int .i64 x∧v = .int .i64 (k:Int)∧Hid (x=numV s k∧allDig s k=true)∧wr=w)
  case atStart=>exact ⟨0,0,by omega,by omega,rfl,rfl,⟨rfl,rfl⟩,rfl⟩
  case round=>
   obtain ⟨k,x,hk,hg,rfl,rfl,Hx,rfl⟩:=hrel
   by_cases hkn:k < n
   ·have hk':(k:Int) < (n:Int):=by omega
    obtain ⟨b,eb⟩:∃ b,(((s.get! k).toNat:Nat):Int)=b:=⟨_,rfl⟩
    have hb:=byte_run s k (by omega) b eb
    have hbr:0≤b∧b≤255:=by
     have:=(s.get! k).toNat_lt
     omega
    have hxr:=numV_small (show k≤4 by omega) Hx.out.2
    rw [← Hx.out.1] at hxr
    have Hb:Hid ((((s.get! k).toNat:Nat):Int)=b):=eb
    clear eb
    by_cases h48:b < 48
    ·have e:r=none:=by
      rw [HZ2.out,if_neg fun h=>?_]
      have:=of_decide_eq_true (allDig_le h hkn)
      have:=Hb.out
      omega
     subst e
     clear HZ2
     go_wp2
     go_ret
     exact ⟨rfl,rfl⟩
    by_cases h57:57 < b
    ·have e:r=none:=by
      rw [HZ2.out,if_neg fun h=>?_]
      have:=of_decide_eq_true (allDig_le h hkn)
      have:=Hb.out
      omega
     subst e
     have h48':48≤b:=by omega
     clear HZ2
     go_wp2
     go_ret
     exact ⟨rfl,rfl⟩
    have h48':48≤b:=by omega
    have h57':b≤57:=by omega
    obtain ⟨y,ey⟩:∃ y,10*x+(b - 48)=y:=⟨_,rfl⟩
    have HY:Hid (y=numV s (k+1)∧allDig s (k+1)=true):=by
     refine ⟨by rw [← ey,Int.mul_comm,Hx.out.1,← Hb.out];rfl,?_⟩
     simp only [allDig,Hx.out.2,Bool.true_and]
     exact decide_eq_true (by have:=Hb.out;omega)
    go_wp2
    go_roundg (n - (k+1))
    case measure=>omega
    case rel=>exact ⟨k+1,y,by omega,rfl,by first|rfl|simp [ey],by first|rfl|simp,HY,rfl⟩
   ·obtain rfl:k=n:=by omega
    have e:r=some x:=by rw [HZ2.out,if_pos Hx.out.2,Hx.out.1]
    subst e
    clear HZ2
    go_wp2
    go_ret
    exact ⟨rfl,rfl⟩
theorem fields_step (l:List UInt8) (cur:List UInt8) (k:Nat) (hk:k < l.length):fieldsL (l.drop k) cur=if blankB (l[k]) then (if cur = [] then fieldsL (l.drop (k+1)) [] else cur :: fieldsL (l.drop (k+1)) []) else fieldsL (l.drop (k+1)) (cur++[l[k]]):=by
 rw [List.drop_eq_getElem_cons hk,fieldsL]
theorem StO.strV {W:World} {B:Nat} {v:Value} {ws:List ByteArray} (h:StO W B v ws):StrV W v ws:=by
 have h':=h
 rcases h.2 with ⟨rfl,h0⟩|⟨g,cap,cur,rfl,hB,h5,h6⟩
 ·exact ⟨none,0,by rw [h0],by rw [h0];exact Nat.le_refl _,fun i hi=>by omega⟩
 ·refine ⟨_,cap,rfl,h6.1,fun i hi=>⟨g,0,rfl,?_⟩⟩
  have:=World.ownsRow.cells h' rfl i (.string (wdA ws i)) (by
   rw [List.getElem?_map,List.getElem?_eq_getElem hi]
   unfold wdA
   rw [List.getD_eq_getElem?_getD,List.getElem?_eq_getElem hi]
   rfl)
  rw [addr_plus] at this
  exact this
theorem map_inj (x:List ByteArray):∀ y:List ByteArray,x.map (·.data.toList)=y.map (·.data.toList)→x=y:=by
 induction x with
 | nil=>intro y hy;cases y with|nil=>rfl|cons=>simp at hy
 | cons a x ih=>
  intro y hy
  cases y with
  | nil=>simp at hy
  | cons b y=>
   simp only [List.map_cons,List.cons.injEq] at hy
   rw [ih y hy.2,ba_ext hy.1]
theorem blank_at (b:UInt8):blankB b=true↔(b.toNat:Int)=32∨(b.toNat:Int)=9∨(b.toNat:Int)=10:=by
 have k:∀ n:Nat,n < 256→(blankB (UInt8.ofNat n)=true↔(n:Int)=32∨(n:Int)=9∨(n:Int)=10):=by decide +kernel
 have:=k b.toNat b.toNat_lt
 rwa [UInt8.ofNat_toNat] at this
theorem str_slice1 (s:ByteArray) (k:Nat) (h:k < s.size) (W:World):(Instr.slice 9 (.string s) (some (.int .i64 (k:Int))) (some (.int .i64 ((k:Int)+1))) none).run Tryz.prog W = .ok (.string ⟨#[s.get! k]⟩) W:=by
 rw [run_slice_string (P:=Tryz.prog) W 9 s .i64 .i64 (k:Int) ((k:Int)+1) Tryz.underlying9 (by omega) (by omega) (by omega)]
 have e:s.extract (k:Int).toNat ((k:Int)+1).toNat=⟨#[s.get! k]⟩:=by
  rw [show (k:Int).toNat=k by omega,show ((k:Int)+1).toNat=k+1 by omega]
  apply ba_ext
  have hk:k < s.data.toList.length:=by rw [← size_list];exact h
  rw [get_list s k hk]
  rw [show (s.extract k (k+1)).data.toList=(s.data.toList.drop k).take 1 by
   simp [ByteArray.data_extract]]
  rw [List.drop_eq_getElem_cons hk]
  rfl
 rw [e]
theorem rwords_any (s:ByteArray) (hs:s.size≤16384) (w:World):
  Calls Tryz.prog 18 #[.string s] w fun e w'=>∃ v,e = .returned v∧StO w' w.heap.size v (wordsB s)∧Below w.heap.size w w':=by
 haveI:Nonempty World:=⟨w⟩
 obtain ⟨n,en⟩:∃ n,s.size=n:=⟨_,rfl⟩
 have hn:(n:Int)≤16384:=by omega
 have HN:Hid (s.size=n∧s.data.toList.length=n):=⟨en,by rw [← en,size_list]⟩
 clear hs
 go_enter Tryz.func18,Tryz.ntmps18
 go_wp2_with fail
 go_loopg [3,4,5] (n+1) (fun gg v3 v4 v5 wr=>∃ (k:Nat) (ws:List ByteArray) (u:ByteArray),k≤n+1∧gg=n+1 - k∧v4 = .string u∧v5 = .int .i64 (k:Int)∧Hid (StO wr w.heap.size v3 ws∧Below w.heap.size w wr)∧Hid (u.size≤k∧ws.length≤k)∧Hid (if k≤n then (wordsB s).map (·.data.toList)=ws.map (·.data.toList)++fieldsL (s.data.toList.drop k) u.data.toList else wordsB s=ws))
 case atStart=>
  refine ⟨0,[],⟨#[]⟩,by omega,by omega,rfl,rfl,⟨⟨rfl,.inl ⟨rfl,rfl⟩⟩,Below.refl _ _⟩,⟨by decide,by decide⟩,?_⟩
  show ite _ _ _
  rw [if_pos (by omega),words_fields]
  rfl
 case round=>
  obtain ⟨k,ws,u,hk,hg,rfl,rfl,HO,HU,HI⟩:=hrel
  obtain ⟨pv,nv,cv,rfl,hnv⟩:=HO.out.1.form
  have HNV:Hid (ws.length=nv):=hnv
  have hu:=HU.out.1
  have hwl:=HU.out.2
  clear hnv
  by_cases hkn:k < n
  ·have hk':(k:Int) < (n:Int):=by omega
   have hk2:(k:Int)≤(n:Int):=by omega
   have hkl:k < s.data.toList.length:=by rw [HN.out.2];exact hkn
   have hfs:=fields_step s.data.toList u.data.toList k hkl
   obtain ⟨bb,ebb⟩:∃ bb,s.data.toList[k]=bb:=⟨_,rfl⟩
   have hgb:s.get! k=bb:=by rw [get_list s k hkl,ebb]
   rw [ebb] at hfs
   obtain ⟨b,eb⟩:∃ b,((bb.toNat:Nat):Int)=b:=⟨_,rfl⟩
   have hb:=byte_run s k (by omega) b (by rw [hgb];exact eb)
   have hbr:0≤b∧b≤255:=by
    have:=bb.toNat_lt
    omega
   have hbk:=blank_at bb
   rw [eb] at hbk
   have HI2:Hid ((wordsB s).map (·.data.toList)=ws.map (·.data.toList)++fieldsL (s.data.toList.drop k) u.data.toList):=by
    have:=HI.out
    rw [if_pos (by omega)] at this
    exact this
   clear HI
   by_cases hbl:b=32∨b=9∨b=10
   case neg=>
    have hb1:(b != 32)=true:=by simpa using (show b≠32 by omega)
    have hb2:(b != 9)=true:=by simpa using (show b≠9 by omega)
    have hb3:(b != 10)=true:=by simpa using (show b≠10 by omega)
    have hsl:∀ W,(Instr.slice 9 (.string s) (some (.int .i64 (k:Int))) (some (.int .i64 ((k:Int)+1))) none).run Tryz.prog W = .ok (.string ⟨#[bb]⟩) W:=fun W=>by
     rw [← hgb]
     exact str_slice1 s k (by omega) W
    have h1s:(⟨#[bb]⟩:ByteArray).size=1:=rfl
    have HF:Hid (if k+1≤n then (wordsB s).map (·.data.toList)=ws.map (·.data.toList)++fieldsL (s.data.toList.drop (k+1)) (u++⟨#[bb]⟩).data.toList else wordsB s=ws):=by
     show ite _ _ _
     rw [if_pos (by omega),HI2.out,hfs,if_neg fun h=>hbl (hbk.1 h),ba_app]
    have HU2:Hid ((u++⟨#[bb]⟩).size≤k+1∧ws.length≤k+1):=⟨by rw [ByteArray.size_append];omega,by omega⟩
    clear hfs hgb ebb eb hbk hbl HI2
    go_wp2
    go_roundg (n+1 - (k+1))
    case measure=>omega
    case rel=>exact ⟨k+1,ws,_,by omega,rfl,rfl,by first|rfl|simp,HO,HU2,HF⟩
   case pos=>
    rcases (show b=32∨b=9∨b=10 from hbl) with hq|hq|hq
    ·have hb1:(b != 32)=false:=by rw [hq];rfl
     by_cases hue:u=⟨#[]⟩
     ·subst hue
      have hem:((⟨#[]⟩:ByteArray).toList != [])=false:=by decide +kernel
      have HF:Hid (if k+1≤n then (wordsB s).map (·.data.toList)=ws.map (·.data.toList)++fieldsL (s.data.toList.drop (k+1)) (⟨#[]⟩:ByteArray).data.toList else wordsB s=ws):=by
       show ite _ _ _
       rw [if_pos (by omega),HI2.out,hfs,if_pos (hbk.2 hbl),if_pos rfl]
      clear hfs hbk hbl hgb ebb eb HI2 hq
      have HU2:Hid ((⟨#[]⟩:ByteArray).size≤k+1∧ws.length≤k+1):=⟨Nat.zero_le _,by omega⟩
      go_wp2
      go_roundg (n+1 - (k+1))
      case measure=>omega
      case rel=>exact ⟨k+1,ws,⟨#[]⟩,by omega,rfl,rfl,by first|rfl|(simp;done)|(simp;omega),HO,HU2,HF⟩
     ·have hem:u.toList.isEmpty=false:=by
       have:=str_ne hue
       have e0:(⟨#[]⟩:ByteArray).toList = []:=by decide +kernel
       rw [e0] at this
       cases h:u.toList with
       | nil=>rw [h] at this;cases this
       | cons=>rfl
      have hem2:(!u.toList.isEmpty)=true:=by rw [hem];rfl
      have hne:u.data.toList≠[]:=fun h=>hue (ba_ext h)
      have HUE:Hid (u.data.toList≠[]):=hne
      clear hne hue
      have HF:Hid (if k+1≤n then (wordsB s).map (·.data.toList)=(ws++[u]).map (·.data.toList)++fieldsL (s.data.toList.drop (k+1)) (⟨#[]⟩:ByteArray).data.toList else wordsB s=(ws++[u])):=by
       show ite _ _ _
       rw [if_pos (by omega),HI2.out,hfs,if_pos (hbk.2 hbl),if_neg HUE.out]
       simp
      clear hfs hbk hbl hgb ebb eb HI2 hq
      have hk9:nv+1≤1073741825:=by have:=HNV.out;omega
      have H5:Hid ((wr.alloc (.cells #[.string u] 9)).ownsRow w.heap.size 9 1 (.slice pv nv cv) nv (ws.map Value.string)):=by
       have h:=owns_only (S:=[]) HO.out.1 (Only.of (up_alloc wr (.cells #[.string u] 9))) (by simp)
       rw [HNV.out] at h
       exact h
      have H6:Hid ((wr.alloc (.cells #[.string u] 9)).heap[wr.heap.size]?=some (.cells [.string u].toArray 9 (0,0))):=heap_alloc_new wr _
      have H7:Hid (∀ y∈[Value.string u],y.oneCell'=true):=fun y hy=>by simp at hy;subst hy;rfl
      have H8:Hid (w.heap.size≤(wr.alloc (.cells #[.string u] 9)).heap.size):=(bstep HO.out.2 (up_alloc wr _)).size
      go_wp2_with (at_builtin;refine wpList_appG strT (by decide) (by decide) rfl (.tmp 43) (.tmp 45) rfl w.heap.size _ nv (ws.map Value.string) rfl H5.out _ [.string u] rfl H6.out rfl H7.out hk9 H8.out ?_;intro v0 w0 H0 O0 B0)
      have HO2:Hid (StO w0 w.heap.size v0 (ws++[u])∧Below w.heap.size w w0):=by
       refine ⟨?_,B0.out w (bstep HO.out.2 (up_alloc wr _))⟩
       unfold StO
       rw [List.length_append,List.map_append,HNV.out]
       exact H0.out
      have HU2:Hid ((⟨#[]⟩:ByteArray).size≤k+1∧(ws++[u]).length≤k+1):=⟨Nat.zero_le _,by simp;omega⟩
      clear H0 O0 B0 H5 H6 H7 H8
      go_wp2
      go_roundg (n+1 - (k+1))
      case measure=>omega
      case rel=>exact ⟨k+1,ws++[u],⟨#[]⟩,by omega,rfl,rfl,by first|rfl|(simp;done)|(simp;omega),HO2,HU2,HF⟩
    ·have hb1:(b != 32)=true:=by rw [hq];rfl
     have hb2:(b != 9)=false:=by rw [hq];rfl
     by_cases hue:u=⟨#[]⟩
     ·subst hue
      have hem:((⟨#[]⟩:ByteArray).toList != [])=false:=by decide +kernel
      have HF:Hid (if k+1≤n then (wordsB s).map (·.data.toList)=ws.map (·.data.toList)++fieldsL (s.data.toList.drop (k+1)) (⟨#[]⟩:ByteArray).data.toList else wordsB s=ws):=by
       show ite _ _ _
       rw [if_pos (by omega),HI2.out,hfs,if_pos (hbk.2 hbl),if_pos rfl]
      clear hfs hbk hbl hgb ebb eb HI2 hq
      have HU2:Hid ((⟨#[]⟩:ByteArray).size≤k+1∧ws.length≤k+1):=⟨Nat.zero_le _,by omega⟩
      go_wp2
      go_roundg (n+1 - (k+1))
      case measure=>omega
      case rel=>exact ⟨k+1,ws,⟨#[]⟩,by omega,rfl,rfl,by first|rfl|(simp;done)|(simp;omega),HO,HU2,HF⟩
     ·have hem:u.toList.isEmpty=false:=by
       have:=str_ne hue
       have e0:(⟨#[]⟩:ByteArray).toList = []:=by decide +kernel
       rw [e0] at this
       cases h:u.toList with
       | nil=>rw [h] at this;cases this
       | cons=>rfl
      have hem2:(!u.toList.isEmpty)=true:=by rw [hem];rfl
      have hne:u.data.toList≠[]:=fun h=>hue (ba_ext h)
      have HUE:Hid (u.data.toList≠[]):=hne
      clear hne hue
      have HF:Hid (if k+1≤n then (wordsB s).map (·.data.toList)=(ws++[u]).map (·.data.toList)++fieldsL (s.data.toList.drop (k+1)) (⟨#[]⟩:ByteArray).data.toList else wordsB s=(ws++[u])):=by
       show ite _ _ _
       rw [if_pos (by omega),HI2.out,hfs,if_pos (hbk.2 hbl),if_neg HUE.out]
       simp
      clear hfs hbk hbl hgb ebb eb HI2 hq
      have hk9:nv+1≤1073741825:=by have:=HNV.out;omega
      have H5:Hid ((wr.alloc (.cells #[.string u] 9)).ownsRow w.heap.size 9 1 (.slice pv nv cv) nv (ws.map Value.string)):=by
       have h:=owns_only (S:=[]) HO.out.1 (Only.of (up_alloc wr (.cells #[.string u] 9))) (by simp)
       rw [HNV.out] at h
       exact h
      have H6:Hid ((wr.alloc (.cells #[.string u] 9)).heap[wr.heap.size]?=some (.cells [.string u].toArray 9 (0,0))):=heap_alloc_new wr _
      have H7:Hid (∀ y∈[Value.string u],y.oneCell'=true):=fun y hy=>by simp at hy;subst hy;rfl
      have H8:Hid (w.heap.size≤(wr.alloc (.cells #[.string u] 9)).heap.size):=(bstep HO.out.2 (up_alloc wr _)).size
      go_wp2_with (at_builtin;refine wpList_appG strT (by decide) (by decide) rfl (.tmp 43) (.tmp 45) rfl w.heap.size _ nv (ws.map Value.string) rfl H5.out _ [.string u] rfl H6.out rfl H7.out hk9 H8.out ?_;intro v0 w0 H0 O0 B0)
      have HO2:Hid (StO w0 w.heap.size v0 (ws++[u])∧Below w.heap.size w w0):=by
       refine ⟨?_,B0.out w (bstep HO.out.2 (up_alloc wr _))⟩
       unfold StO
       rw [List.length_append,List.map_append,HNV.out]
       exact H0.out
      have HU2:Hid ((⟨#[]⟩:ByteArray).size≤k+1∧(ws++[u]).length≤k+1):=⟨Nat.zero_le _,by simp;omega⟩
      clear H0 O0 B0 H5 H6 H7 H8
      go_wp2
      go_roundg (n+1 - (k+1))
      case measure=>omega
      case rel=>exact ⟨k+1,ws++[u],⟨#[]⟩,by omega,rfl,rfl,by first|rfl|(simp;done)|(simp;omega),HO2,HU2,HF⟩
    ·have hb1:(b != 32)=true:=by rw [hq];rfl
     have hb2:(b != 9)=true:=by rw [hq];rfl
     have hb3:(b != 10)=false:=by rw [hq];rfl
     by_cases hue:u=⟨#[]⟩
     ·subst hue
      have hem:((⟨#[]⟩:ByteArray).toList != [])=false:=by decide +kernel
      have HF:Hid (if k+1≤n then (wordsB s).map (·.data.toList)=ws.map (·.data.toList)++fieldsL (s.data.toList.drop (k+1)) (⟨#[]⟩:ByteArray).data.toList else wordsB s=ws):=by
       show ite _ _ _
       rw [if_pos (by omega),HI2.out,hfs,if_pos (hbk.2 hbl),if_pos rfl]
      clear hfs hbk hbl hgb ebb eb HI2 hq
      have HU2:Hid ((⟨#[]⟩:ByteArray).size≤k+1∧ws.length≤k+1):=⟨Nat.zero_le _,by omega⟩
      go_wp2
      go_roundg (n+1 - (k+1))
      case measure=>omega
      case rel=>exact ⟨k+1,ws,⟨#[]⟩,by omega,rfl,rfl,by first|rfl|(simp;done)|(simp;omega),HO,HU2,HF⟩
     ·have hem:u.toList.isEmpty=false:=by
       have:=str_ne hue
       have e0:(⟨#[]⟩:ByteArray).toList = []:=by decide +kernel
       rw [e0] at this
       cases h:u.toList with
       | nil=>rw [h] at this;cases this
       | cons=>rfl
      have hem2:(!u.toList.isEmpty)=true:=by rw [hem];rfl
      have hne:u.data.toList≠[]:=fun h=>hue (ba_ext h)
      have HUE:Hid (u.data.toList≠[]):=hne
      clear hne hue
      have HF:Hid (if k+1≤n then (wordsB s).map (·.data.toList)=(ws++[u]).map (·.data.toList)++fieldsL (s.data.toList.drop (k+1)) (⟨#[]⟩:ByteArray).data.toList else wordsB s=(ws++[u])):=by
       show ite _ _ _
       rw [if_pos (by omega),HI2.out,hfs,if_pos (hbk.2 hbl),if_neg HUE.out]
       simp
      clear hfs hbk hbl hgb ebb eb HI2 hq
      have hk9:nv+1≤1073741825:=by have:=HNV.out;omega
      have H5:Hid ((wr.alloc (.cells #[.string u] 9)).ownsRow w.heap.size 9 1 (.slice pv nv cv) nv (ws.map Value.string)):=by
       have h:=owns_only (S:=[]) HO.out.1 (Only.of (up_alloc wr (.cells #[.string u] 9))) (by simp)
       rw [HNV.out] at h
       exact h
      have H6:Hid ((wr.alloc (.cells #[.string u] 9)).heap[wr.heap.size]?=some (.cells [.string u].toArray 9 (0,0))):=heap_alloc_new wr _
      have H7:Hid (∀ y∈[Value.string u],y.oneCell'=true):=fun y hy=>by simp at hy;subst hy;rfl
      have H8:Hid (w.heap.size≤(wr.alloc (.cells #[.string u] 9)).heap.size):=(bstep HO.out.2 (up_alloc wr _)).size
      go_wp2_with (at_builtin;refine wpList_appG strT (by decide) (by decide) rfl (.tmp 43) (.tmp 45) rfl w.heap.size _ nv (ws.map Value.string) rfl H5.out _ [.string u] rfl H6.out rfl H7.out hk9 H8.out ?_;intro v0 w0 H0 O0 B0)
      have HO2:Hid (StO w0 w.heap.size v0 (ws++[u])∧Below w.heap.size w w0):=by
       refine ⟨?_,B0.out w (bstep HO.out.2 (up_alloc wr _))⟩
       unfold StO
       rw [List.length_append,List.map_append,HNV.out]
       exact H0.out
      have HU2:Hid ((⟨#[]⟩:ByteArray).size≤k+1∧(ws++[u]).length≤k+1):=⟨Nat.zero_le _,by simp;omega⟩
      clear H0 O0 B0 H5 H6 H7 H8
      go_wp2
      go_roundg (n+1 - (k+1))
      case measure=>omega
      case rel=>exact ⟨k+1,ws++[u],⟨#[]⟩,by omega,rfl,rfl,by first|rfl|(simp;done)|(simp;omega),HO2,HU2,HF⟩
  by_cases hke:k=n
  ·have hk':¬ (k:Int) < (n:Int):=by omega
   have hk2:(k:Int)≤(n:Int):=by omega
   have hk3:(n:Int)≤(k:Int):=by omega
   have hk4:(k:Int)≤16384:=by omega
   have HI2:Hid ((wordsB s).map (·.data.toList)=ws.map (·.data.toList)++fieldsL [] u.data.toList):=by
    have:=HI.out
    rw [if_pos (by omega),List.drop_eq_nil_of_le (by rw [HN.out.2];omega)] at this
    exact this
   clear HI
   by_cases hue:u=⟨#[]⟩
   ·subst hue
    have hem:((⟨#[]⟩:ByteArray).toList != [])=false:=by decide +kernel
    have HF:Hid (if k+1≤n then (wordsB s).map (·.data.toList)=ws.map (·.data.toList)++fieldsL (s.data.toList.drop (k+1)) (⟨#[]⟩:ByteArray).data.toList else wordsB s=ws):=by
     show ite _ _ _
     rw [if_neg (by omega)]
     refine map_inj _ _ ?_
     rw [HI2.out,fieldsL,if_pos rfl]
     simp
    clear HI2
    have HU2:Hid ((⟨#[]⟩:ByteArray).size≤k+1∧ws.length≤k+1):=⟨Nat.zero_le _,by omega⟩
    go_wp2
    go_roundg (n+1 - (k+1))
    case measure=>omega
    case rel=>exact ⟨k+1,ws,⟨#[]⟩,by omega,rfl,rfl,by first|rfl|(simp;done)|(simp;omega),HO,HU2,HF⟩
   ·have hem:u.toList.isEmpty=false:=by
     have:=str_ne hue
     have e0:(⟨#[]⟩:ByteArray).toList = []:=by decide +kernel
     rw [e0] at this
     cases h:u.toList with
     | nil=>rw [h] at this;cases this
     | cons=>rfl
    have hem2:(!u.toList.isEmpty)=true:=by rw [hem];rfl
    have hne:u.data.toList≠[]:=fun h=>hue (ba_ext h)
    have HUE:Hid (u.data.toList≠[]):=hne
    clear hne hue
    have HF:Hid (if k+1≤n then (wordsB s).map (·.data.toList)=(ws++[u]).map (·.data.toList)++fieldsL (s.data.toList.drop (k+1)) (⟨#[]⟩:ByteArray).data.toList else wordsB s=(ws++[u])):=by
     show ite _ _ _
     rw [if_neg (by omega)]
     refine map_inj _ _ ?_
     rw [HI2.out,fieldsL,if_neg HUE.out]
     simp
    clear HI2
    have hk9:nv+1≤1073741825:=by have:=HNV.out;omega
    have H5:Hid ((wr.alloc (.cells #[.string u] 9)).ownsRow w.heap.size 9 1 (.slice pv nv cv) nv (ws.map Value.string)):=by
     have h:=owns_only (S:=[]) HO.out.1 (Only.of (up_alloc wr (.cells #[.string u] 9))) (by simp)
     rw [HNV.out] at h
     exact h
    have H6:Hid ((wr.alloc (.cells #[.string u] 9)).heap[wr.heap.size]?=some (.cells [.string u].toArray 9 (0,0))):=heap_alloc_new wr _
    have H7:Hid (∀ y∈[Value.string u],y.oneCell'=true):=fun y hy=>by simp at hy;subst hy;rfl
    have H8:Hid (w.heap.size≤(wr.alloc (.cells #[.string u] 9)).heap.size):=(bstep HO.out.2 (up_alloc wr _)).size
    go_wp2_with (at_builtin;refine wpList_appG strT (by decide) (by decide) rfl (.tmp 43) (.tmp 45) rfl w.heap.size _ nv (ws.map Value.string) rfl H5.out _ [.string u] rfl H6.out rfl H7.out hk9 H8.out ?_;intro v0 w0 H0 O0 B0)
    have HO2:Hid (StO w0 w.heap.size v0 (ws++[u])∧Below w.heap.size w w0):=by
     refine ⟨?_,B0.out w (bstep HO.out.2 (up_alloc wr _))⟩
     unfold StO
     rw [List.length_append,List.map_append,HNV.out]
     exact H0.out
    have HU2:Hid ((⟨#[]⟩:ByteArray).size≤k+1∧(ws++[u]).length≤k+1):=⟨Nat.zero_le _,by simp;omega⟩
    clear H0 O0 B0 H5 H6 H7 H8
    go_wp2
    go_roundg (n+1 - (k+1))
    case measure=>omega
    case rel=>exact ⟨k+1,ws++[u],⟨#[]⟩,by omega,rfl,rfl,by first|rfl|(simp;done)|(simp;omega),HO2,HU2,HF⟩
  ·obtain rfl:k=n+1:=by omega
   have hf:wordsB s=ws:=by
    have:=HI.out
    rw [if_neg (by omega)] at this
    exact this
   have hk2:¬ ((n+1:Nat):Int)≤(n:Int):=by omega
   have hk3:(n:Int) < ((n+1:Nat):Int):=by omega
   have HFI:Hid (wordsB s=ws):=hf
   clear hf
   go_wp2
   go_ret
   exact ⟨_,rfl,by rw [HFI.out];exact HO.out.1,HO.out.2⟩
end Go.Proofs.YtihjnbbhpojnpaaGreatDoor.Wd
namespace Go.Proofs.YtihjnbbhpojnpaaGreatDoor.Wd
/-- Is a layer's parameter greater than may be (the reference asks of the first alone)? -/
def rP (l:Ly) (d:List Int):Bool:=if kindI l.1=0 then decide (4096 < l.2.1*prodI d) else if kindI l.1=1 then decide (4096 < l.2.1*d.getD 0 0*l.2.2) else false
theorem rP_big {l:Ly} {d:List Int} (h:LayOk l):bigP l d=rP l d:=by
 unfold bigP parD rP
 rcases layOk_cases h with ⟨_,k,h1,h2⟩|⟨_,k,h1,h2⟩|⟨_,k,h1,h2⟩|⟨_,k,h1,h2⟩|⟨_,k,h1,h2⟩ <;> rw [k]
 ·simp only [if_true,List.any_cons,List.any_nil,prodI_two,prodI_one]
  rw [decide_eq_false (show ¬ 4096 < l.2.1 by omega)]
  simp
 ·simp [prodI_three]
 ·simp
 ·simp
 ·simp
/-- Great already? how many parameters so far (held at one too many)? -/
def rG (ls:List Ly) (S:List (List Int)):Nat→Bool×Int
 | 0=>(decide (16 < ls.length),0)
 | i+1=>if 4096 < (rG ls S i).2+psz (lyA ls i) (shA S i) then (true,4097) else ((rG ls S i).1 || rP (lyA ls i) (shA S i) || decide (4096 < prodI (shA S (i+1))),(rG ls S i).2+psz (lyA ls i) (shA S i))
theorem rG_rng {ls:List Ly} {S:List (List Int)}:∀ {i:Nat},(∀ k,k < i→InOk (shA S k))→(∀ k,k < i→LayOk (lyA ls k))→0≤(rG ls S i).2∧(rG ls S i).2≤4097
 | 0,_,_=>by simp [rG]
 | i+1,h,h2=>by
  have h1:=rG_rng (fun k hk=>h k (by omega)) (fun k hk=>h2 k (by omega)) (i:=i)
  have h3:=psz_rng (h i (by omega)) (h2 i (by omega))
  simp only [rG]
  split
  ·simp
  ·simp only []
   omega
/-- What was summed up, in plain words. -/
theorem rG_is {ls:List Ly} {S:List (List Int)}:∀ {i:Nat},(∀ k,k < i→InOk (shA S k))→(∀ k,k < i→LayOk (lyA ls k))→
  ((rG ls S i).1=true↔16 < ls.length∨bigN ls S i=true∨(∃ k,k < i∧4096 < prodI (shA S (k+1)))∨4096 < cntP ls S i)∧((rG ls S i).1=true∨(rG ls S i).2=cntP ls S i)∧(4096 < cntP ls S i→(rG ls S i).2=4097)∧(¬ 4096 < cntP ls S i→(rG ls S i).2=cntP ls S i)
 | 0,_,_=>by simp [rG,bigN,cntP]
 | i+1,h,h2=>by
  obtain ⟨a1,a2,a3,a4⟩:=rG_is (fun k hk=>h k (by omega)) (fun k hk=>h2 k (by omega)) (i:=i) (ls:=ls) (S:=S)
  have hz:=psz_rng (h i (by omega)) (h2 i (by omega))
  have hb:=rP_big (l:=lyA ls i) (d:=shA S i) (h2 i (by omega))
  simp only [rG,cntP,bigN,hb]
  by_cases hc:4096 < cntP ls S i
  ·have e:=a3 hc
   rw [e,if_pos (by omega)]
   refine ⟨⟨fun _=>.inr (.inr (.inr (by omega))),fun _=>rfl⟩,.inl rfl,fun _=>rfl,fun h5=>absurd (show 4096 < cntP ls S i+psz (lyA ls i) (shA S i) by omega) h5⟩
  ·have e:=a4 hc
   rw [e]
   by_cases hd:4096 < cntP ls S i+psz (lyA ls i) (shA S i)
   ·rw [if_pos hd]
    exact ⟨⟨fun _=>.inr (.inr (.inr hd)),fun _=>rfl⟩,.inl rfl,fun _=>rfl,fun h5=>absurd hd h5⟩
   ·rw [if_neg hd]
    refine ⟨?_,.inr rfl,fun h5=>absurd h5 hd,fun _=>rfl⟩
    simp only [Bool.or_eq_true,decide_eq_true_eq]
    rw [a1]
    constructor
    ·rintro ((( h5|h5|⟨k,hk,h5⟩|h5)|h5)|h5)
     ·exact .inl h5
     ·exact .inr (.inl (.inl h5))
     ·exact .inr (.inr (.inl ⟨k,by omega,h5⟩))
     ·exact absurd h5 hc
     ·exact .inr (.inl (.inr h5))
     ·exact .inr (.inr (.inl ⟨i,by omega,h5⟩))
    ·rintro (h5|(h5|h5)|⟨k,hk,h5⟩|h5)
     ·exact .inl (.inl (.inl h5))
     ·exact .inl (.inl (.inr (.inl h5)))
     ·exact .inl (.inr h5)
     ·rcases Nat.lt_or_ge k i with hk2|hk2
      ·exact .inl (.inl (.inr (.inr (.inl ⟨k,hk2,h5⟩))))
      ·obtain rfl:k=i:=by omega
       exact .inr h5
     ·exact absurd h5 hd
theorem rG_fin {d:List Int} {ls:List Ly} {S:List (List Int)} (hf:formB d ls=true) (hs:shN d ls ls.length=some S):
  ((rG ls S ls.length).1 || decide (4096 < prodI d))=tooM ls S∧(tooM ls S=false→(rG ls S ls.length).2=cntP ls S ls.length):=by
 obtain ⟨hd,hl⟩:=(formB_iff d ls).1 hf
 have hS:=shN_in hd hl (Nat.le_refl _) hs
 have hlen:=shN_len hs
 have h0:shA S 0=d:=by
  have:∀ (i:Nat) (T:List (List Int)),shN d ls i=some T→shA T 0=d:=by
   intro i
   induction i with
   | zero=>intro T h;cases h;rfl
   | succ i ih=>
    intro T h
    cases hi:shN d ls i with
    | none=>rw [shN_stop hi (Nat.le_succ i)] at h;cases h
    | some T0=>
     rw [shN_succ hi] at h
     obtain ⟨o,rfl,-⟩:=stepS_pre h
     rw [shA_app _ (by have:=shN_len hi;omega)]
     exact ih T0 hi
  exact this _ _ hs
 obtain ⟨a1,a2,a3,a4⟩:=rG_is (ls:=ls) (S:=S) (i:=ls.length) (fun k hk=>hS k (by omega)) (fun k hk=>hl _ (lyA_mem hk))
 have hB:bigS S=true↔(∃ k,k < ls.length∧4096 < prodI (shA S (k+1)))∨4096 < prodI d:=by
  unfold bigS
  rw [List.any_eq_true]
  constructor
  ·rintro ⟨s,hs2,h5⟩
   obtain ⟨i,hi,rfl⟩:=List.getElem_of_mem hs2
   have e:shA S i=S[i]:=by unfold shA;rw [List.getD_eq_getElem?_getD,List.getElem?_eq_getElem hi];rfl
   rw [← e,decide_eq_true_eq] at h5
   cases i with
   | zero=>rw [h0] at h5;exact .inr h5
   | succ i=>exact .inl ⟨i,by omega,h5⟩
  ·have key:∀ i,i < S.length→4096 < prodI (shA S i)→∃ x,x∈S∧decide (4096 < prodI x)=true:=fun i hi h5=>by
    have e:shA S i=S[i]:=by unfold shA;rw [List.getD_eq_getElem?_getD,List.getElem?_eq_getElem hi];rfl
    exact ⟨S[i],List.getElem_mem _,by rw [← e,decide_eq_true_eq];exact h5⟩
   rintro (⟨k,hk,h5⟩|h5)
   ·exact key (k+1) (by omega) h5
   ·exact key 0 (by omega) (by rw [h0];exact h5)
 have hT:tooM ls S=true↔((rG ls S ls.length).1 || decide (4096 < prodI d))=true:=by
  unfold tooM
  simp only [Bool.or_eq_true,decide_eq_true_eq]
  rw [hB,a1]
  constructor
  ·rintro (((h5|(h5|h5))|h5)|h5)
   ·exact .inl (.inl h5)
   ·exact .inl (.inr (.inr (.inl h5)))
   ·exact .inr h5
   ·exact .inl (.inr (.inl h5))
   ·exact .inl (.inr (.inr (.inr h5)))
  ·rintro ((h5|h5|h5|h5)|h5)
   ·exact .inl (.inl (.inl h5))
   ·exact .inl (.inr h5)
   ·exact .inl (.inl (.inr (.inl h5)))
   ·exact .inr h5
   ·exact .inl (.inl (.inr (.inr h5)))
 refine ⟨Bool.eq_iff_iff.2 hT.symm,fun h5=>a4 fun h6=>?_⟩
 have:tooM ls S=true:=by unfold tooM;simp [h6]
 rw [h5] at this
 cases this
end Go.Proofs.YtihjnbbhpojnpaaGreatDoor.Wd
