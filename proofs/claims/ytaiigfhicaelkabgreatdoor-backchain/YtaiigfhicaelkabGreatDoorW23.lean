/- The code's Do, whatever it is asked. · The law's row: numbers in a row. · Stage 11's awake: it tells true. -/
import Derived.Test.YtaiigfhicaelkabGreatDoorW19
import Derived.Test.YtaiigfhicaelkabGreatDoorW22
import Derived.Test.YtaiigfhicaelkabGreatDoorW13
import Derived.Test.YtaiigfhicaelkabGreatDoorW20
set_option linter.unusedVariables false
set_option linter.unusedSimpArgs false
set_option maxHeartbeats 16000000
set_option maxRecDepth 16000
namespace Go.Proofs.YtaiigfhicaelkabGreatDoor.Wd
open Go.RowKit Fx
theorem rk_k {op:Int} (h:¬ byP op) (D X D' X':List Int) (k:Int):rkE op D X D' X' k=rkE op D X D' X' 0∧rkD op D X D' X' k=rkD op D X D' X' 0∧rkV op D X D' X' k=rkV op D X D' X' 0:=by
 have n5:op≠5:=fun e=>h (.inl e)
 have n8:op≠8:=fun e=>h (.inr (.inl e))
 have n11:op≠11:=fun e=>h (.inr (.inr (.inl e)))
 have n12:op≠12:=fun e=>h (.inr (.inr (.inr (.inl e))))
 have n13:op≠13:=fun e=>h (.inr (.inr (.inr (.inr e))))
 unfold rkE rkD rkV
 simp only [if_neg n5,if_neg n8,if_neg n11,if_neg n12,if_neg n13]
 exact ⟨trivial,trivial,trivial⟩
theorem cdo_full (B tb:Nat) (ns:List Nd) (hG:NodesG ns) (op a b k:Int) (hk:InR op∧InR a∧InR b∧InR k) (w:World) (hT:TapC w B tb ns) (hfull:512≤ns.length):
  Calls Tryz.prog 9 #[.pointer (some ⟨tb,0,none⟩),.int .i64 op,.int .i64 a,.int .i64 b,.int .i64 k] w fun e w'=>e = .returned (.tuple #[.int .i64 (doR ns op a b k),.int .i64 (doE ns op a b k)])∧TapC w' B tb (doN ns op a b k)∧Below B w w'∧Only SC w w'∧Spare tb w w':=by
 have hTT:Hid (TapC w B tb ns):=hT
 have hf:decide (512≤ns.length)=true:=decide_eq_true hfull
 have e1:doE ns op a b k=2:=if_pos hfull
 have e2:doR ns op a b k=0:=if_neg fun h=>by have:=h.1.1;omega
 have e3:doN ns op a b k=ns:=if_neg fun h=>by have:=h.1.1;omega
 rw [e1,e2,e3]
 clear e1 e2 e3 hfull hT hk
 go_enter Tryz.func9,Tryz.ntmps9
 go_wp2_with fail
 refine (cfull_any B tb ns true hf w hTT.out).mono ?_
 rintro e w9 ⟨rfl,ew9⟩
 have ew:=ew9.symm
 subst ew
 clear ew9
 clear hf
 go_wp2
 exact bodyPost_ret (v:=.tuple #[.int .i64 0,.int .i64 2]) (by simp [results,Tryz.results9,go_sem]) rfl ⟨rfl,hTT.out,Below.refl _ _,Only.refl _ _,Spare.of (Below.refl _ _)⟩
theorem cdo_bad (B tb:Nat) (ns:List Nd) (hG:NodesG ns) (op a b k:Int) (hk:InR op∧InR a∧InR b∧InR k) (w:World) (hT:TapC w B tb ns) (hroom:ns.length < 512) (hno:¬ ((0≤a∧a < (ns.length:Int))∧(twoP op→0≤b∧b < (ns.length:Int)))):
  Calls Tryz.prog 9 #[.pointer (some ⟨tb,0,none⟩),.int .i64 op,.int .i64 a,.int .i64 b,.int .i64 k] w fun e w'=>e = .returned (.tuple #[.int .i64 (doR ns op a b k),.int .i64 (doE ns op a b k)])∧TapC w' B tb (doN ns op a b k)∧Below B w w'∧Only SC w w'∧Spare tb w w':=by
 have hTT:Hid (TapC w B tb ns):=hT
 have hf:decide (512≤ns.length)=false:=decide_eq_false (by omega)
 have ho:¬ okD ns op a b:=fun h=>hno h.2
 have e1:doE ns op a b k=1:=(if_neg (by omega)).trans (if_neg ho)
 have e2:doR ns op a b k=0:=if_neg fun h=>ho h.1.2
 have e3:doN ns op a b k=ns:=if_neg fun h=>ho h.1.2
 rw [e1,e2,e3]
 clear e1 e2 e3 hT hk ho hroom
 by_cases ha:0≤a∧a < (ns.length:Int)
 ·have h2:twoP op∧¬ (0≤b∧b < (ns.length:Int)):=by
   by_cases h2:twoP op
   ·exact ⟨h2,fun hb=>hno ⟨ha,fun _=>hb⟩⟩
   ·exact absurd ⟨ha,fun h=>absurd h h2⟩ hno
  have hq:decide (twoP op)=true:=decide_eq_true h2.1
  have hb:decide (0≤b∧b < (ns.length:Int))=false:=decide_eq_false h2.2
  have ha':decide (0≤a∧a < (ns.length:Int))=true:=decide_eq_true ha
  clear h2 ha hno
  go_enter Tryz.func9,Tryz.ntmps9
  go_wp2_with fail
  refine (cfull_any B tb ns false hf w hTT.out).mono ?_
  rintro e w9 ⟨rfl,ew9⟩
  have ew:=ew9.symm
  subst ew
  clear ew9
  go_wp2_with fail
  refine (chas_any B tb ns a true ha' w hTT.out).mono ?_
  rintro e w9 ⟨rfl,ew9⟩
  have ew:=ew9.symm
  subst ew
  clear ew9
  go_wp2_with fail
  refine (chasb_any op true hq w).mono ?_
  rintro e w9 ⟨rfl,ew9⟩
  have ew:=ew9.symm
  subst ew
  clear ew9
  go_wp2_with fail
  refine (chas_any B tb ns b false hb w hTT.out).mono ?_
  rintro e w9 ⟨rfl,ew9⟩
  have ew:=ew9.symm
  subst ew
  clear ew9
  clear hf hq hb ha'
  go_wp2
  exact bodyPost_ret (v:=.tuple #[.int .i64 0,.int .i64 1]) (by simp [results,Tryz.results9,go_sem]) rfl ⟨rfl,hTT.out,Below.refl _ _,Only.refl _ _,Spare.of (Below.refl _ _)⟩
 ·have ha':decide (0≤a∧a < (ns.length:Int))=false:=decide_eq_false ha
  clear ha hno
  go_enter Tryz.func9,Tryz.ntmps9
  go_wp2_with fail
  refine (cfull_any B tb ns false hf w hTT.out).mono ?_
  rintro e w9 ⟨rfl,ew9⟩
  have ew:=ew9.symm
  subst ew
  clear ew9
  go_wp2_with fail
  refine (chas_any B tb ns a false ha' w hTT.out).mono ?_
  rintro e w9 ⟨rfl,ew9⟩
  have ew:=ew9.symm
  subst ew
  clear ew9
  clear hf ha'
  go_wp2
  exact bodyPost_ret (v:=.tuple #[.int .i64 0,.int .i64 1]) (by simp [results,Tryz.results9,go_sem]) rfl ⟨rfl,hTT.out,Below.refl _ _,Only.refl _ _,Spare.of (Below.refl _ _)⟩
theorem cdo_sp (B tb:Nat) (ns:List Nd) (hG:NodesG ns) (op a b k:Int) (hk:InR op∧InR a∧InR b∧InR k) (w:World) (hT:TapC w B tb ns) (hTz:Hid (Tz w)):
  Calls Tryz.prog 9 #[.pointer (some ⟨tb,0,none⟩),.int .i64 op,.int .i64 a,.int .i64 b,.int .i64 k] w fun e w'=>e = .returned (.tuple #[.int .i64 (doR ns op a b k),.int .i64 (doE ns op a b k)])∧TapC w' B tb (doN ns op a b k)∧Below B w w'∧Only SC w w'∧Spare tb w w':=by
 by_cases hf:512≤ns.length
 ·exact cdo_full B tb ns hG op a b k hk w hT hf
 by_cases hno:(0≤a∧a < (ns.length:Int))∧(twoP op→0≤b∧b < (ns.length:Int))
 case neg=>exact cdo_bad B tb ns hG op a b k hk w hT (by omega) hno
 obtain ⟨ai,rfl⟩:∃ i:Nat,a=i:=⟨a.toNat,by have:=hno.1;omega⟩
 have hai:ai < ns.length:=by have:=hno.1;omega
 obtain ⟨nda,hnda⟩:∃ nd,ns[ai]?=some nd:=⟨_,List.getElem?_eq_getElem hai⟩
 have hga:TnsG nda.D nda.X:=hG nda (nd_mem hnda)
 have ena:=nd_at hnda
 obtain ⟨E,eE⟩:∃ E,rqE op nda.D nda.X (dD ns op b) (dX ns op b) k=E:=⟨_,rfl⟩
 obtain ⟨D,eD⟩:∃ E,rqD op nda.D nda.X (dD ns op b) (dX ns op b) k=E:=⟨_,rfl⟩
 obtain ⟨V,eV⟩:∃ E,rqV op nda.D nda.X (dD ns op b) (dX ns op b) k=E:=⟨_,rfl⟩
 have hkk:rkE op nda.D nda.X (dD ns op b) (dX ns op b) k=rkE op nda.D nda.X (dD ns op b) (dX ns op b) (dK op k)∧rkD op nda.D nda.X (dD ns op b) (dX ns op b) k=rkD op nda.D nda.X (dD ns op b) (dX ns op b) (dK op k)∧rkV op nda.D nda.X (dD ns op b) (dX ns op b) k=rkV op nda.D nda.X (dD ns op b) (dX ns op b) (dK op k):=by
  unfold dK
  by_cases h:byP op
  ·rw [if_pos h];exact ⟨rfl,rfl,rfl⟩
  ·rw [if_neg h];exact rk_k h _ _ _ _ _
 have hE1:doE ns op (ai:Int) b k=E:=by
  refine (if_neg (by omega)).trans ?_
  rw [← eE]
  unfold rqE
  by_cases ho:2≤op∧op≤14
  ·rw [if_pos ho,if_pos ⟨ho,hno⟩]
   unfold dE
   rw [ena,hkk.1]
  ·rw [if_neg ho,if_neg fun h=>ho h.1]
 have hEok:E=0→2≤op∧op≤14:=fun h=>by
  by_cases ho:2≤op∧op≤14
  ·exact ho
  ·rw [← eE] at h
   unfold rqE at h
   rw [if_neg ho] at h
   cases h
 rw [hE1]
 obtain ⟨RR,eR⟩:∃ R,doR ns op (ai:Int) b k=R:=⟨_,rfl⟩
 obtain ⟨NS,eS⟩:∃ R,doN ns op (ai:Int) b k=R:=⟨_,rfl⟩
 rw [eR,eS]
 have HG0:(E=0→RR=(ns.length:Int)∧NS=ns++[⟨op,(ai:Int),dB op b,dK op k,D,V⟩])∧(E≠0→RR=0∧NS=ns):=by
  rw [← eR,← eS]
  refine ⟨fun h=>?_,fun h=>?_⟩
  ·have ho:=hEok h
   have hP:doP ns op (ai:Int) b k:=⟨⟨by omega,ho,hno⟩,by rw [← hE1] at h;unfold doE at h;rw [if_neg hf,if_pos ⟨ho,hno⟩] at h;exact h⟩
   refine ⟨if_pos hP,(if_pos hP).trans ?_⟩
   unfold dN
   rw [ena,← hkk.2.1,← hkk.2.2,← eD,← eV]
   unfold rqD rqV
   rw [if_pos ho,if_pos ho]
  ·have hP:¬ doP ns op (ai:Int) b k:=fun h'=>h (by
    have h2:=hE1
    unfold doE at h2
    rw [if_neg hf,if_pos h'.1.2] at h2
    rw [← h2]
    exact h'.2)
   exact ⟨if_neg hP,if_neg hP⟩
 have hroom:ns.length < 512:=by omega
 have hgb:RI (dD ns op b)∧RI (dX ns op b):=by
  unfold dD dX
  by_cases h2:twoP op
  ·rw [if_pos h2,if_pos h2]
   exact (hG.at (hno.2 h2).1 (hno.2 h2).2).2
  ·rw [if_neg h2,if_neg h2]
   exact ⟨fun y hy=>by simp at hy,fun y hy=>by simp at hy⟩
 refine cdo_ok B tb ns op ai b k nda hnda (dD ns op b) (dX ns op b) (dB op b) (dK op k) ?_ ?_ hroom E D V RR NS HG0 w hT ?_
 ·by_cases h2:twoP op
  ·have hb:=hno.2 h2
   obtain ⟨bi,rfl⟩:∃ i:Nat,b=i:=⟨b.toNat,by omega⟩
   obtain ⟨ndb,hndb⟩:∃ nd,ns[bi]?=some nd:=⟨_,List.getElem?_eq_getElem (by omega)⟩
   have enb:=nd_at hndb
   exact .inl ⟨h2,if_pos h2,bi,ndb,rfl,hndb,(if_pos h2).trans (by rw [enb]),(if_pos h2).trans (by rw [enb])⟩
  ·exact .inr ⟨h2,if_neg h2,if_neg h2,if_neg h2⟩
 ·by_cases h3:byP op
  ·exact .inl ⟨h3,if_pos h3⟩
  ·exact .inr ⟨h3,if_neg h3⟩
 intro W pA qA pB qB nA cA mA eA nB cB mB eB hW g1 g2 g3 g4 g5
 rw [← eE,← eD,← eV]
 exact creckon_any pA qA pB qB nA cA mA eA nB cB mB eB _ _ _ _ op k hk.2.2.2 hga hgb.1 hgb.2 g3 W (Hid.up_tz hTz hW) g1 g2 g4 g5
theorem cdo_any (B tb:Nat) (ns:List Nd) (hG:NodesG ns) (op a b k:Int) (hk:InR op∧InR a∧InR b∧InR k) (w:World) (hT:TapC w B tb ns) (hTz:Hid (Tz w)):
  Calls Tryz.prog 9 #[.pointer (some ⟨tb,0,none⟩),.int .i64 op,.int .i64 a,.int .i64 b,.int .i64 k] w fun e w'=>e = .returned (.tuple #[.int .i64 (doR ns op a b k),.int .i64 (doE ns op a b k)])∧TapC w' B tb (doN ns op a b k)∧Below B w w'∧Only SC w w':=by
 refine (cdo_sp B tb ns hG op a b k hk w hT hTz).mono ?_
 rintro e w' ⟨h1,h2,h3,h4,_⟩
 exact ⟨h1,h2,h3,h4⟩
theorem row11_any (p:Option Addr) (n c:Nat) (x:List Int) (w:World) (h:Nums .i64 w (.slice p n c) x) (hn:n≤4096):
  Calls Tryz.prog 8 #[.slice p n c] w fun e w'=>∃ g,e = .returned (.agg #[.slice (some ⟨g,0,none⟩) 1 1,.slice p n c])∧Nums .i64 w' (.slice (some ⟨g,0,none⟩) 1 1) [(n:Int)]∧Nums .i64 w' (.slice p n c) x∧w.heap.size≤g∧OwnK .i64 3 w' w.heap.size (.slice (some ⟨g,0,none⟩) 1 1) [(n:Int)]∧Below w.heap.size w w':=by
 have H:Hid (Nums .i64 w (.slice p n c) x):=h
 have hn':(n:Int)≤4096:=by omega
 clear h
 go_enter Tryz.func8,Tryz.ntmps8
 go_wp2
 have hB:Below w.heap.size w ((w.alloc (.cells #[.slice (some ⟨w.heap.size+1,0,none⟩) 1 1,.slice p n c] 32)).alloc (.cells #[.int .i64 (n:Int)] 3)):=by go_grown
 have hO:OwnK .i64 3 ((w.alloc (.cells #[.slice (some ⟨w.heap.size+1,0,none⟩) 1 1,.slice p n c] 32)).alloc (.cells #[.int .i64 (n:Int)] 3)) w.heap.size (.slice (some ⟨w.heap.size+1,0,none⟩) 1 1) [(n:Int)]:=by
  have h0:=own_lit (k:=.i64) (e:=3) (w.alloc (.cells #[.slice (some ⟨w.heap.size+1,0,none⟩) 1 1,.slice p n c] 32)) [(n:Int)] 1 rfl (by decide)
  rw [size_alloc] at h0
  exact h0.low (Nat.le_succ _)
 refine bodyPost_ret (v:=.agg #[.slice (some ⟨w.heap.size+1,0,none⟩) 1 1,.slice p n c]) (by simp [results,Tryz.results8,go_sem]) rfl ⟨_,rfl,?_,?_,Nat.le_succ _,hO,hB⟩
 ·exact hO.nums
 ·exact H.out.up hB
theorem bw1:leafR ([]:List Nd) [1] [12884901888]=0∧leafE ([]:List Nd) [1] [12884901888]=0∧leafN ([]:List Nd) [1] [12884901888]=([⟨1,-1,-1,0,[1],[12884901888]⟩]:List Nd):=⟨by decide +kernel,by decide +kernel,if_pos ⟨by decide +kernel,by decide +kernel⟩⟩
theorem bw2:doR ([⟨1,-1,-1,0,[1],[12884901888]⟩]:List Nd) 4 0 0 0=1∧doE ([⟨1,-1,-1,0,[1],[12884901888]⟩]:List Nd) 4 0 0 0=0∧doN ([⟨1,-1,-1,0,[1],[12884901888]⟩]:List Nd) 4 0 0 0=([⟨1,-1,-1,0,[1],[12884901888]⟩,⟨4,0,0,0,[1],[38654705664]⟩]:List Nd):=by
 have h0:doP ([⟨1,-1,-1,0,[1],[12884901888]⟩]:List Nd) 4 0 0 0:=by decide +kernel
 refine ⟨if_pos h0,by decide +kernel,(if_pos h0).trans ?_⟩
 have h1:rkD 4 [1] [12884901888] [1] [12884901888] 0 = [1]:=by decide +kernel
 have h2:rkV 4 [1] [12884901888] [1] [12884901888] 0 = [38654705664]:=by decide +kernel
 show ([⟨1,-1,-1,0,[1],[12884901888]⟩]:List Nd)++[⟨4,0,0,0,rkD 4 [1] [12884901888] [1] [12884901888] 0,rkV 4 [1] [12884901888] [1] [12884901888] 0⟩]=_
 rw [h1,h2]
 rfl
theorem bw3:swE ([⟨1,-1,-1,0,[1],[12884901888]⟩,⟨4,0,0,0,[1],[38654705664]⟩]:List Nd) 1=0∧swL ([⟨1,-1,-1,0,[1],[12884901888]⟩,⟨4,0,0,0,[1],[38654705664]⟩]:List Nd) 1=([([1],[25769803776]),([1],[4294967296])]:List Ten):=⟨by decide +kernel,by decide +kernel⟩
theorem bg1:NodesG ([⟨1,-1,-1,0,[1],[12884901888]⟩]:List Nd)∧NodesV ([⟨1,-1,-1,0,[1],[12884901888]⟩]:List Nd):=by
 have h1:=NodesG.leaf (d:=[1]) (x:=[12884901888]) NodesG.nil (RI_kern (by decide +kernel))
 have h2:=NodesV.leaf (d:=[1]) (x:=[12884901888]) NodesV.nil
 rw [bw1.2.2] at h1 h2
 exact ⟨h1,h2⟩
theorem bg2:NodesG ([⟨1,-1,-1,0,[1],[12884901888]⟩,⟨4,0,0,0,[1],[38654705664]⟩]:List Nd)∧NodesV ([⟨1,-1,-1,0,[1],[12884901888]⟩,⟨4,0,0,0,[1],[38654705664]⟩]:List Nd):=by
 have h1:=NodesG.do (op:=4) (a:=0) (b:=0) (k:=0) bg1.1
 have h2:=NodesV.do (op:=4) (a:=0) (b:=0) (k:=0) bg1.2
 rw [bw2.2.2] at h1 h2
 exact ⟨h1,h2⟩
theorem awake11_any (w:World) (hT:Hid (Tz w)):
  Calls Tryz.prog 5 #[] w fun e w'=>e = .returned (.bool true)∧Below w.heap.size w w':=by
 haveI:Nonempty World:=⟨w⟩
 go_enter Tryz.func5,Tryz.ntmps5
 go_wp2_with fail
 refine (cnew_any w).mono ?_
 rintro e w1 ⟨tb,rfl,hT1,hB1⟩
 have HT1:Hid (TapC w1 w.heap.size tb []∧Below w.heap.size w w1):=⟨hT1,hB1⟩
 clear hT1 hB1
 go_wp2_with fail
 generalize hK:World.alloc _ _=K
 have hL:Below w1.heap.size w1 K:=by rw [← hK];exact up_alloc w1 _
 have l2:Nums .i64 K (.slice (some ⟨w1.heap.size,0,none⟩) 1 1) [12884901888]:=by rw [← hK];exact nums_lit (k:=.i64) w1 [12884901888] 1 (0,0) rfl
 clear hK
 refine (row11_any _ 1 1 [12884901888] K l2 (by decide)).mono ?_
 rintro e r2 ⟨g2,rfl,ha2,hb2,_,_,hB2⟩
 go_wp2_with fail
 have cc:=cleaf_any w.heap.size tb [] NodesG.nil _ _ 1 1 1 1 [1] [12884901888] (RI_kern (by decide +kernel)) (RI_kern (by decide +kernel)) r2 (HT1.out.1.up (bstep hL hB2)) ha2 hb2
 rw [bw1.1,bw1.2.1,bw1.2.2] at cc
 refine cc.mono ?_
 rintro e w2 ⟨rfl,hT2,hC2,_⟩
 have HT2:Hid (TapC w2 w.heap.size tb ([⟨1,-1,-1,0,[1],[12884901888]⟩]:List Nd)∧Below w.heap.size w w2):=⟨hT2,(bstep HT1.out.2 (bstep hL hB2)).trans hC2⟩
 clear cc hT2 hC2 hB2 hL l2 ha2 hb2 HT1
 go_wp2_with fail
 have cc:=cdo_any w.heap.size tb ([⟨1,-1,-1,0,[1],[12884901888]⟩]:List Nd) bg1.1 4 0 0 0 (by unfold InR;omega) w2 HT2.out.1 (Hid.up_tz hT HT2.out.2)
 rw [bw2.1,bw2.2.1,bw2.2.2] at cc
 refine cc.mono ?_
 rintro e w3 ⟨rfl,hT3,hC3,_⟩
 have HT3:Hid (TapC w3 w.heap.size tb ([⟨1,-1,-1,0,[1],[12884901888]⟩,⟨4,0,0,0,[1],[38654705664]⟩]:List Nd)∧Below w.heap.size w w3):=⟨hT3,HT2.out.2.trans hC3⟩
 clear cc hT3 hC3 HT2
 go_wp2_with fail
 have cc:=csweep_any w.heap.size tb ([⟨1,-1,-1,0,[1],[12884901888]⟩,⟨4,0,0,0,[1],[38654705664]⟩]:List Nd) bg2.1 bg2.2 (NodesK.of (by decide +kernel)) (by decide) 1 w3 HT3.out.1 (Hid.up_tz hT HT3.out.2)
 rw [bw3.1,bw3.2] at cc
 refine cc.mono ?_
 rintro e w4 ⟨v4,rfl,hO4,hB4⟩
 obtain ⟨p4,c4,rfl,hc4⟩:=hO4.form
 obtain ⟨q4,s0,u0,ep,x00,x01,hs0,hu0⟩:=hO4.at 0 _ rfl
 obtain ⟨q5,s1,u1,ep',x10,x11,hs1,hu1⟩:=hO4.at 1 _ rfl
 rw [ep] at ep'
 cases ep'
 subst ep
 obtain ⟨ps0,ns0,cs0,rfl⟩:=hs0.form_
 obtain ⟨pu0,nu0,cu0,rfl⟩:=hu0.form_
 obtain ⟨ps1,ns1,cs1,rfl⟩:=hs1.form_
 obtain ⟨pu1,nu1,cu1,rfl⟩:=hu1.form_
 have HB4:Hid (Below w.heap.size w w4):=bstep HT3.out.2 hB4
 have HV0:Hid (Tn [1] [25769803776] (.agg #[.slice ps0 ns0 cs0,.slice pu0 nu0 cu0]) w4):=⟨_,_,_,_,_,_,rfl,hs0.nums,hu0.nums⟩
 have HV1:Hid (Tn [1] [4294967296] (.agg #[.slice ps1 ns1 cs1,.slice pu1 nu1 cu1]) w4):=⟨_,_,_,_,_,_,rfl,hs1.nums,hu1.nums⟩
 have z4:=cell_lt x00
 simp only [List.length_cons,List.length_nil,Nat.zero_add,Nat.reduceAdd] at hc4 ⊢
 clear cc hO4 hB4 HT3 hs0 hu0 hs1 hu1
 have ck0:Hid (∀ W v,Below w4.heap.size w4 W→Tn [1] [25769803776] v W→Calls Tryz.prog 16 #[.agg #[.slice ps0 ns0 cs0,.slice pu0 nu0 cu0],v] W fun e w'=>e = .returned (.bool true)∧Below W.heap.size W w'):=fun W v hW hv=>by
  have ca:=alike_tn (HV0.out.up hW) hv (by unfold Few;simp) (by unfold Few;simp)
  rw [decide_eq_true ⟨rfl,rfl⟩] at ca
  exact ca
 have ck1:Hid (∀ W v,Below w4.heap.size w4 W→Tn [1] [4294967296] v W→Calls Tryz.prog 16 #[.agg #[.slice ps1 ns1 cs1,.slice pu1 nu1 cu1],v] W fun e w'=>e = .returned (.bool true)∧Below W.heap.size W w'):=fun W v hW hv=>by
  have ca:=alike_tn (HV1.out.up hW) hv (by unfold Few;simp) (by unfold Few;simp)
  rw [decide_eq_true ⟨rfl,rfl⟩] at ca
  exact ca
 go_wp2_with fail
 refine rel [⟨11,42,LitN [25769803776]⟩,⟨12,43,Tn [1] [25769803776]⟩,⟨19,50,LitN [4294967296]⟩,⟨20,51,Tn [1] [4294967296]⟩] 23 54 (by kernel_rfl) rfl rfl (by kernel_rfl) (by rfl) ?_ ?_
 ·intro e he v W W' h hb
  simp only [List.mem_cons,List.not_mem_nil,or_false] at he
  rcases he with rfl|rfl|rfl|rfl
  ·exact LitN.up h hb
  ·exact Tn.up h hb
  ·exact LitN.up h hb
  ·exact Tn.up h hb
 apply Exists.intro
 refine ⟨fun x=>?_,?_,?_⟩
 ·simp only [List.take_succ_cons,List.take_zero]
  iterate 11
   refine relQuiet rfl rfl ?_
   apply Exists.intro
   refine ⟨fun F hF hf K hK=>?_,?_⟩
   ·have hFc:=hF.cell
    have hFf:=hF.frozen
    go_big_quiet_op
    first|exact hK|(apply Exists.intro;refine ⟨fun _=>?_,?_⟩;(· fail);exact hK)
   (try simp only [Act.put,List.setIfInBounds_toArray,List.set_cons_zero,List.set_cons_succ])
  refine relTold rfl rfl ?_ ?_
  ·intro F hF hf d
   have hFc:=hF.cell
   have hFf:=hF.frozen
   simp [yieldsR,yieldsUpon,go_sem]
   exact ⟨⟨(F d).heap.size,rfl,nums_lit (k:=.i64) (F d) [25769803776] 1 (0,0) rfl⟩,up_alloc _ _⟩
  (try simp only [Act.put,List.setIfInBounds_toArray,List.set_cons_zero,List.set_cons_succ])
  refine relTold rfl rfl ?_ ?_
  ·intro F hF hf d
   have hFc:=hF.cell
   have hFf:=hF.frozen
   have h9:=hf _ List.mem_cons_self (by rfl) d
   obtain ⟨g9,e9,n9⟩:=h9
   simp only [] at e9 n9
   rw [e9] at n9
   simp [yieldsR,yieldsUpon,go_sem,e9]
   refine (row11_any _ 1 1 [25769803776] (F d) n9 (by decide)).mono ?_
   rintro e' w8 ⟨g8,rfl,ha8,hb8,_,_,hB8⟩
   exact ⟨_,rfl,⟨_,_,_,_,_,_,rfl,ha8,hb8⟩,hB8⟩
  (try simp only [Act.put,List.setIfInBounds_toArray,List.set_cons_zero,List.set_cons_succ])
  refine relQuiet rfl rfl ?_
  apply Exists.intro
  refine ⟨fun F hF hf K hK=>?_,?_⟩
  ·have hFc:=hF.cell
   have hFf:=hF.frozen
   go_big_quiet_op
   first|exact hK|(apply Exists.intro;refine ⟨fun _=>?_,?_⟩;(· exact hF.call (ck0.out _ _ (hF.below _) (hf _ (List.mem_cons_of_mem _ List.mem_cons_self) (by rfl) _)));exact hK)
  iterate 5
   (try simp only [Act.put,List.setIfInBounds_toArray,List.set_cons_zero,List.set_cons_succ])
   refine relQuiet rfl rfl ?_
   apply Exists.intro
   refine ⟨fun F hF hf K hK=>?_,?_⟩
   ·have hFc:=hF.cell
    have hFf:=hF.frozen
    go_big_quiet_op
    first|exact hK|(apply Exists.intro;refine ⟨fun _=>?_,?_⟩;(· fail);exact hK)
  (try simp only [Act.put,List.setIfInBounds_toArray,List.set_cons_zero,List.set_cons_succ])
  refine relTold rfl rfl ?_ ?_
  ·intro F hF hf d
   have hFc:=hF.cell
   have hFf:=hF.frozen
   simp [yieldsR,yieldsUpon,go_sem]
   exact ⟨⟨(F d).heap.size,rfl,nums_lit (k:=.i64) (F d) [4294967296] 1 (0,0) rfl⟩,up_alloc _ _⟩
  (try simp only [Act.put,List.setIfInBounds_toArray,List.set_cons_zero,List.set_cons_succ])
  refine relTold rfl rfl ?_ ?_
  ·intro F hF hf d
   have hFc:=hF.cell
   have hFf:=hF.frozen
   have h9:=hf _ (List.mem_cons_of_mem _ (List.mem_cons_of_mem _ List.mem_cons_self)) (by rfl) d
   obtain ⟨g9,e9,n9⟩:=h9
   simp only [] at e9 n9
   rw [e9] at n9
   simp [yieldsR,yieldsUpon,go_sem,e9]
   refine (row11_any _ 1 1 [4294967296] (F d) n9 (by decide)).mono ?_
   rintro e' w8 ⟨g8,rfl,ha8,hb8,_,_,hB8⟩
   exact ⟨_,rfl,⟨_,_,_,_,_,_,rfl,ha8,hb8⟩,hB8⟩
  (try simp only [Act.put,List.setIfInBounds_toArray,List.set_cons_zero,List.set_cons_succ])
  refine relQuiet rfl rfl ?_
  apply Exists.intro
  refine ⟨fun F hF hf K hK=>?_,?_⟩
  ·have hFc:=hF.cell
   have hFf:=hF.frozen
   go_big_quiet_op
   first|exact hK|(apply Exists.intro;refine ⟨fun _=>?_,?_⟩;(· exact hF.call (ck1.out _ _ (hF.below _) (hf _ (List.mem_cons_of_mem _ (List.mem_cons_of_mem _ (List.mem_cons_of_mem _ List.mem_cons_self))) (by rfl) _)));exact hK)
  (try simp only [Act.put,List.setIfInBounds_toArray,List.set_cons_zero,List.set_cons_succ])
  refine relQuiet rfl rfl ?_
  apply Exists.intro
  refine ⟨fun F hF hf K hK=>?_,?_⟩
  ·have hFc:=hF.cell
   have hFf:=hF.frozen
   go_big_quiet_op
   first|exact hK|(apply Exists.intro;refine ⟨fun _=>?_,?_⟩;(· fail);exact hK)
  (try simp only [Act.put,List.setIfInBounds_toArray,List.set_cons_zero,List.set_cons_succ])
  refine relEnd ?_
  exact rfl
 ·intro x
  simp only [putsK,List.foldl_cons,List.foldl_nil,Act.put,List.setIfInBounds_toArray,List.set_cons_zero,List.set_cons_succ]
 ·intro w9 xs hB9 hf
  simp only [List.drop_succ_cons,List.drop_zero]
  have HB9:Hid (Below w.heap.size w w9):=bstep HB4.out hB9
  clear hf hB9 x00 x01 x10 x11 z4
  go_wp2
  go_ret
  exact ⟨rfl,HB9.out⟩
end Go.Proofs.YtaiigfhicaelkabGreatDoor.Wd
