/- Parts: DFo. -/
import Derived.Test.YtphjbbbnbmafnaaGreatDoorDBq
import Derived.Test.YtphjbbbnbmafnaaGreatDoorXQs
set_option maxHeartbeats 16000000
set_option maxRecDepth 100000
namespace Go.Proofs.YtphjbbbnbmafnaaGreatDoor.G
open Go.RowKit Go.Shelf RxM
variable {t:Rx} {u:Nat} {sn:Nat->Nat->Bool}
def WK:Array Value->Bool
 | ⟨v::l⟩=>isNil v&&cntF l 40401
 | ⟨[]⟩=>false
set_option maxRecDepth 1000000 in
theorem MQ:WK Tryz.zeroCells160=true:=by kernel_rfl
theorem PW:zw=Tryz.zeroCells160:=by
 have h:=MQ;obtain⟨l⟩:∃ l,Tryz.zeroCells160=⟨l⟩:=⟨Tryz.zeroCells160.toList,rfl⟩;rename_i hl;rw[hl]at h ⊢;cases l with
 | nil=>cases h
 | cons v l =>
  simp only[WK,aD6]at h;rw[UZ h.1,Q7 h.2];rfl
theorem CG(f:Nat->Bool)(n x:Nat)(b:Bool):(bools f n).set x (.bool b)=bools (fun v=>if v=x then b else f v) n:=by
 apply aG6;intro k;by_cases hk:k<n
 ·by_cases e:x=k
  ·subst e;rw[aE5 (by simpa using hk),gU _ _ _ hk,if_pos rfl]
  ·rw[aF4 e,gU _ _ _ hk,gU _ _ _ hk,if_neg (fun e2=>e e2.symm)]
 ·rw[aC7 (by simp;omega),aC7 (by simp;omega)]
theorem lD{f g:Nat->Bool}{n:Nat}(h:∀ v,v<n->f v=g v):bools f n=bools g n :=
 aF2 fun v hv=>by rw[h v (List.mem_range.1 hv)]
def fo(t:Rx)(u:Nat)(sn:Nat->Nat->Bool)(i v:Nat):Bool:=(decide (v=u)&&nul t)||((lasts t 0).take i).any (fun p=>sn p v)
theorem Y8{i p:Nat}(h:(lasts t 0)[i]?=some p)(v:Nat):fo t u sn (i+1) v=(fo t u sn i v||sn p v):=by
 unfold fo;rw[aE0,h,aH4,List.any_append];simp[Bool.or_assoc]
theorem aAp{E:Nat->Nat->Nat->Prop}(h:∀ q v,sn q v=true↔RxM.Way E t 0 u q v)(v:Nat):fo t u sn (lasts t 0).length v=true↔rel E t u v:=by
 rw[<-XG];unfold fo;rw[aE3,aF1,aD6,decide_eq_true_eq,List.any_eq_true];constructor
 ·rintro(h1 | ⟨p,h1,h2⟩)
  ·exact .inl h1
  ·exact .inr ⟨p,h1,(h p v).1 h2⟩
 ·rintro(h1 | ⟨p,h1,h2⟩)
  ·exact .inl h1
  ·exact .inr ⟨p,h1,(h p v).2 h2⟩
theorem Tryz.infoEs:(Tryz.prog.info? 24).map (fun i=>(i.zero,i.size,i.bytes))=some (some (.slice none 0 0),1,24):=by kernel_rfl
theorem Tryz.infoBs:(Tryz.prog.info? 101).map (fun i=>(i.zero,i.size,i.bytes))=some (some (.slice none 0 0),1,24):=by kernel_rfl
theorem Tryz.infoBo:(Tryz.prog.info? 4).map (fun i=>(i.zero,i.size,i.bytes))=some (some (.bool false),1,1):=by kernel_rfl
theorem Tryz.infoSpo:(Tryz.prog.info? 167).map (fun i=>(i.zero,i.size,i.bytes))=some (some (.agg #[.int .i64 0,.int .i64 0]),2,16):=by kernel_rfl
theorem Tryz.infoEd:(Tryz.prog.info? 38).map (fun i=>(i.zero,i.size,i.bytes))=some (some (.agg #[.int .i64 0,.int .i64 0,.int .i64 0]),3,24):=by kernel_rfl
theorem OB(Gb n p u:Nat)(a0:Option Addr)(cE:Nat)(L:List E3)(t:Rx)(F:Nat->Prop)(h:Nat)(w:World)(hG0:w.cell? ⟨Gb,0,none⟩=some (.int .i64 (n:Int)))(hG2:w.cell? ⟨Gb,2,none⟩=some (.slice a0 L.length cE))
 (hE:∀(j:Nat) (e:E3),L[j]?=some e->∃ g off,a0=some ⟨g,off,none⟩/\w.cell? ⟨g,off+j*3,none⟩=some (.int .i64 e.1)/\w.cell? ⟨g,off+j*3+1,none⟩=some (.int .i64 e.2.1)/\w.cell? ⟨g,off+j*3+2,none⟩=some (.int .i64 e.2.2))
 (hok:∀ e∈L,∃ a c b:Nat,e=((a:Int),(c:Int),(b:Int))/\a<n/\b<n) (hn:n<=10000) (hL:L.length<=20000) (hu:u<n) (hT:dS w F h p t) (hF:∀ k,F k->k<w.heap.size) (hsz:size t<=200) :
 Calls Tryz.prog 47 #[.pointer (some ⟨Gb,0,none⟩),.pointer (some ⟨p,0,none⟩),.int .i64 (u:Int)] w fun e w'=>∃ g f,e = .returned (slN n g)/\w'.ownsRow w.heap.size 4 1 (slN n g) n (bools f n)/\(∀ v,v<n->(f v=true↔rel (uV L) t u v))/\Below w.heap.size w w':=by
 have hZ:=PW;obtain⟨W0,cM⟩:∃ W0,W0=w.alloc (.cells Tryz.zeroCells160 160):=⟨_,rfl⟩;have hJ:Below w.heap.size w W0:=by rw[cM];exact aA _ _
 have hwy:dH W0 w.heap.size w.heap.size (.slice none 0 0) [] (fun _ _=>false):=by rw[cM,<-hZ];exact TJ w _ (V7 _)
 have HGo:Hid (Calls Tryz.prog 82 #[.pointer (some ⟨w.heap.size,0,none⟩),.pointer (some ⟨p,0,none⟩)] W0 _):=JB h w.heap.size w.heap.size (.slice none 0 0) [] (fun _ _=>false) p t F W0 (hT.same (Same.below hJ) (fun _ _=>id) (fun _=>id)) hF hwy (by simp;omega);obtain⟨i1,hi1,hz0,hz1,hz2⟩:=info_parts Tryz.infoEs;obtain⟨i2,hi2,hy0,hy1,hy2⟩:=info_parts Tryz.infoEd;obtain⟨i3,hi3,ha0,ha1,ha2⟩:=info_parts Tryz.infoBs;obtain⟨i4,hi4,hb0,d9,c7⟩:=info_parts Tryz.infoBo;obtain⟨i5,hi5,hc0,hc1,hc2⟩:=info_parts Tryz.infoSpo;obtain⟨cm,cA⟩:∃ cm,cm=madeCells #[.slice none 0 0] (size t*1):=⟨_,rfl⟩;have e6:∀ W,(Instr.makeSlice 165 (.int .i64 (size t:Int)) (.int .i64 (size t:Int))).run Tryz.prog W = .ok (.slice (some ⟨W.heap.size,0,none⟩) (size t) (size t)) (W.alloc (.cells cm 101)):=fun W=>by
  have:=run_make (P:=Tryz.prog) W 165 101 i3 _ Tryz.underlying165 hi3 ha0 .i64 .i64 (size t:Int) (size t:Int) (by omega) (by omega) (by rw[ha2];omega) (by omega);rw[ha1,aG3]at this;rw[cA];exact this
 obtain⟨cb,cF⟩:∃ cb,cb=madeCells #[.bool false] (n*1):=⟨_,rfl⟩;have e5:∀ W,(Instr.makeSlice 101 (.int .i64 (n:Int)) (.int .i64 (n:Int))).run Tryz.prog W = .ok (.slice (some ⟨W.heap.size,0,none⟩) n n) (W.alloc (.cells cb 4)):=fun W=>by
  have:=run_make (P:=Tryz.prog) W 101 4 i4 _ Tryz.underlying101 hi4 hb0 .i64 .i64 (n:Int) (n:Int) (by omega) (by omega) (by rw[c7];omega) (by omega);rw[d9,aG3]at this;rw[cF];exact this
 have HMk:Hid (_/\_/\_/\_):=⟨e6,e5,cA,cF⟩;clear e6 e5 cA cF;obtain⟨cn,dM⟩:∃ cn,cn=madeCells #[.slice none 0 0] (n*1):=⟨_,rfl⟩;have mkn:∀ W,(Instr.makeSlice 164 (.int .i64 (n:Int)) (.int .i64 (n:Int))).run Tryz.prog W = .ok (.slice (some ⟨W.heap.size,0,none⟩) n n) (W.alloc (.cells cn 24)):=fun W=>by
  have:=run_make (P:=Tryz.prog) W 164 24 i1 _ Tryz.underlying164 hi1 hz0 .i64 .i64 (n:Int) (n:Int) (by omega) (by omega) (by rw[hz2];omega) (by omega);rw[hz1,aG3]at this;rw[dM];exact this
 have HJ:Hid _:=hJ;have HE:Hid (_/\_):=⟨hE,hok⟩;have HZ:Hid (_/\_):=⟨hZ,dM⟩;clear hJ hE hok hZ dM hwy hT hF;go_enter Tryz.func47,Tryz.ntmps47
 go_wp2_with fail
 rw[<-cM];have HW0:Hid _:=cM;clear cM;refine HGo.out.mono ?_;rintro e w1 ⟨vf,vl,vL1,rfl,hw1,hf,hl,hne,hs1,d9,hv1⟩;have hlw:=hw1.lt;have hz1:W0.heap.size<=w1.heap.size:=hs1.1;have hzw:w.heap.size<W0.heap.size:=by have:=(aC2.1 (show W0.heap[w.heap.size]?=some _ from by rw[HW0.out];exact heap_alloc_new w _)).1;exact this
 simp only[aJ2,aI3]at hw1 hf hl;obtain⟨aL,cL,hvL⟩:∃ aL cL,vL1 = .slice aL (size t) cL:=by
  rcases hw1.own.2 with ⟨h0,h1⟩ | ⟨g,cap,cur,h1,_⟩
  ·exact⟨none,0,by rw[h0];rw[cK]at h1;rw[h1]⟩
  ·exact⟨_,_,by rw[h1,cK]⟩
 subst hvL;obtain⟨m0,_⟩:=hw1.mat.head;have c7:=aA w1 (.cells #[.int .i64 ((size t:Nat):Int)] 3);have eK:=hw1.same (Same.below c7) id (fun _ _=>id);have dT:=hf.same (Same.below c7) (fun _ _=>id);have hl2:=hl.same (Same.below c7) (fun _ _=>id);have ho2:=FO w1 (size t);have HJo:Hid (Calls Tryz.prog 83 #[.pointer (some ⟨w.heap.size,0,none⟩),.slice (some ⟨w1.heap.size,0,none⟩) 1 1,vf] (w1.alloc (.cells #[.int .i64 ((size t:Nat):Int)] 3)) _):=tH w.heap.size _ _ vf [size t] (aW t 0) _ _ eK.mat ho2.int dT.int (fun k e=>by simp only[Value.ownBlock,aC5]at e;omega) (fun k e=>by have:=(dT.own.lt k e).1;omega) (fun x hx=>by rw[aF8]at hx;omega) (uT (by omega)) (by simp) (by have:=cZ t 0;omega);have HD:Hid (_/\_/\_/\_):=⟨eK,dT,hl2,(HJ.out.trans (d9.mono (V7 _))).trans (c7.mono (by omega))⟩;clear hw1 hf hl hne hs1 d9 hv1 c7 eK dT hl2 ho2;go_wp2_with fail
 refine HJo.out.mono ?_;rintro e w3 ⟨rfl,cG,hs3,hb3⟩;have hz3:w1.heap.size<w3.heap.size:=by have:=hs3.1;rw[aD1]at this;omega
 have bS:Below w.heap.size w w3:=HD.out.2.2.2.trans (hb3 w.heap.size (V7 _));have hm4:fV w3 w.heap.size (.slice aL (size t) cL) (nx t):=cG.is (fun x y=>by
  rw[jX];unfold nx;by_cases e:x=size t
  ·rw[if_pos e];subst e;have:nxt t 0 (size t) y=false:=by
    cases hq:nxt t 0 (size t) y with
    | false=>rfl
    | true=>have:=(fE _ _ _ _ hq).1;omega
   simp[this]
  ·rw[if_neg e];simp[e])
 have HM:Hid (dH w3 w.heap.size w.heap.size (.slice aL (size t) cL) (aM t) (nx t)/\Lst w3 W0.heap.size vf (aW t 0)/\Lst w3 W0.heap.size vl (lasts t 0)/\Below w.heap.size w w3):=(⟨⟨hm4,aF HD.out.1.own hs3 (fun k e=>HD.out.1.ne k e),HD.out.1.ne,V7 _⟩,HD.out.2.1.same hs3 (fun k e=>by have:=(HD.out.2.1.own.lt k e).1;omega),HD.out.2.2.1.same hs3 (fun k e=>by have:=(HD.out.2.2.1.own.lt k e).1;omega),bS⟩:_/\_/\_/\_);have g0:=cell_kept bS _ _ hG0;have g2:=cell_kept bS _ _ hG2;clear cG hm4 hs3 hb3 m0 bS;obtain⟨W4,cN⟩:∃ W4,W4=w3.alloc (.cells cn 24):=⟨_,rfl⟩;have hJ4:Below w3.heap.size w3 W4:=by rw[cN];exact aA _ _
 have q4:W4.heap[w3.heap.size]?=some (.cells cn 24 (0,0)):=by rw[cN];exact heap_alloc_new w3 _
 have b8:Hid (JK W4 w3.heap.size w3.heap.size n (List.replicate n (.slice none 0 0)) (List.replicate n [])/\Below w3.heap.size w3 W4):=(⟨⟨⟨by simp,.inr ⟨_,n,cn,rfl,V7 _,q4,V7 _,by unfold maxLen;omega,by rw[HZ.out.2,size_madeCells],by rw[HZ.out.2,toList_madeCells_one,Nat.mul_one,aD2 (by simp)]⟩⟩,by simp,by simp,(fun u v l e1 e2=>by
  rw[aK3 (aC3 e1),aK3 (aC3 e2)];exact⟨rfl,.inl ⟨rfl,rfl⟩⟩),(fun u v g e1 e2=>by rw[aK3 (aC3 e1)]at e2;cases e2),(fun u u' v v' g _ e1 _ e3=>by rw[aK3 (aC3 e1)]at e3;cases e3)⟩,hJ4⟩:_/\_)
 clear hJ4 q4;go_upto_region 6 with fail
 rw[<-cN];have HW4:Hid _:=cN;clear cN mkn;go_wp2;go_loopw [13] (fun s13 wr=>∃(i:Nat) (vs:List Value) (ls:List (List E3)),i<=L.length/\s13 = .int .i64 (i:Int)/\Hid (JK wr w3.heap.size w3.heap.size n vs ls/\(∀ x,x<n->ls[x]?=some (eH (L.take i) x))/\Below w3.heap.size w3 wr)) (fun s13 _=>L.length-(intOf s13).toNat)
 case atStart=>exact⟨0,_,_,by omega,rfl,b8.out.1,fun x hx=>by rw[aE9,if_pos hx];rfl,b8.out.2⟩
 case round =>
  obtain⟨i,vs,ls,hi,rfl,HI⟩:=hrel;have a3:Hid (JK wr w3.heap.size w3.heap.size n vs ls/\(∀ x,x<n->ls[x]?=some (eH (L.take i) x))/\Below w3.heap.size w3 wr):=HI.out;clear HI;have hzr:w3.heap.size<=wr.heap.size:=a3.out.2.2.size;have k2:=cell_kept a3.out.2.2 _ _ g2;by_cases hlt:i<L.length
  ·have hiI:(i:Int)<(L.length:Int):=by omega
   obtain⟨e,he⟩:∃ e,L[i]?=some e:=⟨_,A7 hlt⟩;obtain⟨ge,off,rfl,e0,e1,e2⟩:=HE.out.1 i e he;obtain⟨a,c,b,rfl,ha,hb⟩:=HE.out.2 e (aC3 he);have d6:Below w.heap.size w wr:=HM.out.2.2.2.trans (a3.out.2.2.mono HM.out.2.2.2.size);have f0:=cell_kept d6 _ _ e0;have f1:=cell_kept d6 _ _ e1;have f2:=cell_kept d6 _ _ e2;simp only at f0 f1 f2;obtain⟨va,b6⟩:∃ va,vs[a]?=some va:=⟨_,A7 (by rw[a3.out.1.l1];exact ha)⟩;have eI:=a3.out.2.1 a ha;have kF:wr.cell? ⟨w3.heap.size,a,none⟩=some va:=by rw[a3.out.1.own.cellAt a (by omega)];exact b6
   have haI:(a:Int)<(n:Int):=by omega
   have hll:(eH (L.take i) a).length<=20000:=by
    have:=aE8 (fun e=>decide (e.1=(a:Int))) (L.take i);rw[aD7]at this;unfold eH;omega
   have HX:Hid (_/\_/\_):=⟨he,b6,eI⟩;have b9:Hid _:=a3.out.1.ea a va _ b6 eI;have x2:=fun o=>cell_kept (aA wr o) _ _ k2;have y0:=fun o=>cell_kept (aA wr o) _ _ f0;have y1:=fun o=>cell_kept (aA wr o) _ _ f1;have y2:=fun o=>cell_kept (aA wr o) _ _ f2;have yF:=fun o=>cell_kept (aA wr o) _ _ kF;have b0:∀ k,va.ownBlock=some k->w3.heap.size<=k/\k≠w3.heap.size:=fun k ek=>⟨(World.ownsRow.lt b9.out k ek).1,a3.out.1.ne a va k b6 ek⟩;have hGb:Gb<w.heap.size:=aE6 _ _ hG2;have hge:ge<w.heap.size:=aE6 _ _ e0;have hw3w:w.heap.size<=w3.heap.size:=HM.out.2.2.2.size;clear he b6 eI e0 e1 e2 d6 g0 g2 hG0 hG2;go_upto_region 9 with fail
   obtain⟨S,hS⟩:∃ S:World->Prop,S=fun w'=>w'.cell? ⟨Gb,2,none⟩=some (.slice (some ⟨ge,off,none⟩) L.length cE)/\w'.cell? ⟨ge,off+i*3,none⟩=some (.int .i64 (a:Int))/\w'.cell? ⟨ge,off+i*3+1,none⟩=some (.int .i64 (c:Int))/\w'.cell? ⟨ge,off+i*3+2,none⟩=some (.int .i64 (b:Int))/\w'.cell? ⟨w3.heap.size,a,none⟩=some va:=⟨_,rfl⟩;have cD:∀{w':World},S w'->w'.cell? ⟨Gb,2,none⟩=some (.slice (some ⟨ge,off,none⟩) L.length cE)/\w'.cell? ⟨ge,off+i*3,none⟩=some (.int .i64 (a:Int))/\w'.cell? ⟨ge,off+i*3+1,none⟩=some (.int .i64 (c:Int))/\w'.cell? ⟨ge,off+i*3+2,none⟩=some (.int .i64 (b:Int))/\w'.cell? ⟨w3.heap.size,a,none⟩=some va:=fun h=>by rw[hS]at h;exact h
   have bW:S wr.drew:=by rw[hS];exact⟨k2,f0,f1,f2,kF⟩
   have s0:∀ u,(kept S wr.drew u).cell? ⟨Gb,2,none⟩=some (.slice (some ⟨ge,off,none⟩) L.length cE):=fun u=>by exact(cD (nK bW u)).1
   have s1:∀ u,(kept S wr.drew u).cell? ⟨ge,off+i*3,none⟩=some (.int .i64 (a:Int)):=fun u=>by exact(cD (nK bW u)).2.1
   have s2:∀ u,(kept S wr.drew u).cell? ⟨ge,off+i*3+1,none⟩=some (.int .i64 (c:Int)):=fun u=>by exact(cD (nK bW u)).2.2.1
   have s3:∀ u,(kept S wr.drew u).cell? ⟨ge,off+i*3+2,none⟩=some (.int .i64 (b:Int)):=fun u=>by exact(cD (nK bW u)).2.2.2.1
   have s4:∀ u,(kept S wr.drew u).cell? ⟨w3.heap.size,a,none⟩=some va:=fun u=>by exact(cD (nK bW u)).2.2.2.2
   have HS:Hid _:=hS;clear hS cD;refine qE S 27 bW (Nat.le_of_ble_eq_true (by kernel_rfl)) rfl (by kernel_rfl) (by kernel_rfl) (by kernel_rfl) ⟨by kernel_rfl,by kernel_rfl⟩ ?_;simp only[List.dropLast,List.take,List.drop];repeat (go_big_quiet_step (fail))
   refine wpQuiet_nil ?_;simp only[List.getLast];intro K hK;go_simp;refine hK.out _ _ (by rw[HS.out];exact⟨x2 _,y0 _,y1 _,y2 _,yF _⟩) (fun _ => ?_);clear hK K;intro K hK;refine bI _ (by rfl) _ _ _ (by rfl) w3.heap.size 38 i2 _ 3 24 Tryz.underlying24 hi2 hy0 hy1 hy2 rfl (by omega) va (eH (L.take i) a).length (flat (eH (L.take i) a)) (by rfl) (World.ownsRow.alloc (World.ownsRow.drew b9.out) _) ⟨wr.heap.size,0,none⟩ 1 1 [.int .i64 (a:Int),.int .i64 (c:Int),.int .i64 (b:Int)] (by rfl) (by rfl) (aG4 (cs:=#[.int .i64 (a:Int),.int .i64 (c:Int),.int .i64 (b:Int)]) (t:=38) (fr:=(0,0)) (heap_alloc_new wr.drew _)) (by simp[Value.oneCell']) (by omega) (by unfold maxLen;omega) (by omega) (by simp;omega) ?_;intro g5 cap5 w5 hown5 hg5;have a9:Same wr w5 (fun k=>va.ownBlock=some k):=((Same.below ((aA wr.drew (.cells #[.int .i64 (a:Int),.int .i64 (c:Int),.int .i64 (b:Int)] 38)))).trans (dN hg5)).mono (fun k _ e=>e.elim (fun e=>e.elim) id);have jF:=a9.cell kF (fun e=>(b0 _ e).2 rfl);have jz:=(aF a3.out.1.own a9 (fun k ek e=>by simp only[Value.ownBlock,aC5]at ek;subst ek;exact(b0 _ e).2 rfl)).frozenAt a;refine hK.out _ _ (by rw[HS.out];exact⟨a9.cell k2 (fun e=>by have:=(b0 _ e).1;simp only at this;omega),a9.cell f0 (fun e=>by have:=(b0 _ e).1;simp only at this;omega),a9.cell f1 (fun e=>by have:=(b0 _ e).1;simp only at this;omega),a9.cell f2 (fun e=>by have:=(b0 _ e).1;simp only at this;omega),jF⟩) (fun _ => ?_);clear hK K;simp only[Act.put,aL2,aJ7,List.set_cons_succ];intro K hK;go_simp;refine hK.out _ _ (by rw[HS.out];exact⟨a9.cell k2 (fun e=>by have:=(b0 _ e).1;simp only at this;omega),a9.cell f0 (fun e=>by have:=(b0 _ e).1;simp only at this;omega),a9.cell f1 (fun e=>by have:=(b0 _ e).1;simp only at this;omega),a9.cell f2 (fun e=>by have:=(b0 _ e).1;simp only at this;omega),jF⟩) (fun _ => ?_);clear hK K;have c8:Below wr.heap.size wr (wr.drew.alloc (.cells #[.int .i64 (a:Int),.int .i64 (c:Int),.int .i64 (b:Int)] 38)):=((YQ _ wr).drew).trans (aA wr.drew _);have cH:=(a3.out.1.below c8).push (by simp;omega) HX.out.2.1 HX.out.2.2 ((a:Int),(c:Int),(b:Int)) g5 cap5 hown5 hg5;have HN:Hid (JK (w5.setCell ⟨w3.heap.size,a,none⟩ (.slice (some ⟨g5,0,none⟩) ((eH (L.take i) a).length+1) cap5)) w3.heap.size w3.heap.size n (vs.set a (.slice (some ⟨g5,0,none⟩) ((eH (L.take i) a).length+1) cap5)) (ls.set a (eH (L.take i) a++[((a:Int),(c:Int),(b:Int))]))/\(∀ x,x<n->(ls.set a (eH (L.take i) a++[((a:Int),(c:Int),(b:Int))]))[x]?=some (eH (L.take (i+1)) x))/\Below w3.heap.size w3 (w5.setCell ⟨w3.heap.size,a,none⟩ (.slice (some ⟨g5,0,none⟩) ((eH (L.take i) a).length+1) cap5))):=(⟨cH.1,fun x hx=>by
    rw[aE0,HX.out.1,aH4,MB];by_cases e:a=x
    ·subst e;rw[aE5 (by rw[a3.out.1.l2];exact hx),if_pos rfl]
    ·rw[aF4 e,if_neg (by simp;omega)];exact a3.out.2.1 x hx,a3.out.2.2.trans ((c8.mono hzr).trans cH.2.2)⟩:_/\_/\_)
   clear cH c8 hown5 hg5 a9;refine yX ?_;go_simp;clear HS bW s0 s1 s2 s3 s4 x2 y0 y1 y2 yF k2 f0 f1 f2 kF;go_wp2;go_roundw;case rel=>exact⟨i+1,_,_,by omega,by go_num,HN.out⟩
   case measure=>simp[intOf];omega
  ·obtain rfl:i=L.length:=by omega
   rename World=>w5;have b1:Hid (JK w5 w3.heap.size w3.heap.size n vs ls/\(∀ x,x<n->ls[x]?=some (eH L x))/\Below w3.heap.size w3 w5):=(⟨a3.out.1,fun x hx=>by have:=a3.out.2.1 x hx;rwa [aE3]at this,a3.out.2.2⟩:_/\_/\_);have c0:=cell_kept a3.out.2.2 _ _ g0;obtain⟨e6,e5,cA,cF⟩:=HMk.out;obtain⟨W6,cQ⟩:∃ W6,W6=w5.alloc (.cells cm 101):=⟨_,rfl⟩;have hB6:Below w5.heap.size w5 W6:=by rw[cQ];exact aA _ _
   have q6:W6.heap[w5.heap.size]?=some (.cells cm 101 (0,0)):=by rw[cQ];exact heap_alloc_new w5 _
   have HS0:Hid (wM W6 w5.heap.size w5.heap.size (size t) n [] (fun _ _=>false)/\Below w5.heap.size w5 W6):=(⟨⟨⟨by simp,.inr ⟨_,size t,cm,rfl,V7 _,q6,V7 _,by unfold maxLen;omega,by rw[cA,size_madeCells],by rw[cA,toList_madeCells_one,Nat.mul_one,aD2 (by simp)];simp⟩⟩,aC6 _,(fun q g e=>by simp at e),(fun g e=>by cases e),(fun q q' g e=>by simp at e)⟩,hB6⟩:_/\_);have cY:Hid _:=cF;clear hB6 q6 HMk cA cF a3 b8;go_upto_region 11 with fail
   rw[<-cQ];have HW6:Hid _:=cQ;clear cQ e6;go_wp2;go_loopw [15] (fun s15 wr=>∃(i:Nat) (gs:List Nat),i<=size t/\s15 = .int .i64 (i:Int)/\Hid (gs.length=i/\wM wr w5.heap.size w5.heap.size (size t) n gs (fun _ _=>false)/\Below w5.heap.size w5 wr)) (fun s15 _=>size t-(intOf s15).toNat)
   case atStart=>exact⟨0,[],by omega,rfl,rfl,HS0.out⟩
   case round =>
    obtain⟨i,gs,hi,rfl,HI⟩:=hrel;have a1:Hid (gs.length=i/\wM wr w5.heap.size w5.heap.size (size t) n gs (fun _ _=>false)/\Below w5.heap.size w5 wr):=HI.out;clear HI;have c1:=cell_kept a1.out.2.2 _ _ c0;by_cases hlt:i<size t
    ·have hiI:(i:Int)<(size t:Int):=by omega
     have c8:=aA wr (.cells cb 4);have a8:=a1.out.2.1.below c8;have d1:(wr.alloc (.cells cb 4)).cell? ⟨w5.heap.size,i,none⟩=some (.slice none 0 0):=by
      rw[a8.own.cellAt i (by omega),aC8 (by simp[a1.out.1]),aE9,if_pos (by simp[a1.out.1];omega)]
     have d2:=a8.own.frozenAt i;have hgS:=(a1.out.2.1.own.lt w5.heap.size rfl).2;have a5:(wr.alloc (.cells cb 4)).ownsRow w5.heap.size 4 1 (slN n wr.heap.size) n (bools (fun _=>false) n):=⟨by simp,.inr ⟨_,n,cb,rfl,a1.out.2.2.size,heap_alloc_new wr _,V7 _,by unfold maxLen;omega,by rw[cY.out,size_madeCells],by rw[cY.out,toList_madeCells_one,Nat.mul_one,aD2 (by simp)];simp[bools,List.map_const']⟩⟩;have bX:=a8.add (by rw[a1.out.1];exact hlt) wr.heap.size (fun hm=>by obtain⟨q,hq⟩:=List.getElem?_of_mem hm;exact absurd ((a1.out.2.1.row q _ hq).lt _ rfl).2 (Nat.lt_irrefl _)) (by omega) a5;rw[a1.out.1]at bX;have HN:Hid ((gs++[wr.heap.size]).length=i+1/\wM ((wr.alloc (.cells cb 4)).setCell ⟨w5.heap.size,i,none⟩ (slN n wr.heap.size)) w5.heap.size w5.heap.size (size t) n (gs++[wr.heap.size]) (fun _ _=>false)/\Below w5.heap.size w5 ((wr.alloc (.cells cb 4)).setCell ⟨w5.heap.size,i,none⟩ (slN n wr.heap.size))):=(⟨by simp[a1.out.1],bX,(a1.out.2.2.trans (c8.mono a1.out.2.2.size)).setCell (p:=⟨w5.heap.size,i,none⟩) (V7 _) _⟩:_/\_/\_);clear bX a5 a8 c8 hgS;go_wp2;go_roundw;case rel=>exact⟨i+1,_,by omega,by go_num,HN.out⟩
     case measure=>simp[intOf];omega
    ·obtain rfl:i=size t:=by omega
     rename World=>w7;obtain⟨W8,cR⟩:∃ W8,W8=w7.alloc (.cells #[.int .i64 (size t:Int),.int .i64 (u:Int)] 167):=⟨_,rfl⟩;have e8:Below w7.heap.size w7 W8:=by rw[cR];exact aA _ _
     have q8:W8.heap[w7.heap.size]?=some (.cells #[.int .i64 (size t:Int),.int .i64 (u:Int)] 167 (0,0)):=by rw[cR];exact heap_alloc_new w7 _
     have cJ:Hid (rC W8 w5.heap.size w5.heap.size w7.heap.size 1 (size t) n gs (fun _ _=>false) [(size t,u)]/\Bq L t u n [(size t,u)] (fun _ _=>false) 0 (fun _ _ _ _ _=>False)/\Below w5.heap.size w5 W8):=(⟨⟨a1.out.2.1.below e8,a1.out.1,⟨rfl,.inr ⟨_,1,_,rfl,a1.out.2.2.size,q8,V7 _,by unfold maxLen;omega,rfl,rfl⟩⟩,by have:=(a1.out.2.1.own.lt w5.heap.size rfl).2;omega,fun hm=>by obtain⟨q,hq⟩:=List.getElem?_of_mem hm;exact absurd ((a1.out.2.1.row q _ hq).lt _ rfl).2 (Nat.lt_irrefl _)⟩,SN hu,a1.out.2.2.trans (e8.mono a1.out.2.2.size)⟩:_/\_/\_);clear e8 q8;have hmn:size t*n<=2000000:=aD9 (aJ9 hsz hn) (by omega);go_upto_region 16 with fail
     rw[<-cR];have HW8:Hid _:=cR;clear cR c1;have HC0:Hid _:=c0;clear c0;go_wp2;go_loopw [16,17] (fun s16 s17 wr=>∃(i gP cP:Nat) (sn:Nat->Nat->Bool) (sp:List (Nat×Nat)),s16 = .slice (some ⟨gP,0,none⟩) sp.length cP/\s17 = .int .i64 (i:Int)/\i<=sp.length/\sp.length<=1+size t*n/\Hid (rC wr w5.heap.size w5.heap.size gP cP (size t) n gs sn sp/\Bq L t u n sp sn i (fun _ _ _ _ _=>False)/\Below w5.heap.size w5 wr)) (fun _ s17 _=>1+size t*n-(intOf s17).toNat)
     case atStart=>exact⟨0,_,_,_,_,rfl,rfl,by omega,by simp,cJ.out⟩
     case round =>
      obtain⟨i,gP,cP,sn,sp,rfl,rfl,hi,b5,HI⟩:=hrel;have a7:Hid (rC wr w5.heap.size w5.heap.size gP cP (size t) n gs sn sp/\Bq L t u n sp sn i (fun _ _ _ _ _=>False)/\Below w5.heap.size w5 wr):=HI.out;clear HI;by_cases hlt:i<sp.length
      ·have hiI:(i:Int)<(sp.length:Int):=by omega
       obtain⟨⟨p3,m3⟩,cX⟩:∃ x,sp[i]?=some x:=⟨_,A7 hlt⟩;obtain⟨hp3,cG⟩:=a7.out.2.1.lt _ (aC3 cX);simp only at hp3 cG;obtain⟨d0,d1⟩:=a7.out.1.spot cX;obtain⟨va,b6⟩:∃ va,vs[m3]?=some va:=⟨_,A7 (by rw[b1.out.1.l1];exact cG)⟩;have eA:=b1.out.1.ea m3 va _ b6 (b1.out.2.1 m3 cG);have d2:=cell_kept a7.out.2.2 _ _ (show w5.cell? ⟨w3.heap.size,m3,none⟩=some va by rw[b1.out.1.own.cellAt m3 (by omega)];exact b6);obtain⟨aE,kE,hvE⟩:∃ aE kE,va = .slice aE (eH L m3).length kE:=by
        rcases eA.2 with ⟨h0,h1⟩ | ⟨g,cap,cur,h1,_⟩
        ·exact⟨none,0,by rw[h0,h1]⟩
        ·exact⟨_,_,h1⟩
       subst hvE;have hfl:=QJ L m3;have hm3I:(m3:Int)<(n:Int):=by omega
       have b9:Hid _:=eA;have HSp:Hid (rC wr w5.heap.size w5.heap.size gP cP (size t) n gs sn sp/\Bq L t u n sp sn (i+1) (X4 L t p3 m3 0)/\sp[i]?=some (p3,m3)/\Below w5.heap.size w5 wr):=(⟨a7.out.1,X8 a7.out.2.1 cX,cX,a7.out.2.2⟩:_/\_/\_/\_);clear b6 eA cX;go_wp2;go_loopw [16,19] (fun s16 s19 wr=>∃(q gP cP:Nat) (sn:Nat->Nat->Bool) (sp:List (Nat×Nat)),s16 = .slice (some ⟨gP,0,none⟩) sp.length cP/\s19 = .int .i64 (q:Int)/\q<=size t/\sp.length<=1+size t*n/\Hid (rC wr w5.heap.size w5.heap.size gP cP (size t) n gs sn sp/\Bq L t u n sp sn (i+1) (X4 L t p3 m3 q)/\sp[i]?=some (p3,m3)/\Below w5.heap.size w5 wr)) (fun _ s19 _=>size t-(intOf s19).toNat)
       case atStart=>exact⟨0,_,_,_,_,rfl,rfl,by omega,b5,HSp.out⟩
       case round =>
        obtain⟨q,gP,cP,sn,sp,rfl,rfl,hq,b5,HI⟩:=hrel;have b7:Hid (rC wr w5.heap.size w5.heap.size gP cP (size t) n gs sn sp/\Bq L t u n sp sn (i+1) (X4 L t p3 m3 q)/\sp[i]?=some (p3,m3)/\Below w5.heap.size w5 wr):=HI.out;clear HI;by_cases hlt4:q<size t
        ·have hqI:(q:Int)<(size t:Int):=by omega
         obtain⟨gL,hgL⟩:∃ gL,aL=some ⟨gL,0,none⟩:=by
          obtain⟨g,cap,hv,_,_⟩:=HM.out.1.own.form (by rw[cK];omega);injection hv with hv;exact⟨g,hv⟩
         subst hgL;obtain⟨o,ho⟩:∃ o,(aM t)[q]?=some o:=⟨_,A7 (by rw[cK];exact hlt4)⟩;have a4:lab t 0 q=o:=by unfold lab;rw[Nat.sub_zero,aC1,ho];rfl
         obtain⟨gq,cV⟩:∃ gq,gs[q]?=some gq:=⟨_,A7 (by rw[b7.out.1.gl];exact hlt4)⟩;have l0:=cell_kept b1.out.2.2 _ _ HM.out.1.mat.head.1;have l1:=cell_kept b1.out.2.2 _ _ (show w3.cell? ⟨gL,q,none⟩=some (.int .i64 (NB o)) by
          have cW:=HM.out.1.own;rw[cK]at cW;have h1:=cW.cellAt q (by omega);rw[aD0,ho]at h1;exact h1)
         have l2:=cell_kept b1.out.2.2 _ _ (HM.out.1.mat.cell (a:=p3) (b:=q) (by omega) (by omega)).1;have b2:Hid (_/\_/\_/\_/\_):=⟨l0,l1,l2,a4,cV⟩;have H5s:Hid (rC wr w5.heap.size w5.heap.size gP cP (size t) n gs sn sp/\Bq L t u n sp sn (i+1) (X5 L t p3 m3 q 0)/\sp[i]?=some (p3,m3)/\Below w5.heap.size w5 wr):=(⟨b7.out.1,bq_in b7.out.2.1,b7.out.2.2⟩:_/\_/\_);have hp3I:(p3:Int)<201:=by omega
         have hqI2:(q:Int)<201:=by omega
         clear l0 l1 l2 a4 cV ho;go_wp2;go_loopw [16,20] (fun s16 s20 wr=>∃(k gP cP:Nat) (sn:Nat->Nat->Bool) (sp:List (Nat×Nat)),s16 = .slice (some ⟨gP,0,none⟩) sp.length cP/\s20 = .int .i64 (k:Int)/\k<=(eH L m3).length/\sp.length<=1+size t*n/\Hid (rC wr w5.heap.size w5.heap.size gP cP (size t) n gs sn sp/\Bq L t u n sp sn (i+1) (X5 L t p3 m3 q k)/\sp[i]?=some (p3,m3)/\Below w5.heap.size w5 wr)) (fun _ s20 _=>(eH L m3).length-(intOf s20).toNat)
         case atStart=>exact⟨0,_,_,_,_,rfl,rfl,by omega,b5,H5s.out⟩
         case round =>
          obtain⟨k,gP,cP,sn,sp,rfl,rfl,hk,b5,HI⟩:=hrel;have H5:Hid (rC wr w5.heap.size w5.heap.size gP cP (size t) n gs sn sp/\Bq L t u n sp sn (i+1) (X5 L t p3 m3 q k)/\sp[i]?=some (p3,m3)/\Below w5.heap.size w5 wr):=HI.out;clear HI;have eE:=(aC4.1 H5.out.2.2.1).1;have hilI:(i:Int)<(sp.length:Int):=by omega
          obtain⟨e0,e1⟩:=H5.out.1.spot H5.out.2.2.1;have l2:=cell_kept H5.out.2.2.2 _ _ b2.out.2.2.1;by_cases hlt5:k<(eH L m3).length
          ·have hkI:(k:Int)<((eH L m3).length:Int):=by omega
           have hkd:decide ((k:Int)<((eH L m3).length:Int))=true:=decide_eq_true hkI;cases hnx:nx t p3 q with
           | false =>
            rw[hnx]at l2;have HN:Hid (rC wr w5.heap.size w5.heap.size gP cP (size t) n gs sn sp/\Bq L t u n sp sn (i+1) (X4 L t p3 m3 (q+1))/\sp[i]?=some (p3,m3)/\Below w5.heap.size w5 wr):=(⟨H5.out.1,V9 H5.out.2.1 (.inr hnx),H5.out.2.2⟩:_/\_/\_);clear hnx;go_wp2;go_quiet (fail)
            go_wp2;go_roundw;case rel=>exact⟨q+1,_,_,_,_,rfl,by go_num,by omega,b5,HN.out.1.below (below_drewN (YQ _ _) _),HN.out.2.1,HN.out.2.2.1,below_drewN HN.out.2.2.2 _⟩
            case measure=>simp[intOf];omega
           | true =>
            rw[hnx]at l2;obtain⟨e,he⟩:∃ e,(eH L m3)[k]?=some e:=⟨_,A7 hlt5⟩;obtain⟨hem,he1⟩:=List.mem_filter.1 (aC3 he);obtain⟨a,c,b,rfl,ha,hb⟩:=HE.out.2 e hem;have he2:m3=a:=by
             have:(a:Int)=(m3:Int):=by simpa using he1
             omega
            subst he2;obtain⟨gE,hgE⟩:∃ gE,aE=some ⟨gE,0,none⟩:=by
             obtain⟨g,cap,hv,_,_⟩:=World.ownsRow.form b9.out (by omega);injection hv with hv;exact⟨g,hv⟩
            subst hgE;obtain⟨_,x1,x2⟩:=IL _ k _ he;have r1:=cell_kept H5.out.2.2.2 _ _ ((World.ownsRow.cellAt b9.out (k*3+1) (by omega)).trans x1);have r2:=cell_kept H5.out.2.2.2 _ _ ((World.ownsRow.cellAt b9.out (k*3+2) (by omega)).trans x2);simp only at r1 r2;obtain⟨s0,s1,s2⟩:=H5.out.1.sn.cell b2.out.2.2.2.2 hb;have t0:=cell_kept H5.out.2.2.2 _ _ b2.out.1;have t1:=cell_kept H5.out.2.2.2 _ _ b2.out.2.1;have a4:=b2.out.2.2.2.1;have hbI:(b:Int)<(n:Int):=by omega
            have hgE5:gE<w5.heap.size:=(World.ownsRow.lt b9.out gE rfl).2;have HX:Hid (_/\_/\_):=⟨he,hnx,hb⟩;clear x1 x2 he hnx he1 hem s2;have hto:(∃ a,o=some a/\a≠c)\/(o=none)\/(o=some c):=by
             cases o with
             | none=>exact .inr (.inl rfl)
             | some a =>
              by_cases e:a=c
              ·exact .inr (.inr (by rw[e]))
              ·exact .inl ⟨a,rfl,e⟩
            rcases hto with ⟨a2,rfl,hac⟩ | rfl | rfl
            ·simp only[NB]at t1;have hlz:decide ((a2:Int)<0)=false:=decide_eq_false (by omega);have hc1:((a2:Int) == (c:Int))=false:=beq_eq_false_iff_ne.2 (by omega);have HN:Hid (rC wr w5.heap.size w5.heap.size gP cP (size t) n gs sn sp/\Bq L t u n sp sn (i+1) (X5 L t p3 m3 q (k+1))/\sp[i]?=some (p3,m3)/\Below w5.heap.size w5 wr):=(⟨H5.out.1,RU H5.out.2.1 HX.out.1 (.inl (by rw[a4];simp[takes,hac])),H5.out.2.2⟩:_/\_/\_);clear a4;go_wp2;go_quiet (fail)
             go_wp2;go_quiet (fail)
             go_wp2;go_roundw;case rel=>exact⟨k+1,_,_,_,_,rfl,by go_num,by omega,b5,HN.out.1.below (below_drewN (YQ _ _) _),HN.out.2.1,HN.out.2.2.1,below_drewN HN.out.2.2.2 _⟩
             case measure=>simp[intOf];omega
            all_goals
             simp only[NB]at t1;have hlz:decide ((c:Int)<0)=false:=decide_eq_false (by omega);cases a8:sn q b with
             | true =>
              rw[a8]at s1;have HN:Hid (rC wr w5.heap.size w5.heap.size gP cP (size t) n gs sn sp/\Bq L t u n sp sn (i+1) (X5 L t p3 m3 q (k+1))/\sp[i]?=some (p3,m3)/\Below w5.heap.size w5 wr):=(⟨H5.out.1,RU H5.out.2.1 HX.out.1 (.inr a8),H5.out.2.2⟩:_/\_/\_);clear a4 a8;go_wp2;go_quiet (fail)
              go_wp2;go_quiet (fail)
              go_wp2;go_roundw;case rel=>exact⟨k+1,_,_,_,_,rfl,by go_num,by omega,b5,HN.out.1.below (below_drewN (YQ _ _) _),HN.out.2.1,HN.out.2.2.1,below_drewN HN.out.2.2.2 _⟩
              case measure=>simp[intOf];omega
             | false =>
              rw[a8]at s1;have HB1:Hid (Bq L t u n (sp++[(q,b)]) (fun x y=>sn x y||(decide (x=q)&&decide (y=b))) (i+1) (X5 L t p3 m3 q (k+1))):=(aAZ H5.out.2.1 (aC3 H5.out.2.2.1) HX.out.1 HX.out.2.1 (by rw[a4];simp[takes]) a8 hb:Bq _ _ _ _ _ _ _ _);clear a4 a8;go_wp2;go_quiet (fail)
              rename Nat=>nqa;go_wp2;go_quiet (fail)
              obtain⟨W1,d8⟩:∃ W1,W1=(wr.drewN nqa).drewN nq:=⟨_,rfl⟩;have d7:Below wr.heap.size wr W1:=by rw[d8];exact below_drewN (below_drewN (YQ _ _) _) _
              rw[<-d8];have cB:=H5.out.1.below d7;obtain⟨p0,_,_⟩:=cB.sn.cell b2.out.2.2.2.2 HX.out.2.2;have eM:=cell_kept d7 _ _ r2;have ua:=fun u=>aC p0 u;have ub:=fun u=>aC eM u;have d3:Hid (_/\_/\_/\_):=⟨cB,d7,eM,d8⟩;clear cB d7 eM d8 r1 r2 s0 s1 t0 t1 e0 e1 l2 p0;go_upto_region 27 with fail
              refine bC (n:=9) rfl (by kernel_rfl) (by kernel_rfl) (by kernel_rfl) ?_;simp only[List.dropLast];repeat (gi_big_quiet_step (fail))
              refine wpQuietIn_nil ?_;rintro wx ⟨x9,rfl⟩;have d5:=aD W1 x9;have b4:=d3.out.1.below d5;obtain⟨_,c1,c2⟩:=b4.sn.cell b2.out.2.2.2.2 HX.out.2.2;have cU:=b4.set b2.out.2.2.2.2 b;have eC:=((b4.sn.row q gq b2.out.2.2.2.2).lt gq rfl).1;have hz1w:=d3.out.2.1.size;have hz5:=H5.out.2.2.2.size;have bS:Below w5.heap.size w5 ((ext W1 x9).setCell ⟨gq,b,none⟩ (.bool true)):=((H5.out.2.2.2.trans (d3.out.2.1.mono hz5)).trans (d5.mono (by omega))).setCell (p:=⟨gq,b,none⟩) eC _;have r3:((ext W1 x9).setCell ⟨gq,b,none⟩ (.bool true)).cell? ⟨gE,k*3+2,none⟩=some (.int .i64 (b:Int)):=(Same.set (ext W1 x9) ⟨gq,b,none⟩ (.bool true)).cell (cell_kept d5 _ _ d3.out.2.2.1) (fun e=>by simp only at e;omega);have cC:Hid (_/\_):=⟨cU,bS⟩;clear d5 b4 cU bS;simp only[List.getLast];refine⟨by intros;trivial,?_⟩;go_simp;clear ua ub c1 c2;obtain⟨W2,eB⟩:∃ W2,W2=(ext W1 x9).setCell ⟨gq,b,none⟩ (.bool true):=⟨_,rfl⟩;rw[<-eB]at cC r3 ⊢;have eL:=cC.out.2.size;have HW2:Hid _:=eB;clear eB;go_wp2_with (at_builtin;refine aO _ rfl _ _ 168 rfl w5.heap.size 167 i5 (.agg #[.int .i64 0,.int .i64 0]) 2 16 Tryz.underlying168 hi5 hc0 hc1 hc2 rfl (by decide) _ _ _ rfl (World.ownsRow.alloc cC.out.1.sp _) ⟨W2.heap.size,0,none⟩ 1 1 [.int .i64 (q:Int),.int .i64 (b:Int)] rfl rfl (aG4 (cs:=#[.int .i64 (q:Int),.int .i64 (b:Int)]) (t:=167) (fr:=(0,0)) (heap_alloc_new W2 _)) (by simp[Value.oneCell']) (by omega) (by unfold maxLen;omega) (by omega) (by simp;omega) ?_;intro g5 cap5 w6 hown5 hg5)
              have cH:=(cC.out.1.below (aA W2 (.cells #[.int .i64 (q:Int),.int .i64 (b:Int)] 167))).push (q,b) g5 cap5 hown5 hg5;have hbb:Below w5.heap.size w5 w6:=by
               have hB5:=cC.out.2.trans ((aA W2 (.cells #[.int .i64 (q:Int),.int .i64 (b:Int)] 167)).mono eL);rcases hg5 with ⟨e1,e2⟩ | ⟨_,e2⟩
               ·exact hB5.grown e2 (by simp;omega) (fun k e=>by injection e with e;subst e;exact(World.ownsRow.lt cC.out.1.sp _ e1).1)
               ·exact hB5.grown e2 (by simp;omega) (fun k e=>by cases e)
              have dM:=HB1.out.cnt;have HN:Hid (rC w6 w5.heap.size w5.heap.size g5 cap5 (size t) n gs (fun x y=>sn x y||(decide (x=q)&&decide (y=b))) (sp++[(q,b)])/\Bq L t u n (sp++[(q,b)]) (fun x y=>sn x y||(decide (x=q)&&decide (y=b))) (i+1) (X5 L t p3 m3 q (k+1))/\(sp++[(q,b)])[i]?=some (p3,m3)/\Below w5.heap.size w5 w6):=(⟨cH,HB1.out,by rw[aD4 eE];exact H5.out.2.2.1,hbb⟩:_/\_/\_/\_);clear cH hbb hown5 hg5 r3;go_wp2;go_roundw;case rel=>exact⟨k+1,g5,cap5,_,sp++[(q,b)],by simp,by go_num,by omega,by omega,HN.out⟩
              case measure=>simp[intOf];omega
          ·obtain rfl:k=(eH L m3).length:=by omega
           have HN:Hid (rC wr w5.heap.size w5.heap.size gP cP (size t) n gs sn sp/\Bq L t u n sp sn (i+1) (X4 L t p3 m3 (q+1))/\sp[i]?=some (p3,m3)/\Below w5.heap.size w5 wr):=(⟨H5.out.1,V9 H5.out.2.1 (.inl (V7 _)),H5.out.2.2⟩:_/\_/\_);have hkd:decide (((eH L m3).length:Int)<((eH L m3).length:Int))=false:=decide_eq_false (by omega);go_wp2;go_quiet (fail)
           go_wp2;go_roundw;case rel=>exact⟨q+1,_,_,_,_,rfl,by go_num,by omega,b5,HN.out.1.below (below_drewN (YQ _ _) _),HN.out.2.1,HN.out.2.2.1,below_drewN HN.out.2.2.2 _⟩
           case measure=>simp[intOf];omega
        ·obtain rfl:q=size t:=by omega
         have HN:Hid (rC wr w5.heap.size w5.heap.size gP cP (size t) n gs sn sp/\Bq L t u n sp sn (i+1) (fun _ _ _ _ _=>False)/\Below w5.heap.size w5 wr):=(⟨b7.out.1,ZL b7.out.2.1 (V7 _),b7.out.2.2.2⟩:_/\_/\_);have eE:=HN.out.2.1.i;go_wp2;go_roundw;case rel=>exact⟨i+1,_,_,_,_,rfl,by go_num,eE,b5,HN.out⟩
         case measure=>simp[intOf];omega
      ·obtain rfl:i=sp.length:=by omega
       rename World=>w9;have b3:Hid (wM w9 w5.heap.size w5.heap.size (size t) n gs sn/\gs.length=size t/\Below w5.heap.size w5 w9/\∀ q v,sn q v=true↔RxM.Way (uV L) t 0 u q v):=(⟨a7.out.1.sn,a7.out.1.gl,a7.out.2.2,fun q v=>YA a7.out.2.1.b q v⟩:_/\_/\_/\_);have c0:=cell_kept a7.out.2.2 _ _ HC0.out;obtain⟨av,cv,hvl,cT⟩:=HM.out.2.2.1.int;subst hvl;have HLa:Hid (∀(j x:Nat),(lasts t 0)[j]?=some x->∃ g off,av=some ⟨g,off,none⟩/\w9.cell? ⟨g,off+j,none⟩=some (.int .i64 (x:Int))):=(fun j x hj=>by
        obtain⟨g,off,h1,h2⟩:=cT j x hj;exact⟨g,off,h1,cell_kept a7.out.2.2 _ _ (cell_kept b1.out.2.2 _ _ h2)⟩:∀(j x:Nat),_)
       have hll:=dY t 0;clear cT;obtain⟨WA,cS⟩:∃ WA,WA=w9.alloc (.cells cb 4):=⟨_,rfl⟩;have hBA:Below w9.heap.size w9 WA:=by rw[cS];exact aA _ _
       have a5:WA.ownsRow w9.heap.size 4 1 (slN n w9.heap.size) n (bools (fun _=>false) n):=by
        rw[cS];exact⟨by simp,.inr ⟨_,n,cb,rfl,V7 _,heap_alloc_new w9 _,V7 _,by unfold maxLen;omega,by rw[cY.out,size_madeCells],by rw[cY.out,toList_madeCells_one,Nat.mul_one,aD2 (by simp)];simp[bools,List.map_const']⟩⟩
       have d1:WA.cell? ⟨w9.heap.size,u,none⟩=some (.bool false):=by rw[a5.cellAt u (by omega),gU _ _ _ hu]
       have d2:=a5.frozenAt u;have cI:=(a5.stored u (.bool (nul t))).1;rw[CG,lD (g:=fo t u sn 0) (fun v _=>by unfold fo;by_cases e:v=u <;> simp[e])]at cI;have HO0:Hid ((WA.setCell ⟨w9.heap.size,u,none⟩ (.bool (nul t))).ownsRow w9.heap.size 4 1 (slN n w9.heap.size) n (bools (fo t u sn 0) n)/\Below w9.heap.size w9 (WA.setCell ⟨w9.heap.size,u,none⟩ (.bool (nul t)))):=(⟨cI,hBA.setCell (p:=⟨w9.heap.size,u,none⟩) (V7 _) _⟩:_/\_);have huI:(u:Int)<(n:Int):=by omega
       clear cI a5 hBA a7 cJ;go_upto_region 30 with fail
       rw[<-cS];have HWA:Hid _:=cS;clear cS e5;go_wp2;go_loopw [22] (fun s22 wr=>∃ i:Nat,i<=(lasts t 0).length/\s22 = .int .i64 (i:Int)/\Hid (wr.ownsRow w9.heap.size 4 1 (slN n w9.heap.size) n (bools (fo t u sn i) n)/\Below w9.heap.size w9 wr)) (fun s22 _=>(lasts t 0).length-(intOf s22).toNat)
       case atStart=>exact⟨0,aC6 _,rfl,HO0.out⟩
       case round =>
        obtain⟨i,hi,rfl,HI⟩:=hrel;have d4:Hid (wr.ownsRow w9.heap.size 4 1 (slN n w9.heap.size) n (bools (fo t u sn i) n)/\Below w9.heap.size w9 wr):=HI.out;clear HI;by_cases hlt6:i<(lasts t 0).length
        ·have hiI6:(i:Int)<((lasts t 0).length:Int):=by omega
         obtain⟨p1,e4⟩:∃ p1,(lasts t 0)[i]?=some p1:=⟨_,A7 hlt6⟩;have eJ:p1<size t:=yL (n:=size t) (by omega) p1 (aC3 e4);have hp1I:(p1:Int)<(size t:Int):=by omega
         obtain⟨gl,ol,rfl,cT⟩:=HLa.out i p1 e4;obtain⟨gq,cV⟩:∃ gq,gs[p1]?=some gq:=⟨_,A7 (by rw[b3.out.2.1];exact eJ)⟩;have e7:Hid (_/\_/\_):=⟨e4,cT,cV⟩;clear e4 cT cV;go_wp2;go_loopw [23] (fun s23 wr=>∃ v:Nat,v<=n/\s23 = .int .i64 (v:Int)/\Hid (wr.ownsRow w9.heap.size 4 1 (slN n w9.heap.size) n (bools (fun x=>fo t u sn i x||(decide (x<v)&&sn p1 x)) n)/\Below w9.heap.size w9 wr)) (fun s23 _=>n-(intOf s23).toNat)
         case atStart=>exact⟨0,aC6 _,rfl,by rw[lD (g:=fo t u sn i) (fun x _=>by simp)];exact d4.out.1,d4.out.2⟩
         case round =>
          obtain⟨v,hv,rfl,HI⟩:=hrel;have aG:Hid (wr.ownsRow w9.heap.size 4 1 (slN n w9.heap.size) n (bools (fun x=>fo t u sn i x||(decide (x<v)&&sn p1 x)) n)/\Below w9.heap.size w9 wr):=HI.out;clear HI;have c2:=cell_kept aG.out.2 _ _ c0;by_cases hlt7:v<n
          ·have hvI:(v:Int)<(n:Int):=by omega
           have k0:=cell_kept aG.out.2 _ _ e7.out.2.1;obtain⟨q0,q1,_⟩:=b3.out.1.cell e7.out.2.2 hlt7;have k1:=cell_kept aG.out.2 _ _ q0;have k2:=cell_kept aG.out.2 _ _ q1;have k3:wr.cell? ⟨w9.heap.size,v,none⟩=some (.bool (fo t u sn i v)):=by rw[aG.out.1.cellAt v (by omega),gU _ _ _ hlt7];simp
           have k4:=aG.out.1.frozenAt v;have a6:∀ b,b=(fo t u sn i v||sn p1 v)->(wr.setCell ⟨w9.heap.size,v,none⟩ (.bool b)).ownsRow w9.heap.size 4 1 (slN n w9.heap.size) n (bools (fun x=>fo t u sn i x||(decide (x<v+1)&&sn p1 x)) n)/\Below w9.heap.size w9 (wr.setCell ⟨w9.heap.size,v,none⟩ (.bool b)):=fun b hb=>by
            have cI:=(aG.out.1.stored v (.bool b)).1;rw[CG,lD (g:=fun x=>fo t u sn i x||(decide (x<v+1)&&sn p1 x)) (fun x _=>by
             by_cases e:x=v
             ·subst e;simp[hb]
             ·rw[if_neg e,show decide (x<v+1)=decide (x<v)from decide_eq_decide.2 (by omega)])]at cI
            exact⟨cI,aG.out.2.setCell (p:=⟨w9.heap.size,v,none⟩) (V7 _) _⟩
           clear q0 q1;cases hf:fo t u sn i v with
           | true =>
            rw[hf]at k3;have HN:Hid _:=a6 true (by rw[hf];rfl);clear a6 hf;go_wp2;go_roundw;case rel=>exact⟨v+1,by omega,by go_num,HN.out⟩
            case measure=>simp[intOf];omega
           | false =>
            rw[hf]at k3;have HN:Hid _:=a6 (sn p1 v) (by rw[hf];rfl);clear a6 hf;go_wp2;go_roundw;case rel=>exact⟨v+1,by omega,by go_num,HN.out⟩
            case measure=>simp[intOf];omega
          ·obtain rfl:v=n:=by omega
           have HN:Hid (wr.ownsRow w9.heap.size 4 1 (slN v w9.heap.size) v (bools (fo t u sn (i+1)) v)/\Below w9.heap.size w9 wr):=(⟨by
            rw[lD (g:=fun x=>fo t u sn i x||(decide (x<v)&&sn p1 x)) (fun x hx=>by rw[Y8 e7.out.1];simp[hx])];exact aG.out.1,aG.out.2⟩:_/\_)
           go_wp2;go_roundw;case rel=>exact⟨i+1,by omega,by go_num,HN.out⟩
           case measure=>simp[intOf];omega
        ·obtain rfl:i=(lasts t 0).length:=by omega
         go_wp2;go_ret;have h3:=HM.out.2.2.2;have h5:Below w.heap.size w w5:=h3.trans (b1.out.2.2.mono h3.size);have h9:Below w.heap.size w w9:=h5.trans (b3.out.2.2.1.mono h5.size);exact⟨_,_,rfl,l8 d4.out.1 h9.size,fun v _=>aAp b3.out.2.2.2 v,h9.trans (d4.out.2.mono h9.size)⟩
end Go.Proofs.YtphjbbbnbmafnaaGreatDoor.G
