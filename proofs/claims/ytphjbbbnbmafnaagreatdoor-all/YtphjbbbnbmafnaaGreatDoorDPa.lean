/- Parts: DPa. -/
import Derived.Test.YtphjbbbnbmafnaaGreatDoorDTr
set_option maxHeartbeats 16000000
set_option maxRecDepth 100000
namespace Go.Proofs.YtphjbbbnbmafnaaGreatDoor.G
open Go.RowKit Go.Shelf RxM
variable {s:ByteArray} {i:Nat}
theorem zC(s:ByteArray)(a b:Nat):codes (s.extract a b)=((codes s).drop a).take (b-a):=by
 have e:(s.extract a b).data.toList=(s.data.toList.drop a).take (b-a):=by
  rw[ByteArray.data_extract,Array.toList_extract,List.extract_eq_take_drop]
 unfold codes;rw[e,List.map_take,List.map_drop]
theorem Tryz.infoTp:(Tryz.prog.info? 99).map (fun i=>(i.zero,i.size,i.bytes))=some (some (.pointer none),1,8):=by kernel_rfl
def AP(s:ByteArray)(n:Nat)(w:World)(e:Ending)(w':World):Prop :=
 Below w.heap.size w w'/\((e = .returned (.pointer none)/\RxM.read n (codes s)=none)\/∃ p t F h,e = .returned (.pointer (some ⟨p,0,none⟩))/\RxM.read n (codes s)=some t/\dS w' F h p t/\∀ k,F k->w.heap.size<=k/\k<w'.heap.size)
def ParC(N:Nat):Prop:=∀(s:ByteArray) (n:Nat) (w:World),s.size<N->s.size<=200->n<=26->Calls Tryz.prog 46 #[.string s,.int .i64 (n:Int)] w (AP s n w)
theorem P9(w:World)(l:Option Nat):dS (w.alloc (.cells #[.int .u8 97,.int .i64 (NB l),.slice none 0 0] 154)) (fun k=>k=w.heap.size) 1 w.heap.size (.sym l) :=
 ⟨rfl,97,NB l,.slice none 0 0,[],[],heap_alloc_new w _,.inl ⟨rfl,rfl⟩,⟨rfl,by simp⟩,(fun j p1 t1 e1 _=>by simp at e1),.inl ⟨rfl,l,rfl,rfl⟩⟩
theorem OT(h:i<s.size):(codes s).take (i+1)=(codes s).take i++[s[i].toNat]:=by
 rw[aE0,I5 h];rfl
theorem U2(h:i<s.size):codes s=(codes s).take i++s[i].toNat::(codes s).drop (i+1):=by
 conv=>lhs;rw[<-aD5 i (codes s),qJ h]
theorem V6{w:World}{B:Nat}{t:TypeId}{a b c:Value}(h:w.heap[B]?=some (.cells #[a,b,c] t (0,0))):w.cell? ⟨B,0,none⟩=some a/\w.cell? ⟨B,1,none⟩=some b/\w.cell? ⟨B,2,none⟩=some c/\w.frozen? ⟨B,2,none⟩=false :=
 ⟨by rw[cell_of_row _ _ 0 _ _ _ h];rfl,by rw[cell_of_row _ _ 1 _ _ _ h];rfl,by rw[cell_of_row _ _ 2 _ _ _ h];rfl,frozen_of_row _ _ 2 _ _ h⟩
theorem UK{N:Nat}(IH:ParC N):ParC (N+1):=by
 intro s n w hN hs hn;obtain⟨i1,b1,b8,b9,bS⟩:=info_parts Tryz.infoTp;obtain⟨W0,a6⟩:∃ W0,W0=(w.alloc (.cells #[.int .u8 124,.int .i64 0,.slice none 0 0] 154)).alloc (.cells #[.int .u8 38,.int .i64 0,.slice none 0 0] 154):=⟨_,rfl⟩;have hJ:Below w.heap.size w W0:=by rw[a6];exact xal (aA _ _)
 have r0:W0.heap[w.heap.size]?=some (.cells #[.int .u8 124,.int .i64 0,.slice none 0 0] 154 (0,0)):=by rw[a6];exact aB (aA _ _) (heap_alloc_new w _)
 have r1:W0.heap[w.heap.size+1]?=some (.cells #[.int .u8 38,.int .i64 0,.slice none 0 0] 154 (0,0)):=by
  rw[a6];have:=heap_alloc_new (w.alloc (.cells #[.int .u8 124,.int .i64 0,.slice none 0 0] 154)) (.cells #[.int .u8 38,.int .i64 0,.slice none 0 0] 154);rwa [aD1]at this
 have HP0:Hid (iM w W0 w.heap.size (w.heap.size+1) (.slice none 0 0) (.slice none 0 0) [] [] [] [] (fun _=>False) 0):=(⟨r0,r1,⟨rfl,.inl ⟨rfl,rfl⟩⟩,⟨rfl,.inl ⟨rfl,rfl⟩⟩,rfl,rfl,(fun j p t e1 _=>by simp at e1),(fun j p t e1 _=>by simp at e1),⟨by omega,(fun g e=>by cases e),(fun g e=>by cases e)⟩,fun k hk=>hk.elim,⟨by omega,by omega⟩,hJ⟩:iM _ _ _ _ _ _ _ _ _ _ _ _);have HI:Hid (ParC N):=IH;clear hJ r0 r1 IH;go_enter Tryz.func46,Tryz.ntmps46
 go_wp2;rw[<-a6];have HW0:Hid _:=a6;clear a6;go_loopw [8,6,7] (fun s8 s6 s7 wr=>∃(i B:Nat) (vA vB:Value) (pr pp:List Nat) (a0 ps:List Rx) (F:Nat->Prop) (h:Nat),i<=s.size/\s8 = .int .i64 (i:Int)/\s6 = .pointer (some ⟨B,0,none⟩)/\s7 = .bool (!pp.isEmpty)/\Hid (iM w wr w.heap.size B vA vB pr pp a0 ps F h/\Got n ((codes s).take i) a0 ps/\pr.length<=i/\pp.length<=i)) (fun s8 _ _ _=>s.size-(intOf s8).toNat)
 case atStart=>exact⟨0,w.heap.size+1,_,_,[],[],[],[],_,0,by omega,rfl,rfl,rfl,HP0.out,YX n,by simp,by simp⟩
 case round =>
  obtain⟨i,B,vA,vB,pr,pp,a0,ps,F,h,hi,rfl,rfl,rfl,HS0⟩:=hrel;have HS:Hid (iM w wr w.heap.size B vA vB pr pp a0 ps F h/\Got n ((codes s).take i) a0 ps/\pr.length<=i/\pp.length<=i):=HS0.out;clear HS0;have hprl:=HS.out.2.2.1;have b4:=HS.out.2.2.2;have a8:=HS.out.1.lt;obtain⟨_,_,kA,zA⟩:=V6 HS.out.1.rA;obtain⟨_,_,kB,zB⟩:=V6 HS.out.1.rB;have cE:w.heap.size<=wr.heap.size:=HS.out.1.bel.size;by_cases hlt2:i<s.size
  ·have hiI:(i:Int)<(s.size:Int):=by omega
   have HW:Hid _:=U2 hlt2;have HT:Hid _:=OT hlt2;by_cases c124:s[i].toNat=124
   ·have c7:((s[i].toNat:Int) == 124)=true:=by rw[c124];rfl
    have HG:Hid (Got n ((codes s).take (i+1)) (a0++[jU ps]) []):=(by rw[HT.out,c124];exact HS.out.2.1.bar:Got _ _ _ _);have kA':=fun o=>cell_kept (aA wr o) _ _ kA;clear c124;go_wp2_with (at_builtin;refine aO _ rfl _ _ 152 rfl w.heap.size 99 i1 (.pointer none) 1 8 Tryz.underlying152 b1 b8 b9 bS rfl (by decide) _ _ _ rfl (HS.out.1.oA.alloc _) ⟨wr.heap.size,0,none⟩ 1 1 [.pointer (some ⟨B,0,none⟩)] rfl rfl (aG4 (cs:=#[.pointer (some ⟨B,0,none⟩)]) (t:=99) (fr:=(0,0)) (heap_alloc_new wr _)) (by simp[Value.oneCell']) (by omega) (by unfold maxLen;omega) (by omega) (by simp;omega) ?_;intro g5 cap5 w5 hown5 hg5;have b6:=(dN hg5).row (aB (aA wr _) HS.out.1.rA) (fun e=>(HS.out.1.ne.2.1 _ e).1 rfl);obtain⟨_,_,oA,oz⟩:=V6 b6;clear b6)
    have b5:=(HS.out.1.below (aA wr (.cells #[.pointer (some ⟨B,0,none⟩)] 99))).bar (by omega) g5 cap5 hown5 hg5;rw[show(w5.setCell ⟨w.heap.size,2,none⟩ (.slice (some ⟨g5,0,none⟩) (pr.length+1) cap5)).heap.size=w5.heap.size by simp[World.setCell]]at b5;have HN:Hid (_/\_/\_/\_):=⟨b5,HG.out,(by simp;omega:(pr++[B]).length<=i+1),(by simp:([]:List Nat).length<=i+1)⟩;clear b5 hown5 hg5 oA oz;go_wp2;go_roundw;case rel=>exact⟨i+1,_,_,_,_,[],_,_,_,_,by omega,by go_num,rfl,rfl,HN.out⟩
    case measure=>simp[intOf];omega
   ·have c7:((s[i].toNat:Int) == 124)=false:=by simp;omega
    by_cases c42:s[i].toNat=42
    ·have b42:((s[i].toNat:Int) == 42)=true:=by rw[c42];rfl
     rcases List.eq_nil_or_concat pp with hpp | ⟨qq,pk,hpp⟩
     ·have cD:ps=[]:=aI6.1 (by rw[<-HS.out.1.lB,hpp];rfl);have HF:Hid (RxM.read n (codes s)=none):=(by
       rw[HW.out,c42];have:=HS.out.2.1;rw[cD]at this;exact this.nostar:_=none)
      have HB:Hid _:=HS.out.1.bel;subst hpp;clear c42 c124;go_wp2;go_ret;exact⟨HB.out,.inl ⟨rfl,HF.out⟩⟩
     ·rw[List.concat_eq_append]at hpp;subst hpp;obtain⟨qs,tk,b5⟩:∃ qs tk,ps=qs++[tk]:=by
       rcases List.eq_nil_or_concat ps with e | ⟨qs,tk,e⟩
       ·have:=HS.out.1.lB;rw[e]at this;simp at this
       ·exact⟨qs,tk,by rw[List.concat_eq_append]at e;exact e⟩
      subst b5;have cC:(qq++[pk]).length=qq.length+1:=by simp
      have b3:=HS.out.1.oB;rw[cC]at b3;obtain⟨gB,cap,rfl,_,cB⟩:=b3.form (by omega);have a3:wr.cell? ⟨gB,qq.length,none⟩=some (.pointer (some ⟨pk,0,none⟩)):=by
       rw[b3.cellAt qq.length (by omega),mH,aC8 (by simp)];simp
      have hfz:=b3.frozenAt qq.length;have b7:=HS.out.1.star;rw[World.setCell_alloc_past _ _ _ _ (by simp;omega),World.setCell_alloc_past _ _ _ _ cB]at b7;have b7:=b7.below ((YQ _ _).drew);have HN:Hid (_/\Got n ((codes s).take (i+1)) a0 (qs++[.star tk])/\pr.length<=i+1/\(qq++[wr.heap.size+1]).length<=i+1):=(⟨b7,by rw[HT.out,c42];exact HS.out.2.1.star,by omega,by simp at b4 ⊢;omega⟩:_/\_/\_/\_);have hqI:(qq.length:Int)<((qq.length+1:Nat):Int):=by omega
      have hqw:wrap64 (qq.length:Int)=(qq.length:Int):=by simp at b4;unfold wrap64;omega
      have a1:(qq++[pk]).isEmpty=false:=by simp
      have aL:(qq++[wr.heap.size+1]).isEmpty=false:=by simp
      clear b7 b3 c42 c124;have u1:=fun o=>cell_kept (aA wr o) _ _ kB;have u2:=fun o1 o2=>cell_kept (xal (o:=o2) (aA wr o1)) _ _ kB;have v1:=fun o=>cell_kept (aA wr o) _ _ a3;have v2:=fun o1 o2=>cell_kept (xal (o:=o2) (aA wr o1)) _ _ a3;have hfr:∀ w',Below wr.heap.size wr w'->w'.frozen? ⟨gB,qq.length,none⟩=false:=fun w' hB=>by rw[hB.frozen (p:=⟨gB,qq.length,none⟩) (aE6 _ _ a3)];exact hfz
      have z2:=fun o1 o2=>hfr _ (xal (o:=o2) (aA wr o1));clear hfr;go_upto_region 20 with fail
      go_region;go_wp2;go_roundw;case rel=>exact⟨i+1,B,_,_,_,_,_,_,_,_,by omega,by go_num,rfl,by rw[a1,aL],HN.out⟩
      case measure=>simp[intOf];omega
    ·have b42:((s[i].toNat:Int) == 42)=false:=by simp;omega
     by_cases c40:s[i].toNat=40
     ·have b40:((s[i].toNat:Int) == 40)=true:=by rw[c40];rfl
      have HCl:Hid (Calls Tryz.prog 81 #[.string s,.int .i64 (i:Int)] wr _):=EF s i hs hlt2 c40 wr;have bX:Hid ((codes s).drop i=40::(codes s).drop (i+1)):=(by have:=qJ hlt2;rw[c40]at this;exact this:_=_);have HW2:Hid (codes s=(codes s).take i++40::(codes s).drop (i+1)):=(by have:=HW.out;rw[c40]at this;exact this:_=_);clear c40 c42 c124;go_wp2_with fail
      refine HCl.out.mono ?_;rintro e w4 ⟨rfl,rfl⟩;cases a3:cl ((codes s).drop (i+1)) 1 with
      | none =>
       have HF:Hid (RxM.read n (codes s)=none):=(by rw[HW2.out];exact HS.out.2.1.open_ a3:_=none);have HB:Hid _:=HS.out.1.bel;simp only[clI];go_wp2;go_ret;exact⟨HB.out,.inl ⟨rfl,HF.out⟩⟩
      | some k =>
       obtain⟨aE,aG⟩:=HS.out.2.1.bracket a3;obtain⟨qb,sb2,hqs,hqk,_⟩:=pI _ 0 k a3;have hkl:i+1+k+1<=s.size:=by
        have:=congrArg List.length hqs;rw[aE1,cO,WT,aE7]at this;omega
       have cA:codes (s.extract (i+1) (i+1+k))=((codes s).drop (i+1)).take k:=by rw[zC,show i+1+k-(i+1)=k by omega]
       have hes:(s.extract (i+1) (i+1+k)).size=k:=by rw[<-cO,cA,aD7,aE1,cO];omega
       have HPa:Hid (Calls Tryz.prog 46 #[.string (s.extract (i+1) (i+1+k)),.int .i64 (n:Int)] w4 _):=HI.out (s.extract (i+1) (i+1+k)) n w4 (by omega) (by omega) hn;have bW:Hid (_/\_/\_):=⟨aE,aG,cA⟩;have hkI:((i+1+k:Nat):Int)<(s.size:Int):=by omega
       have hneg:¬((i+1+k:Nat):Int)<0:=by omega
       clear aE aG hqs hqk hes a3 cA;simp only[clI];go_wp2_with fail
       refine HPa.out.mono ?_;rintro e w6 ⟨hB6,⟨rfl,hnone⟩ | ⟨p,t,F1,h1,rfl,hrd,htr,hF1⟩⟩
       ·have HF:Hid (RxM.read n (codes s)=none):=(by rw[HW2.out];exact bW.out.2.1 (by rw[<-bW.out.2.2];exact hnone):_=none);have HB:Hid (Below w.heap.size w w6):=(HS.out.1.bel.trans (hB6.mono cE):Below _ _ _);clear hB6 hnone;go_wp2;go_ret;exact⟨HB.out,.inl ⟨rfl,HF.out⟩⟩
       ·have hx:=HS.out.1.below hB6;have b0:=bW.out.1 t (by rw[<-bW.out.2.2];exact hrd);have hz6:w4.heap.size<=w6.heap.size:=hB6.size;obtain⟨_,_,kB6,_⟩:=V6 hx.rB;have kB7:=fun o=>cell_kept (aA w6 o) _ _ kB6;have HX:Hid (_/\_/\_/\_):=⟨hx,htr,hF1,b0⟩;clear hx htr hF1 b0 hB6 hrd kA zA kB zB;go_wp2_with (at_builtin;refine aO _ rfl _ _ 152 rfl w.heap.size 99 i1 (.pointer none) 1 8 Tryz.underlying152 b1 b8 b9 bS rfl (by decide) _ _ _ rfl (HX.out.1.oB.alloc _) ⟨w6.heap.size,0,none⟩ 1 1 [.pointer (some ⟨p,0,none⟩)] rfl rfl (aG4 (cs:=#[.pointer (some ⟨p,0,none⟩)]) (t:=99) (fr:=(0,0)) (heap_alloc_new w6 _)) (by simp[Value.oneCell']) (by omega) (by unfold maxLen;omega) (by omega) (by simp;omega) ?_;intro g5 cap5 w5 hown5 hg5;have a5:=(dN hg5).row (aB (aA w6 _) HX.out.1.rB) (fun e=>(HX.out.1.ne.2.2 _ e).2 rfl);obtain⟨_,_,oB,oz⟩:=V6 a5;clear a5)
        have a2:=aA w6 (.cells #[.pointer (some ⟨p,0,none⟩)] 99);have a4:=(HX.out.1.below a2).piece (HX.out.2.1.same (Same.below a2) (fun _ _=>id) (fun _=>id)) (fun k hk=>by
         have h1:=HX.out.2.2.1 k hk;have h2:=a2.size;refine⟨by omega,by omega,by omega,by omega,fun e => ?_,fun e => ?_⟩
         ·have:=(a8.2.2.1 k e).2;omega
         ·have:=(a8.2.2.2 k e).2;omega) g5 cap5 hown5 hg5
        have htk:(codes s).take (i+1+k+1)=(codes s).take i++40::((codes s).drop (i+1)).take (k+1):=by
         rw[show i+1+k+1=i+(k+2) by omega,List.take_add];congr 1;rw[bX.out];rfl
        have HN:Hid (_/\Got n ((codes s).take (i+1+k+1)) a0 (ps++[t])/\pr.length<=i+1+k+1/\(pp++[p]).length<=i+1+k+1):=(⟨a4,by rw[htk];exact HX.out.2.2.2,by omega,by simp;omega⟩:_/\_/\_/\_);have a1:(pp++[p]).isEmpty=false:=by simp
        clear a2 a4 htk hown5 hg5 oB oz;go_roundw;case rel=>exact⟨i+1+k+1,B,_,_,_,_,_,_,_,_,by omega,by go_num,rfl,by rw[a1];rfl,HN.out⟩
        case measure=>simp[intOf];omega
     ·have b40:((s[i].toNat:Int) == 40)=false:=by simp;omega
      by_cases c46:s[i].toNat=46
      ·have b46:((s[i].toNat:Int) == 46)=true:=by rw[c46];rfl
       have HG:Hid (Got n ((codes s).take (i+1)) a0 (ps++[.sym none])):=(by rw[HT.out,c46];exact HS.out.2.1.point:Got _ _ _ _);clear c46 c40 c42 c124;have a9:=aA wr (.cells #[.int .u8 97,.int .i64 (-1),.slice none 0 0] 154);have a7:=P9 wr (none);have hx:=HS.out.1.below a9;have HX:Hid (_/\_):=⟨hx,a7⟩;have b2:((wr.alloc (.cells #[.int .u8 97,.int .i64 (-1),.slice none 0 0] 154)).alloc (.cells #[.pointer (some ⟨wr.heap.size,0,none⟩)] 99)).heap[wr.heap.size+1]?=some (.cells #[.pointer (some ⟨wr.heap.size,0,none⟩)] 99 (0,0)):=by
        have:=heap_alloc_new (wr.alloc (.cells #[.int .u8 97,.int .i64 (-1),.slice none 0 0] 154)) (.cells #[.pointer (some ⟨wr.heap.size,0,none⟩)] 99);rwa [aD1]at this
       have c0:Hid _:=b2;clear hx a7 a9 b2;go_wp2_with (at_builtin;refine aO _ rfl _ _ 152 rfl w.heap.size 99 i1 (.pointer none) 1 8 Tryz.underlying152 b1 b8 b9 bS rfl (by decide) _ _ _ rfl (HX.out.1.oB.alloc _) ⟨wr.heap.size+1,0,none⟩ 1 1 [.pointer (some ⟨wr.heap.size,0,none⟩)] rfl rfl (aG4 (cs:=#[.pointer (some ⟨wr.heap.size,0,none⟩)]) (t:=99) (fr:=(0,0)) c0.out) (by simp[Value.oneCell']) (by omega) (by unfold maxLen;omega) (by omega) (by simp;omega) ?_;intro g5 cap5 w5 hown5 hg5;have a5:=(dN hg5).row (aB (aA _ _) HX.out.1.rB) (fun e=>(HX.out.1.ne.2.2 _ e).2 rfl);obtain⟨_,_,oB,oz⟩:=V6 a5;clear a5)
       have a2:=aA (wr.alloc (.cells #[.int .u8 97,.int .i64 (-1),.slice none 0 0] 154)) (.cells #[.pointer (some ⟨wr.heap.size,0,none⟩)] 99);have a4:=(HX.out.1.below a2).piece (HX.out.2.same (Same.below a2) (fun _ _=>id) (fun _=>id)) (fun k hk=>by
        subst hk;have h2:=a2.size;rw[aD1]at h2;refine⟨cE,by omega,by omega,by omega,fun e => ?_,fun e => ?_⟩
        ·have:=(a8.2.2.1 _ e).2;omega
        ·have:=(a8.2.2.2 _ e).2;omega) g5 cap5 hown5 hg5
       have HN:Hid (_/\Got n ((codes s).take (i+1)) a0 (ps++[.sym (none)])/\pr.length<=i+1/\(pp++[wr.heap.size]).length<=i+1):=(⟨a4,HG.out,by omega,by simp;omega⟩:_/\_/\_/\_);have a1:(pp++[wr.heap.size]).isEmpty=false:=by simp
       clear a2 a4 hown5 hg5 oB oz;go_roundw;case rel=>exact⟨i+1,B,_,_,_,_,_,_,_,_,by omega,by go_num,rfl,by rw[a1];rfl,HN.out⟩
       case measure=>simp[intOf];omega
      ·have b46:((s[i].toNat:Int) == 46)=false:=by simp;omega
       have hcb:s[i].toNat<256:=s[i].toNat_lt;by_cases hlet:97<=s[i].toNat/\s[i].toNat<97+n
       ·have HG:Hid (Got n ((codes s).take (i+1)) a0 (ps++[.sym (some (s[i].toNat-97))])):=(by
         have:=HS.out.2.1.letter (c:=s[i].toNat-97) (by omega) hn;rw[show 97+(s[i].toNat-97)=s[i].toNat by omega]at this;rw[HT.out];exact this:Got _ _ _ _)
        have hwr:wrap64 ((s[i].toNat:Int)-97)=(s[i].toNat:Int)-97:=by unfold wrap64;omega
        have hn0:¬((s[i].toNat:Int)-97)<0:=by omega
        have hn1:¬(n:Int)<=((s[i].toNat:Int)-97):=by omega
        have HLb:Hid (NB (some (s[i].toNat-97))=(s[i].toNat:Int)-97):=(by show((s[i].toNat-97:Nat):Int)=_;omega:_=_);generalize s[i].toNat-97=lb at HG HLb;clear c46 c40 c42 c124 hlet;have a9:=aA wr (.cells #[.int .u8 97,.int .i64 ((s[i].toNat:Int)-97),.slice none 0 0] 154);have a7:=P9 wr (some lb);rw[HLb.out]at a7;have hx:=HS.out.1.below a9;have HX:Hid (_/\_):=⟨hx,a7⟩;have b2:((wr.alloc (.cells #[.int .u8 97,.int .i64 ((s[i].toNat:Int)-97),.slice none 0 0] 154)).alloc (.cells #[.pointer (some ⟨wr.heap.size,0,none⟩)] 99)).heap[wr.heap.size+1]?=some (.cells #[.pointer (some ⟨wr.heap.size,0,none⟩)] 99 (0,0)):=by
         have:=heap_alloc_new (wr.alloc (.cells #[.int .u8 97,.int .i64 ((s[i].toNat:Int)-97),.slice none 0 0] 154)) (.cells #[.pointer (some ⟨wr.heap.size,0,none⟩)] 99);rwa [aD1]at this
        have c0:Hid _:=b2;clear hx a7 a9 b2;go_wp2_with (at_builtin;refine aO _ rfl _ _ 152 rfl w.heap.size 99 i1 (.pointer none) 1 8 Tryz.underlying152 b1 b8 b9 bS rfl (by decide) _ _ _ rfl (HX.out.1.oB.alloc _) ⟨wr.heap.size+1,0,none⟩ 1 1 [.pointer (some ⟨wr.heap.size,0,none⟩)] rfl rfl (aG4 (cs:=#[.pointer (some ⟨wr.heap.size,0,none⟩)]) (t:=99) (fr:=(0,0)) c0.out) (by simp[Value.oneCell']) (by omega) (by unfold maxLen;omega) (by omega) (by simp;omega) ?_;intro g5 cap5 w5 hown5 hg5;have a5:=(dN hg5).row (aB (aA _ _) HX.out.1.rB) (fun e=>(HX.out.1.ne.2.2 _ e).2 rfl);obtain⟨_,_,oB,oz⟩:=V6 a5;clear a5)
        have a2:=aA (wr.alloc (.cells #[.int .u8 97,.int .i64 ((s[i].toNat:Int)-97),.slice none 0 0] 154)) (.cells #[.pointer (some ⟨wr.heap.size,0,none⟩)] 99);have a4:=(HX.out.1.below a2).piece (HX.out.2.same (Same.below a2) (fun _ _=>id) (fun _=>id)) (fun k hk=>by
         subst hk;have h2:=a2.size;rw[aD1]at h2;refine⟨cE,by omega,by omega,by omega,fun e => ?_,fun e => ?_⟩
         ·have:=(a8.2.2.1 _ e).2;omega
         ·have:=(a8.2.2.2 _ e).2;omega) g5 cap5 hown5 hg5
        have HN:Hid (_/\Got n ((codes s).take (i+1)) a0 (ps++[.sym (some lb)])/\pr.length<=i+1/\(pp++[wr.heap.size]).length<=i+1):=(⟨a4,HG.out,by omega,by simp;omega⟩:_/\_/\_/\_);have a1:(pp++[wr.heap.size]).isEmpty=false:=by simp
        clear a2 a4 hown5 hg5 oB oz;go_roundw;case rel=>exact⟨i+1,B,_,_,_,_,_,_,_,_,by omega,by go_num,rfl,by rw[a1];rfl,HN.out⟩
        case measure=>simp[intOf];omega
       ·have HF:Hid (RxM.read n (codes s)=none):=(by rw[HW.out];exact HS.out.2.1.bad c124 c42 c40 c46 hlet:_=none);have HB:Hid _:=HS.out.1.bel;by_cases hlo:97<=s[i].toNat
        ·have hwr:wrap64 ((s[i].toNat:Int)-97)=(s[i].toNat:Int)-97:=by unfold wrap64;omega
         have hn0:¬((s[i].toNat:Int)-97)<0:=by omega
         have hn1:(n:Int)<=((s[i].toNat:Int)-97):=by omega
         clear c46 c40 c42 c124 hlet;go_wp2;go_ret;exact⟨HB.out,.inl ⟨rfl,HF.out⟩⟩
        ·have hwr:wrap64 ((s[i].toNat:Int)-97)=(s[i].toNat:Int)-97:=by unfold wrap64;omega
         have hn0:((s[i].toNat:Int)-97)<0:=by omega
         clear c46 c40 c42 c124 hlet;go_wp2;go_ret;exact⟨HB.out,.inl ⟨rfl,HF.out⟩⟩
  ·obtain rfl:i=s.size:=by omega
   have HG:Hid (RxM.read n (codes s)=some (alts (a0++[jU ps]))):=(by
    have:=HS.out.2.1.done;rwa [aD2 (by rw[cO];omega)]at this:_=_)
   have kA':=fun o=>cell_kept (aA wr o) _ _ kA;go_wp2_with (at_builtin;refine aO _ rfl _ _ 152 rfl w.heap.size 99 i1 (.pointer none) 1 8 Tryz.underlying152 b1 b8 b9 bS rfl (by decide) _ _ _ rfl (HS.out.1.oA.alloc _) ⟨wr.heap.size,0,none⟩ 1 1 [.pointer (some ⟨B,0,none⟩)] rfl rfl (aG4 (cs:=#[.pointer (some ⟨B,0,none⟩)]) (t:=99) (fr:=(0,0)) (heap_alloc_new wr _)) (by simp[Value.oneCell']) (by omega) (by unfold maxLen;omega) (by omega) (by simp;omega) ?_;intro g5 cap5 w5 hown5 hg5;have b6:=(dN hg5).row (aB (aA wr _) HS.out.1.rA) (fun e=>(HS.out.1.ne.2.1 _ e).1 rfl);obtain⟨_,_,oA,oz⟩:=V6 b6;clear b6)
   have c8:=(HS.out.1.below (aA wr (.cells #[.pointer (some ⟨B,0,none⟩)] 99))).all (by omega) (by omega) g5 cap5 hown5 hg5;go_ret;exact⟨c8.2.1,.inr ⟨_,_,_,_,rfl,HG.out,c8.1,c8.2.2⟩⟩
theorem BH:∀ N,ParC N
 | 0=>fun _ _ _ h=>absurd h (Nat.not_lt_zero _)
 | N+1=>UK (BH N)
end Go.Proofs.YtphjbbbnbmafnaaGreatDoor.G
