/- Parts: DRe. -/
import Derived.Test.YtphjbbbnbmafnaaGreatDoorDFo
import Derived.Test.YtphjbbbnbmafnaaGreatDoorDPa
import Derived.Test.YtphjbbbnbmafnaaGreatDoorDCl
import Derived.Test.YtphjbbbnbmafnaaGreatDoorRefOut
set_option maxHeartbeats 8000000
set_option maxRecDepth 100000
namespace Go.Proofs.YtphjbbbnbmafnaaGreatDoor.G
open Go.RowKit Go.Shelf RxM
variable {outs:Nat->List E3}
theorem qB(f:Nat->Bool)(v:Nat):(List.range (v+1)).filter f=(List.range v).filter f++(if f v then [v]else []):=by
 rw[List.range_succ,aF7];cases h:f v <;> simp[h]
theorem MN{w:World}{b n s:Nat}{v:Value}{L:List E3}(hg:dR w b (n:Int) (s:Int) v L)(u:Int)(q:ByteArray)(hn:n<=10000)(hs:s<=26)(hL:L.length<=20000)
 (hok:∀ e∈L,∃ a c b:Nat,e=((a:Int),(c:Int),(b:Int))/\a<n/\b<n) (hE:Eof outs=uV L) (hq:q.size<=9223372036854775807) :
 Calls Tryz.prog 25 #[.pointer (some ⟨b,0,none⟩),.int .i64 u,.string q] w (yR outs u q n s w):=by
 have hnd:=o6 hg u;have HN:Hid (Calls Tryz.prog 36 #[.pointer (some ⟨b,0,none⟩),.int .i64 u] w _):=hnd;have HG:Hid (dR w b (n:Int) (s:Int) v L):=hg;have HK:Hid (_/\_):=⟨hok,hE⟩;have c1:=hg.cs;have hqI:(q.size:Int)<=9223372036854775807:=by omega
 clear hnd hg hok hE;by_cases hu:0<=u/\u<(n:Int)
 ·obtain⟨un,hun⟩:∃ un:Nat,u=(un:Int):=⟨u.toNat,by omega⟩;have HU:Hid (_/\_):=⟨hu,hun⟩;clear hu hun;by_cases hq2:q.size<=200
  ·have hqJ:¬(q.size:Int)>200:=by omega
   have HP:Hid (Calls Tryz.prog 46 #[.string q,.int .i64 (s:Int)] w (AP q s w)):=BH (q.size+1) q s w (Nat.lt_succ_self _) hq2 hs;go_enter Tryz.func25,Tryz.ntmps25
   go_wp2_with fail
   refine(aC0 HN.out ?_);rintro e w1 ⟨rfl,rfl⟩;rw[decide_eq_true HU.out.1];go_wp2_with fail
   refine(aC0 HP.out ?_);rintro e w2 ⟨hB,⟨rfl,hno⟩ | ⟨p,t,F,h,rfl,hrd,hT,hF⟩⟩
   ·have HB:Hid (_/\_):=⟨hB,hno⟩;clear hB hno;go_wp2;go_ret2;exact⟨_,_,[],rfl,HB.out.1,tL _ _ _ _,.inr (.inl ⟨HU.out.1,.inr HB.out.2,rfl,rfl⟩)⟩
   ·have hsz:size t<=200:=aD9 (DX hrd) (by rw[cO];exact hq2);have a3:=HG.out.below hB;obtain⟨a0,cap,hv,hed⟩:=a3.ed;have a4:=a3.ce;rw[hv]at a4;have a5:=OB b n p un a0 cap L t F h w2 a3.cn a4 hed HK.out.1 hn hL (by have:=HU.out;omega) hT (fun k hk=>(hF k hk).2) hsz;rw[<-HU.out.2]at a5;have HFo:Hid (Calls Tryz.prog 47 #[.pointer (some ⟨b,0,none⟩),.pointer (some ⟨p,0,none⟩),.int .i64 u] w2 _):=a5;have c0:=a3.cn;have HB:Hid (_/\_):=⟨hB,hrd⟩;clear a5 hB hrd hT hF a3 hed a4 hv c1;go_wp2_with fail
    refine(aC0 HFo.out ?_);rintro e w3 ⟨gf,f,rfl,hown,hrel2,hB3⟩;have d0:=cell_kept hB3 _ _ c0;have HF:Hid (_/\_/\_):=⟨hown,hrel2,hB3⟩;obtain⟨i0,hi0,hz0,hz1,hz2⟩:=info_parts Tryz.infoIi;clear hown hrel2 hB3 c0;go_wp2;go_loopw [11,12] (fun so si wr=>∃(v:Nat) (ao:Option Addr) (co:Nat),v<=n/\si = .int .i64 (v:Int)/\so = .slice ao ((List.range v).filter f).length co/\Hid (wr.ownsRow w3.heap.size 3 1 so ((List.range v).filter f).length (ints ((List.range v).filter f))/\Below w3.heap.size w3 wr)) (fun _ si _=>n-(intOf si).toNat)
    case atStart=>exact⟨0,none,0,aC6 _,rfl,rfl,aG2 _ _ _ _,YQ _ _⟩
    case round =>
     obtain⟨v,ao,co,hv,rfl,rfl,HI⟩:=hrel;have d1:=cell_kept HI.out.2 _ _ d0;have hlen:((List.range v).filter f).length<=v:=by have:=aE8 f (List.range v);rwa [List.length_range]at this
     by_cases hlt:v<n
     ·have hvI:(v:Int)<(n:Int):=by omega
      have d2:=cell_kept HI.out.2 _ _ (show w3.cell? ⟨gf,v,none⟩=some (.bool (f v)) by rw[World.ownsRow.cellAt HF.out.1 v (by omega),gU _ _ _ hlt]);have a1:=qB f v;cases hf:f v with
      | false =>
       rw[hf]at d2 a1;simp only[aG7,if_false,aE4]at a1;have a2:Hid (_=_):=a1;clear a1 hf;go_wp2;go_roundw;case rel=>exact⟨v+1,ao,co,by omega,by go_num,by rw[a2.out],by rw[a2.out];exact HI.out⟩
       case measure=>simp[intOf];omega
      | true =>
       rw[hf]at d2 a1;simp only[if_true]at a1;have a2:Hid (_=_):=a1;have a6:=HI.out.1;have a7:=HI.out.2.size;clear a1 hf;go_wp2_with (at_builtin;refine aO _ rfl _ _ 64 rfl w3.heap.size 3 i0 (.int .i64 0) 1 8 Tryz.underlying64 hi0 hz0 hz1 hz2 rfl (by decide) _ _ _ rfl (a6.alloc _) ⟨wr.heap.size,0,none⟩ 1 1 [.int .i64 (v:Int)] rfl rfl (aG4 (cs:=#[.int .i64 (v:Int)]) (t:=3) (fr:=(0,0)) (heap_alloc_new wr _)) (by simp[Value.oneCell']) (by omega) (by unfold maxLen;omega) (by omega) (by simp;omega) ?_;intro g5 cap5 w5 hown5 hg5)
       have hb1:Below w3.heap.size w3 w5:=by
        have hB1:=HI.out.2.trans ((aA wr (.cells #[.int .i64 (v:Int)] 3)).mono a7);rcases hg5 with ⟨e1,e2⟩ | ⟨_,e2⟩
        ·exact hB1.grown e2 (by simp;omega) (fun k e=>by injection e with e;subst e;exact(a6.lt _ e1).1)
        ·exact hB1.grown e2 (by simp;omega) (fun k e=>by cases e)
       have HR:Hid (w5.ownsRow w3.heap.size 3 1 (.slice (some ⟨g5,0,none⟩) (((List.range v).filter f).length+1) cap5) ((List.range (v+1)).filter f).length (ints ((List.range (v+1)).filter f))/\Below w3.heap.size w3 w5):=(⟨by rw[a2.out,WT,lW];exact hown5,hb1⟩:_/\_);clear hb1 hown5 hg5 a6;go_wp2;go_roundw;case rel=>exact⟨v+1,_,cap5,by omega,by go_num,by rw[a2.out,WT];rfl,HR.out⟩
       case measure=>simp[intOf];omega
     ·obtain rfl:v=n:=by omega
      go_wp2;go_ret2;have h3:=HB.out.1.trans (HF.out.2.2.mono HB.out.1.size);refine⟨_,_,(List.range v).filter f,rfl,h3.trans (HI.out.2.mono h3.size),l8 HI.out.1 h3.size,.inr (.inr ⟨HU.out.1,hq2,t,HB.out.2,rfl,(List.pairwise_lt_range).filter _,fun x => ?_⟩)⟩;rw[List.mem_filter,List.mem_range,HK.out.2,HU.out.2,aG3];exact⟨fun h=>⟨h.1,(HF.out.2.1 x h.1).1 h.2⟩,fun h=>⟨h.1,(HF.out.2.1 x h.1).2 h.2⟩⟩
  ·have hqJ:(q.size:Int)>200:=by omega
   have HQ:Hid (¬ q.size<=200):=hq2;clear hq2;go_enter Tryz.func25,Tryz.ntmps25
   go_wp2_with fail
   refine(aC0 HN.out ?_);rintro e w1 ⟨rfl,rfl⟩;rw[decide_eq_true HU.out.1];go_wp2;go_ret2;exact⟨_,_,[],rfl,YQ _ _,tL _ _ _ _,.inr (.inl ⟨HU.out.1,.inl (by have:=HQ.out;omega),rfl,rfl⟩)⟩
 ·have HU:Hid (¬(0<=u/\u<(n:Int))):=hu;clear hu;go_enter Tryz.func25,Tryz.ntmps25
  go_wp2_with fail
  refine(aC0 HN.out ?_);rintro e w1 ⟨rfl,rfl⟩;rw[decide_eq_false HU.out];go_wp2;go_ret2;exact⟨_,_,[],rfl,YQ _ _,tL _ _ _ _,.inl ⟨HU.out,rfl,rfl⟩⟩
end Go.Proofs.YtphjbbbnbmafnaaGreatDoor.G
