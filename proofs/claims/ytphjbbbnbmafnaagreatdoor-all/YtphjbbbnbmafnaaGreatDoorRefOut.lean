/- Parts: RefOut. -/
import Derived.Test.YtphjbbbnbmafnaaGreatDoorExt
set_option maxHeartbeats 4000000
set_option maxRecDepth 100000
namespace Go.Proofs.YtphjbbbnbmafnaaGreatDoor.G
open Go.RowKit
variable {w:World} {b:Nat} {n s:Int} {v:Value} {l:List E3}
structure dR (w:World) (b:Nat) (n s:Int) (v:Value) (l:List E3):Prop where
 cn:w.cell? ⟨b,0,none⟩=some (.int .i64 n)
 cs:w.cell? ⟨b,1,none⟩=some (.int .i64 s)
 ce:w.cell? ⟨b,2,none⟩=some v
 ed:aI w v l
theorem dR.below{w':World}(h:dR w b n s v l)(hB:Below w.heap.size w w'):dR w' b n s v l :=
 ⟨cell_kept hB _ _ h.cn,cell_kept hB _ _ h.cs,cell_kept hB _ _ h.ce,h.ed.below hB⟩
theorem o6(hg:dR w b n s v l)(u:Int):
 Calls Tryz.prog 36 #[.pointer (some ⟨b,0,none⟩),.int .i64 u] w fun e w'=>e = .returned (.bool (decide (0<=u/\u<n)))/\w'=w:=by
 have h0:=hg.cn;by_cases h1:0<=u
 ·by_cases h2:u<n
  ·have HD:Hid _:=decide_eq_true (show 0<=u/\u<n from⟨h1,h2⟩);rw[HD.out];go_enter Tryz.func36,Tryz.ntmps36
   go_wp2;go_ret;exact⟨rfl,rfl⟩
  ·have HD:Hid _:=decide_eq_false (show ¬(0<=u/\u<n)from fun h=>h2 h.2);rw[HD.out];go_enter Tryz.func36,Tryz.ntmps36
   go_wp2;go_ret;exact⟨rfl,rfl⟩
 ·have HD:Hid _:=decide_eq_false (show ¬(0<=u/\u<n)from fun h=>h1 h.1);rw[HD.out];go_enter Tryz.func36,Tryz.ntmps36
  go_wp2;go_ret;exact⟨rfl,rfl⟩
theorem aAV(hg:dR w b n s v l)(u:Int)(hu:¬(0<=u/\u<n)):
 Calls Tryz.prog 16 #[.pointer (some ⟨b,0,none⟩),.int .i64 u] w fun e w'=>e = .returned (.tuple #[.slice none 0 0,.int .i64 1])/\w'=w:=by
 have hn:=o6 hg u;rw[decide_eq_false hu]at hn;have HN:Hid (Calls Tryz.prog 36 _ _ _):=hn;clear hn hu;go_enter Tryz.func16,Tryz.ntmps16
 go_wp2_with fail
 refine(aC0 HN.out ?_);rintro e w1 ⟨rfl,hw⟩;rw[hw];clear hw w1;go_wp2;go_ret2;exact⟨rfl,rfl⟩
theorem X7(hg:dR w b n s v l)(hl:l.length<=1000000)(u:Int)(hu:0<=u/\u<n):
 Calls Tryz.prog 16 #[.pointer (some ⟨b,0,none⟩),.int .i64 u] w fun e w'=>∃ v',e = .returned (.tuple #[v',.int .i64 0])/\eO w w' v' (l.filter (fun e=>e.1 == u)):=by
 have hn:=o6 hg u;rw[decide_eq_true hu]at hn;have HN:Hid (Calls Tryz.prog 36 _ _ _):=hn;have HG:Hid (dR w b n s v l):=hg;obtain⟨i0,hi,a7,a8,a9⟩:=info_parts Tryz.infoE;obtain⟨a0,cap,rfl,a2⟩:=id hg.ed;have HE:Hid _:=a2;have a5:=hg.ce;clear hn a2 hu hg;go_enter Tryz.func16,Tryz.ntmps16
 go_wp2_with fail
 refine(aC0 HN.out ?_);rintro e w1 ⟨rfl,hw⟩;rw[hw];clear hw w1;go_wp2;go_loopw [7,8] (fun so si wr=>∃ i:Nat,i<=l.length/\si = .int .i64 (i:Int)/\Hid (eO w wr so ((l.take i).filter (fun e=>e.1 == u)))) (fun _ si _=>l.length-(intOf si).toNat)
 case atStart=>exact⟨0,aC6 _,rfl,aG2 _ _ _ _,YQ _ _⟩
 case round =>
  obtain⟨i,hil,rfl,HO⟩:=hrel;have hcr:=cell_kept HO.out.2 _ _ a5;by_cases hlt:i<l.length
  ·obtain⟨x,hx⟩:∃ x,l[i]?=some x:=⟨l[i],A7 hlt⟩;obtain⟨g,off,rfl,c0,c1,c2⟩:=HE.out i x hx;have d0:=cell_kept HO.out.2 _ _ c0;have d1:=cell_kept HO.out.2 _ _ c1;have d2:=cell_kept HO.out.2 _ _ c2;have hT:=nS (p:=fun e=>e.1 == u) hx;have hiI:(i:Int)<(l.length:Int):=by omega
   obtain⟨x1,x2,x3⟩:=x;simp only at d0 d1 d2 hT;clear c0 c1 c2 hx;cases hq:(x1 == u)
   ·rw[hq,if_neg (by decide),aE4]at hT;have HT:Hid _:=hT;clear hT;go_wp2;go_roundw;case rel=>exact⟨i+1,by omega,by go_num,by rw[HT.out];exact HO.out⟩
    case measure=>simp[intOf];omega
   ·rw[hq,if_pos rfl]at hT;have HT:Hid _:=hT;have a1:=HO.out.1;have a6:=HO.out.2.size;have hfl:((l.take i).filter (fun e=>e.1 == u)).length<=1000000:=by
     refine aD9 (aE8 _ _) ?_;simp;omega
    clear hT;go_wp2_with (at_builtin;refine wpList_append_own _ rfl _ _ 24 rfl w.heap.size 38 i0 (.agg #[.int .i64 0,.int .i64 0,.int .i64 0]) 3 24 Tryz.underlying24 hi a7 a8 a9 rfl (by decide) _ _ _ rfl (a1.alloc _) ⟨wr.heap.size,0,none⟩ 1 1 [.int .i64 x1,.int .i64 x2,.int .i64 x3] rfl rfl (SK _ _ _ _ _) (ED _ _ _) (by unfold maxLen;omega) (by omega) (uQ a6) ?_;intro v' w2 hown hgrow hnil)
    have a4:Hid _:=eP (e:=(x1,x2,x3)) HO.out hown hgrow;clear hown hgrow hnil a1;go_wp2;go_roundw;case rel=>exact⟨i+1,by omega,by go_num,by rw[HT.out];exact a4.out⟩
    case measure=>simp[intOf];omega
  ·obtain rfl:i=l.length:=by omega
   have hO:=HO.out;rw[aE3]at hO;have a3:Hid (eO w wr u7 (l.filter (fun e=>e.1 == u))):=hO;clear hO HO;go_wp2;go_ret2;exact⟨_,rfl,a3.out⟩
theorem aAc(hg:dR w b n s v l)(u:Int)(hu:¬(0<=u/\u<n)):
 Calls Tryz.prog 19 #[.pointer (some ⟨b,0,none⟩),.int .i64 u] w fun e w'=>e = .returned (.tuple #[.slice none 0 0,.int .i64 1])/\w'=w:=by
 have hn:=o6 hg u;rw[decide_eq_false hu]at hn;have HN:Hid (Calls Tryz.prog 36 _ _ _):=hn;clear hn hu;go_enter Tryz.func19,Tryz.ntmps19
 go_wp2_with fail
 refine(aC0 HN.out ?_);rintro e w1 ⟨rfl,hw⟩;rw[hw];clear hw w1;go_wp2;go_ret2;exact⟨rfl,rfl⟩
theorem ZJ(hg:dR w b n s v l)(hl:l.length<=1000000)(u:Int)(hu:0<=u/\u<n):
 Calls Tryz.prog 19 #[.pointer (some ⟨b,0,none⟩),.int .i64 u] w fun e w'=>∃ v',e = .returned (.tuple #[v',.int .i64 0])/\eO w w' v' (l.filter (fun e=>e.2.2 == u)):=by
 have hn:=o6 hg u;rw[decide_eq_true hu]at hn;have HN:Hid (Calls Tryz.prog 36 _ _ _):=hn;have HG:Hid (dR w b n s v l):=hg;obtain⟨i0,hi,a7,a8,a9⟩:=info_parts Tryz.infoE;obtain⟨a0,cap,rfl,a2⟩:=id hg.ed;have HE:Hid _:=a2;have a5:=hg.ce;clear hn a2 hu hg;go_enter Tryz.func19,Tryz.ntmps19
 go_wp2_with fail
 refine(aC0 HN.out ?_);rintro e w1 ⟨rfl,hw⟩;rw[hw];clear hw w1;go_wp2;go_loopw [7,8] (fun so si wr=>∃ i:Nat,i<=l.length/\si = .int .i64 (i:Int)/\Hid (eO w wr so ((l.take i).filter (fun e=>e.2.2 == u)))) (fun _ si _=>l.length-(intOf si).toNat)
 case atStart=>exact⟨0,aC6 _,rfl,aG2 _ _ _ _,YQ _ _⟩
 case round =>
  obtain⟨i,hil,rfl,HO⟩:=hrel;have hcr:=cell_kept HO.out.2 _ _ a5;by_cases hlt:i<l.length
  ·obtain⟨x,hx⟩:∃ x,l[i]?=some x:=⟨l[i],A7 hlt⟩;obtain⟨g,off,rfl,c0,c1,c2⟩:=HE.out i x hx;have d0:=cell_kept HO.out.2 _ _ c0;have d1:=cell_kept HO.out.2 _ _ c1;have d2:=cell_kept HO.out.2 _ _ c2;have hT:=nS (p:=fun e=>e.2.2 == u) hx;have hiI:(i:Int)<(l.length:Int):=by omega
   obtain⟨x1,x2,x3⟩:=x;simp only at d0 d1 d2 hT;clear c0 c1 c2 hx;cases hq:(x3 == u)
   ·rw[hq,if_neg (by decide),aE4]at hT;have HT:Hid _:=hT;clear hT;go_wp2;go_roundw;case rel=>exact⟨i+1,by omega,by go_num,by rw[HT.out];exact HO.out⟩
    case measure=>simp[intOf];omega
   ·rw[hq,if_pos rfl]at hT;have HT:Hid _:=hT;have a1:=HO.out.1;have a6:=HO.out.2.size;have hfl:((l.take i).filter (fun e=>e.2.2 == u)).length<=1000000:=by
     refine aD9 (aE8 _ _) ?_;simp;omega
    clear hT;go_wp2_with (at_builtin;refine wpList_append_own _ rfl _ _ 24 rfl w.heap.size 38 i0 (.agg #[.int .i64 0,.int .i64 0,.int .i64 0]) 3 24 Tryz.underlying24 hi a7 a8 a9 rfl (by decide) _ _ _ rfl (a1.alloc _) ⟨wr.heap.size,0,none⟩ 1 1 [.int .i64 x1,.int .i64 x2,.int .i64 x3] rfl rfl (SK _ _ _ _ _) (ED _ _ _) (by unfold maxLen;omega) (by omega) (uQ a6) ?_;intro v' w2 hown hgrow hnil)
    have a4:Hid _:=eP (e:=(x1,x2,x3)) HO.out hown hgrow;clear hown hgrow hnil a1;go_wp2;go_roundw;case rel=>exact⟨i+1,by omega,by go_num,by rw[HT.out];exact a4.out⟩
    case measure=>simp[intOf];omega
  ·obtain rfl:i=l.length:=by omega
   have hO:=HO.out;rw[aE3]at hO;have a3:Hid (eO w wr u7 (l.filter (fun e=>e.2.2 == u))):=hO;clear hO HO;go_wp2;go_ret2;exact⟨_,rfl,a3.out⟩
end Go.Proofs.YtphjbbbnbmafnaaGreatDoor.G
