/- Parts: Made New OrdM. -/
import Derived.Test.YtphjbbbnbmafnaaGreatDoorRank
import Derived.Below
import Derived.BigRegion
import Derived.Test.YtphjbbbnbmafnaaGreatDoorExt
set_option maxHeartbeats 2000000
set_option maxRecDepth 100000
namespace Go.Proofs.YtphjbbbnbmafnaaGreatDoor
open Go.RowKit
variable {w w':World} {b ba bw n:Nat} {f:Nat->Bool} {W:Nat->Nat}
theorem aT.kept(hb:aT w b bw ba f n W)(h:∀ p v,w.cell? p=some v->w'.cell? p=some v):aT w' b bw ba f n W :=
 ⟨hb.hn,h _ _ hb.len,h _ _ hb.ones,h _ _ hb.words,h _ _ hb.ahead,fun j hj=>h _ _ (hb.word j hj),fun j hj=>h _ _ (hb.ahd j hj),hb.wlt,hb.wbit,hb.out⟩
theorem cell_kept(hB:Below w.heap.size w w')(p:Addr)(v:Value)(h:w.cell? p=some v):w'.cell? p=some v:=by
 rw[<-h];exact hB.cell (aE6 _ _ h)
theorem aT.below(hb:aT w b bw ba f n W)(hB:Below w.heap.size w w'):aT w' b bw ba f n W :=
 hb.kept (cell_kept hB)
theorem aT.drewN(hb:aT w b bw ba f n W)(q:Nat):aT (w.drewN q) b bw ba f n W :=
 hb.kept (fun _ _ h=>h)
def side(f:Nat->Bool)(one:Bool)(i:Nat):Bool:=f i == one
theorem lS(f:Nat->Bool):side f true=f:=by funext i;simp[side]
theorem I6(f:Nat->Bool)(m:Nat):cnt (side f false) m+cnt f m=m:=by
 induction m with
 | zero=>rfl
 | succ m ih =>
  rw[bL,bL];have e:side f false m = !f m:=by unfold side;cases f m <;> rfl
  rw[e];cases f m <;> simp <;> omega
theorem OH(f:Nat->Bool)(m:Nat)(M:Int)(h:M=(m:Int)):M-(cnt f m:Int)=(cnt (side f false) m:Int):=by
 have:=I6 f m;omega
theorem F8(hb:aT w b bw ba f n W)(one:Bool)(i:Nat)(hi:i<n / 64+1):
 Calls Tryz.prog 209 #[.pointer (some ⟨b,0,none⟩),.int .i64 (i:Int),.bool one] w fun e w'=>e = .returned (.int .i64 (cnt (side f one) (64*i):Int))/\w'=w:=by
 have h3:=hb.ahead;have ha:=hb.ahd i hi;have hn:=hb.hn;have hc:=dX f (64*i);have hi1:(i:Int)<((n / 64+1:Nat):Int):=by omega
 cases one
 ·have HS:Hid _:=OH f (64*i) ((i:Int)*64) (by omega);go_enter Tryz.func209,Tryz.ntmps209
  go_wp2;go_ret;exact⟨iN HS.out,rfl⟩
 ·rw[lS];go_enter Tryz.func209,Tryz.ntmps209
  go_wp2;go_ret;exact⟨rfl,rfl⟩
theorem UX(hb:aT w b bw ba f n W)(B C D:Nat)(k:Int)(one:Bool)(hB:w.cell? ⟨B,0,none⟩=some (.pointer (some ⟨b,0,none⟩)))(hC:w.cell? ⟨C,0,none⟩=some (.bool one))(hD:w.cell? ⟨D,0,none⟩=some (.int .i64 k))(i:Nat)(hi:i<n / 64+1):
 Calls Tryz.prog 208 #[.int .i64 (i:Int),.pointer (some ⟨B,0,none⟩),.pointer (some ⟨C,0,none⟩),.pointer (some ⟨D,0,none⟩)] w fun e w'=>e = .returned (.bool (decide (k<(cnt (side f one) (64*i):Int))))/\∃ q,w'=w.drewN q:=by
 have hc:=dX (side f one) (64*i);have hn:=hb.hn;have HA:Hid (∀ q,Calls Tryz.prog 209 _ _ _):=fun q=>F8 (hb.drewN q) one i hi;go_enter Tryz.func208,Tryz.ntmps208
 go_wp2;go_quiet ((go_at_call 209;refine(HA.out _).mono ?_;rintro e w'' ⟨rfl,rfl⟩;exact⟨rfl,_,rfl⟩))
 go_wp2;go_ret;exact⟨rfl,_,rfl⟩
theorem KE(n:Nat)(p:Nat->Bool)(B C D:Nat)(w:World)(hsz:n<4611686018427387904)
 (hf:∀(m i:Nat),i<n->Calls Tryz.prog 208 #[.int .i64 (i:Int),.pointer (some ⟨B,0,none⟩),.pointer (some ⟨C,0,none⟩),.pointer (some ⟨D,0,none⟩)] (w.drewN m) fun e w'=>e = .returned (.bool (p i))/\∃ q,w'=(w.drewN m).drewN q)
 (hmono:∀ a b,a<=b->b<n->p a=true->p b=true) :
 Calls Tryz.prog 115 #[.int .i64 (n:Int),.func (.func 208) #[] #[.pointer (some ⟨B,0,none⟩),.pointer (some ⟨C,0,none⟩),.pointer (some ⟨D,0,none⟩)]] w fun e w'=>∃ r:Nat,e = .returned (.int .i64 (r:Int))/\(∃ q,w'=w.drewN q)/\r<=n/\(∀ t,t<r->p t=false)/\(∀ t,r<=t->t<n->p t=true):=by
 have HF:Hid _:=hf;have M:Hid _:=hmono;clear hf hmono;go_enter Tryz.func115,Tryz.ntmps115
 go_wp2;go_loopw [5,6] (fun s5 s6 wr=>∃ lo hi q:Nat,s5 = .int .i64 lo/\s6 = .int .i64 hi/\lo<=hi/\hi<=n/\wr=w.drewN q/\Hid ((∀ t,t<lo->p t=false)/\(∀ t,hi<=t->t<n->p t=true))) (fun s5 s6 _=>(intOf s6-intOf s5).toNat)
 case atStart=>exact⟨0,n,0,rfl,rfl,aC6 _,V7 _,rfl,(⟨fun t ht=>absurd ht (Nat.not_lt_zero _),fun t h1 h2=>by omega⟩:(∀ t,t<0->p t=false)/\(∀ t,n<=t->t<n->p t=true))⟩
 case round =>
  obtain⟨lo,hi,q,rfl,rfl,hlh,hin,rfl,I⟩:=hrel;by_cases hlt:lo<hi
  ·have ee:(((lo+hi) / 2:Nat):Int)=((lo:Int)+(hi:Int)) / 2:=by omega
   cases hp:p ((lo+hi) / 2)
   ·have HP:Hid (p ((lo+hi) / 2)=false):=hp;clear hp;have EE:Hid _:=ee;clear ee;go_wp2_with (go_at_call 208;have hc:=HF.out q ((lo+hi) / 2) (by omega);rw[EE.out,HP.out]at hc;refine hc.mono ?_;clear hc;rintro e w' ⟨rfl,nq,rfl⟩)
    go_roundw;case rel =>
     have I2:Hid ((∀ t,t<(lo+hi) / 2+1->p t=false)/\(∀ t,hi<=t->t<n->p t=true)):=⟨fun t ht=>(by
      cases h:p t with
      | false=>rfl
      | true=>have:=M.out t ((lo+hi) / 2) (by omega) (by omega) h;rw[HP.out]at this;cases this),I.out.2⟩
     exact⟨(lo+hi) / 2+1,hi,q+nq,by rw[show((lo:Int)+(hi:Int)) / 2+1=(((lo+hi) / 2+1:Nat):Int) by omega],rfl,by omega,hin,rfl,I2⟩
    case measure=>simp[intOf];omega
   ·have HP:Hid (p ((lo+hi) / 2)=true):=hp;clear hp;have EE:Hid _:=ee;clear ee;go_wp2_with (go_at_call 208;have hc:=HF.out q ((lo+hi) / 2) (by omega);rw[EE.out,HP.out]at hc;refine hc.mono ?_;clear hc;rintro e w' ⟨rfl,nq,rfl⟩)
    go_roundw;case rel =>
     have I2:Hid ((∀ t,t<lo->p t=false)/\(∀ t,(lo+hi) / 2<=t->t<n->p t=true)):=⟨I.out.1,fun t ht htn=>M.out ((lo+hi) / 2) t ht htn HP.out⟩;exact⟨lo,(lo+hi) / 2,q+nq,rfl,by rw[show((lo:Int)+(hi:Int)) / 2=(((lo+hi) / 2:Nat):Int) by omega],by omega,by omega,rfl,I2⟩
    case measure=>simp[intOf];omega
  ·obtain rfl:hi=lo:=by omega
   go_wp2;go_ret;exact⟨hi,rfl,⟨q,rfl⟩,hin,I.out.1,I.out.2⟩
theorem I8(g:Nat->Bool)(k:Nat):∀ m,k<cnt g m->∃ p,p<m/\g p=true/\cnt g p=k:=by
 intro m
 induction m with
 | zero=>intro h;simp[cnt]at h
 | succ m ih =>
  intro h;by_cases e:k<cnt g m
  ·obtain⟨p,a,b,c⟩:=ih e;exact⟨p,by omega,b,c⟩
  ·rw[bL]at h;cases hg:g m with
   | false=>rw[hg]at h;simp at h;omega
   | true=>rw[hg]at h;simp at h;exact⟨m,by omega,hg,by omega⟩
theorem sD(g:Nat->Bool){p q:Nat}(hp:g p=true)(hq:g q=true)(h:cnt g p=cnt g q):p=q:=by
 have key:∀ a b,a<b->g a=true->cnt g a<cnt g b:=fun a b hab ha=>by
  have h1:=cnt_mono g (show a+1<=b by omega);rw[bL,ha]at h1;simp at h1;omega
 rcases Nat.lt_trichotomy p q with a | a | a
 ·have:=key p q a hp;omega
 ·exact a
 ·have:=key q p a hq;omega
theorem WB(X p:Nat)(hX:X<18446744073709551616)(hp:p<64)(ht:X.testBit p=true)(y:Int)(hy:y=(cnt X.testBit p:Int))(Y:Int)(hY:Y=(X:Int))(w:World):
 Calls Tryz.prog 210 #[.int .u64 Y,.int .i64 y] w fun e w'=>e = .returned (.int .i64 (p:Int))/\w'=w:=by
 subst hy hY;refine(YM X (cnt X.testBit p) hX ?_ w).mono ?_
 ·have:=cnt_mono X.testBit (show p+1<=64 by omega);rw[bL,ht]at this;simp at this;unfold pop;omega
 ·rintro e w' ⟨s,rfl,rfl,_,h2,h3⟩;obtain rfl:s=p:=sD _ h2 ht h3;exact⟨rfl,rfl⟩
theorem YI(x:Nat)(hx:x<18446744073709551616):bits .xor .u64 IntKind.u64.max (x:Int)=((18446744073709551615-x:Nat):Int):=by
 have e:IntKind.u64.max=((18446744073709551615:Nat):Int):=by decide
 rw[e,u64_xor_nat _ _ (by decide) hx];congr 1;apply Nat.eq_of_testBit_eq;intro i;rw[show 18446744073709551615-x=2 ^ 64-(x+1) by omega,Nat.testBit_two_pow_sub_succ (by omega),Nat.testBit_xor,show(18446744073709551615:Nat)=2 ^ 64-1 from rfl,Nat.testBit_two_pow_sub_one];by_cases h:i<64
 ·simp[h]
 ·have:x.testBit i=false:=Nat.testBit_lt_two_pow (aF0 hx (aL0 (n:=2) (by decide) (show 64<=i by omega)));simp[h,this]
theorem zP(hb:aT w b bw ba f n W)(one:Bool)(j t:Nat)(ht:t<64):
 (if one then W j else 18446744073709551615-W j).testBit t=side f one (64*j+t):=by
 have hl:=hb.wlt j;have h:=hb.wbit j t ht;cases one
 ·have e:18446744073709551615-W j=2 ^ 64-(W j+1):=by omega
  rw[if_neg (by simp),e,Nat.testBit_two_pow_sub_succ (by omega),h];simp[side,ht]
 ·rw[if_pos rfl,h,lS]
theorem Y1(hb:aT w b bw ba f n W)(one:Bool)(j:Nat):cnt (side f one) (64*j+64)=cnt (side f one) (64*j)+pop (if one then W j else 18446744073709551615-W j):=by
 rw[dU];congr 1;exact fT fun t ht=>(zP hb one j t ht).symm
theorem MO(hb:aT w b bw ba f n W)(one:Bool)(B C D k:Nat)(hB:w.cell? ⟨B,0,none⟩=some (.pointer (some ⟨b,0,none⟩)))(hC:w.cell? ⟨C,0,none⟩=some (.bool one))(hD:w.cell? ⟨D,0,none⟩=some (.int .i64 (k:Int)))(hk:k<cnt (side f one) n)(L:Int)(hL:L=((n / 64+1:Nat):Int)):
 Calls Tryz.prog 115 #[.int .i64 L,.func (.func 208) #[] #[.pointer (some ⟨B,0,none⟩),.pointer (some ⟨C,0,none⟩),.pointer (some ⟨D,0,none⟩)]] w fun e w'=>∃ j:Nat,e = .returned (.int .i64 ((j:Int)+1))/\(∃ q,w'=w.drewN q)/\j<n / 64+1/\cnt (side f one) (64*j)<=k/\k<cnt (side f one) (64*j)+pop (if one then W j else 18446744073709551615-W j):=by
 subst hL;have hn:=hb.hn;refine(KE (n / 64+1) (fun i=>decide ((k:Int)<(cnt (side f one) (64*i):Int))) B C D w (by omega) (fun m i hi=>UX (hb.drewN m) B C D k one hB hC hD i hi) ?_).mono ?_
 ·intro x y hxy _ hx;have:=cnt_mono (side f one) (show 64*x<=64*y by omega);simp only[decide_eq_true_eq]at hx ⊢;omega
 ·rintro e w' ⟨r,rfl,hq,hr,h1,h2⟩;have hr0:r≠0:=by
   intro h0;have h7:(k:Int)<(cnt (side f one) (64*0):Int):=of_decide_eq_true (h2 0 (by omega) (by omega));rw[show cnt (side f one) (64*0)=0 from rfl]at h7;omega
  have h3:=h1 (r-1) (by omega);simp only[decide_eq_false_iff_not]at h3;refine⟨r-1,?_,hq,by omega,by omega,?_⟩
  ·rw[show((r-1:Nat):Int)+1=(r:Int) by omega]
  ·rw[<-Y1 hb];by_cases e:r<n / 64+1
   ·have:=h2 r (V7 _) e;simp only[decide_eq_true_eq]at this;rw[show 64*(r-1)+64=64*r by omega];omega
   ·have:=cnt_mono (side f one) (show n<=64*(r-1)+64 by omega);omega
theorem AA(w:World)(x y:Value)(s t:TypeId):((w.alloc (.cells #[x] s)).alloc (.cells #[y] t)).cell? ⟨w.heap.size,0,none⟩=some x/\((w.alloc (.cells #[x] s)).alloc (.cells #[y] t)).cell? ⟨w.heap.size+1,0,none⟩=some y:=by
 constructor
 ·simp
 ·simp
theorem FU(w:World)(x y z:Value)(s t u:TypeId):(((w.alloc (.cells #[x] s)).alloc (.cells #[y] t)).alloc (.cells #[z] u)).cell? ⟨w.heap.size,0,none⟩=some x/\(((w.alloc (.cells #[x] s)).alloc (.cells #[y] t)).alloc (.cells #[z] u)).cell? ⟨w.heap.size+1,0,none⟩=some y/\(((w.alloc (.cells #[x] s)).alloc (.cells #[y] t)).alloc (.cells #[z] u)).cell? ⟨w.heap.size+1+1,0,none⟩=some z:=by
 have e1:=AA w x y s t;have hB:Below ((w.alloc (.cells #[x] s)).alloc (.cells #[y] t)).heap.size ((w.alloc (.cells #[x] s)).alloc (.cells #[y] t)) (((w.alloc (.cells #[x] s)).alloc (.cells #[y] t)).alloc (.cells #[z] u)):=(YQ _ _).alloc (V7 _) _;refine⟨cell_kept hB _ _ e1.1,cell_kept hB _ _ e1.2,?_⟩;have e2:((w.alloc (.cells #[x] s)).alloc (.cells #[y] t)).heap.size=w.heap.size+1+1:=by simp
 rw[<-e2];generalize (w.alloc (.cells #[x] s)).alloc (.cells #[y] t)=w2;simp
theorem nX(w:World)(x y z:Obj):Below w.heap.size w (((w.alloc x).alloc y).alloc z):=(((YQ _ _).alloc (V7 _) _).alloc (by simp) _).alloc (by simp;omega) _
theorem IJ{w0:World}(hb:aT w b bw ba f n W)(one:Bool)(k j p:Nat)(hk:k<cnt (side f one) n)(hp:p<64)(ht:(if one then W j else 18446744073709551615-W j).testBit p=true)(hc:cnt (if one then W j else 18446744073709551615-W j).testBit p=k-cnt (side f one) (64*j))(h4:cnt (side f one) (64*j)<=k)(hB:Below w.heap.size w w0)(S:Int)(hS:S=(j:Int)*64+(p:Int)):
 ∃ s:Nat,Ending.returned (.int .i64 S) = .returned (.int .i64 (s:Int))/\s<n/\f s=one/\cnt (side f one) s=k/\Below w.heap.size w w0:=by
 have hf:side f one (64*j+p)=true:=by rw[<-zP hb one j p hp];exact ht
 have hcc:cnt (side f one) (64*j+p)=k:=by
  rw[dU,fT (g:=(if one then W j else 18446744073709551615-W j).testBit) (fun t ht=>(zP hb one j t (by omega)).symm),hc];omega
 refine⟨64*j+p,by rw[hS];exact iN (by omega),?_,by simpa[side]using hf,hcc,hB⟩;by_cases e:64*j+p<n
 ·exact e
 ·have:=cnt_mono (side f one) (show n<=64*j+p by omega);omega
theorem zU(hb:aT w b bw ba f n W)(one:Bool)(k:Nat)(h:k<cnt (side f one) n)(K:Int)(hK:K=(k:Int)):
 Calls Tryz.prog 190 #[.pointer (some ⟨b,0,none⟩),.int .i64 K,.bool one] w fun e w'=>∃ s:Nat,e = .returned (.int .i64 (s:Int))/\s<n/\f s=one/\cnt (side f one) s=k/\Below w.heap.size w w':=by
 subst hK;have hB:=nX w (.cells #[.pointer (some ⟨b,0,none⟩)] 79) (.cells #[.int .i64 (k:Int)] 3) (.cells #[.bool one] 4);have a7:=hb.below hB;have hc:=FU w (.pointer (some ⟨b,0,none⟩)) (.int .i64 (k:Int)) (.bool one) 79 3 4;have hn:=hb.hn;have h2:=a7.words;have hk2:(k:Int)<=100000:=by have:=dX (side f one) n;omega
 have HC:Hid _:=hc;have hkk:=h;clear hc;go_enter Tryz.func190,Tryz.ntmps190
 go_wp2_with fail
 refine(MO a7 one _ _ _ k HC.out.1 HC.out.2.2 HC.out.2.1 h _ (by omega)).mono ?_;rintro e w' ⟨j,rfl,⟨q,rfl⟩,hj,h4,h5⟩;obtain⟨p,hp,ht,hcp⟩:=I8 (if one then W j else 18446744073709551615-W j).testBit (k-cnt (side f one) (64*j)) 64 (by unfold pop at h5;omega);have hw:=a7.word j hj;have hl:=hb.wlt j;have hj1:(j:Int)<((n / 64+1:Nat):Int):=by omega
 have hj2:(j:Int)<(n:Int) / 64+1:=by omega
 have hj0:(0:Int)<=(j:Int):=by omega
 have hm:IntKind.i64.wrap ((j:Int)*64)=(j:Int)*64:=by rw[aK6];omega
 have hcl:=dX (side f one) (64*j);have HT:Hid _:=ht;have HP:Hid _:=hcp;clear ht hcp hB;cases one
 ·have HX:Hid (bits .xor .u64 IntKind.u64.max (W j:Int)=((if false=true then W j else 18446744073709551615-W j:Nat):Int)):=YI _ hl;go_wp2;go_quiet ((first | (go_at_call 209;refine(F8 (a7.drewN _) _ j hj).mono ?_;rintro e w'' ⟨rfl,rfl⟩;exact⟨rfl,_,rfl⟩) | (go_at_call 210;refine(WB _ p (by simp;omega) hp HT.out ((k:Int)-(cnt (side f false) (64*j):Int)) (by rw[HP.out];omega) _ HX.out _).mono ?_;rintro e w'' ⟨rfl,rfl⟩;exact⟨rfl,_,rfl⟩)))
  go_wp2;go_ret;exact IJ hb _ k j p hkk hp HT.out HP.out h4 (below_drewN (below_drewN (nX w _ _ _) _) _) _ rfl
 ·have HX:Hid ((W j:Int)=((if true=true then W j else 18446744073709551615-W j:Nat):Int)):=(by simp:_=_);go_wp2;go_quiet ((first | (go_at_call 209;refine(F8 (a7.drewN _) _ j hj).mono ?_;rintro e w'' ⟨rfl,rfl⟩;exact⟨rfl,_,rfl⟩) | (go_at_call 210;refine(WB _ p (by simp;omega) hp HT.out ((k:Int)-(cnt (side f true) (64*j):Int)) (by rw[HP.out];omega) _ HX.out _).mono ?_;rintro e w'' ⟨rfl,rfl⟩;exact⟨rfl,_,rfl⟩)))
  go_wp2;go_ret;exact IJ hb _ k j p hkk hp HT.out HP.out h4 (below_drewN (below_drewN (nX w _ _ _) _) _) _ rfl
theorem K7(hb:aT w b bw ba f n W)(k:Nat)(h:k<cnt f n):
 Calls Tryz.prog 161 #[.pointer (some ⟨b,0,none⟩),.int .i64 (k:Int)] w fun e w'=>∃ s:Nat,e = .returned (.tuple #[.int .i64 (s:Int),.int .i64 0])/\s<n/\f s=true/\cnt f s=k/\Below w.heap.size w w':=by
 have h0:=hb.ones;have hd:¬(k:Int)<0:=by omega
 have hn:=hb.hn;have hcl:=dX f n;have hf:=zU hb true k (by rw[lS];exact h) (k:Int) rfl;rw[lS]at hf;have HF:Hid (Calls Tryz.prog 190 _ _ _):=hf;clear hf;go_enter Tryz.func161,Tryz.ntmps161
 go_wp2_with fail
 refine HF.out.mono ?_;rintro e w' ⟨s,rfl,hs⟩;go_wp2;go_ret2;exact⟨s,rfl,hs⟩
end Go.Proofs.YtphjbbbnbmafnaaGreatDoor
namespace Go.Proofs.YtphjbbbnbmafnaaGreatDoor
open Go.RowKit
variable {f:Nat->Bool} {L j k:Nat} {xs:List Value} {W:Nat->Nat} {w:World} {s:ByteArray}
theorem Tryz.info133:(Tryz.prog.info? 133).map (fun i=>(i.zero,i.size,i.bytes))=some (some (.int .u64 0),1,8):=by kernel_rfl
theorem Tryz.info233:(Tryz.prog.info? 233).map (fun i=>(i.zero,i.size,i.bytes))=some (some (.int .u32 0),1,4):=by kernel_rfl
def Told(f:Nat->Bool)(L k:Nat)(xs:List Value):Prop:=xs.length=L/\∀ j,j<k->xs[j]?=some (.int .u32 (cnt f (64*j):Int))
theorem P7(h:Told f L k xs)(hk:k<L):Told f L (k+1) (xs.set k (.int .u32 (cnt f (64*k):Int))):=by
 obtain⟨h1,h2⟩:=h;refine⟨by simpa using h1,fun j hj => ?_⟩;by_cases e:j=k
 ·subst e;simp[h1,hk]
 ·rw[aF4 (by omega)];exact h2 j (by omega)
theorem ZB(h:Told f L k xs)(hj:j<L):∃ v,xs[j]?=some v:=⟨xs[j]'(by rw[h.1];exact hj),by simp[h.1,hj]⟩
theorem QV(hwbit:∀ j i,i<64->(W j).testBit i=f (64*j+i))(k:Nat):((cnt f (64*(k+1)):Nat):Int)=(cnt f (64*k):Int)+(pop (W k):Int):=by
 rw[show 64*(k+1)=64*k+64 from by omega,dU,fT (g:=(W k).testBit) (fun t ht=>(hwbit k t ht).symm)];simp[pop]
theorem OC{wr:World}{g n:Nat}(hn:n<=100000)(a1:Below w.heap.size w wr)(a2:∀ j,j<n / 64+1->w.cell? ⟨g,j,none⟩=some (.int .u64 (W j:Int)))
 (hcnt:∀ j,j<n / 64+1->wr.cell? ⟨w.heap.size,j,none⟩=some (.int .u32 (cnt f (64*j):Int)))
 (hwlt:∀ j,W j<18446744073709551616) (hwbit:∀ j i,i<64->(W j).testBit i=f (64*j+i)) (hout:∀ i,n<=i->f i=false) :
 aT (wr.alloc (.cells #[.int .i64 (n:Int),.int .i64 (cnt f (64*(n / 64+1)):Int),.slice (some ⟨g,0,none⟩) (n / 64+1) (n / 64+1),.slice (some ⟨w.heap.size,0,none⟩) (n / 64+1) (n / 64+1)] 278)) wr.heap.size g w.heap.size f n W:=by
 have a8:∀ o,Below wr.heap.size wr (wr.alloc o):=fun o=>(YQ _ _).alloc (V7 _) o;have e:cnt f (64*(n / 64+1))=cnt f n:=by
  rw[show 64*(n / 64+1)=n+(64*(n / 64+1)-n)from by omega,dU,CP (n:=64*(n / 64+1)-n) (fun i _=>hout _ (by omega))];omega
 refine⟨hn,by simp,?_,by simp,by simp,fun j hj=>cell_kept (a8 _) _ _ (cell_kept a1 _ _ (a2 j hj)),fun j hj=>cell_kept (a8 _) _ _ (hcnt j hj),hwlt,hwbit,hout⟩;rw[<-e];simp
theorem QD(g n:Nat)(f:Nat->Bool)(W:Nat->Nat)(hn:n<=100000)(a2:∀ j,j<n / 64+1->w.cell? ⟨g,j,none⟩=some (.int .u64 (W j:Int)))
 (hwlt:∀ j,W j<18446744073709551616) (hwbit:∀ j i,i<64->(W j).testBit i=f (64*j+i)) (hout:∀ i,n<=i->f i=false) :
 Calls Tryz.prog 151 #[.slice (some ⟨g,0,none⟩) (n / 64+1) (n / 64+1),.int .i64 (n:Int)] w fun e w'=>∃ b ba,e = .returned (.pointer (some ⟨b,0,none⟩))/\aT w' b g ba f n W/\Below w.heap.size w w':=by
 obtain⟨i0,hi,aL,b0,b1⟩:=info_parts Tryz.info233;have HW:Hid _:=hwlt;have HB:Hid _:=hwbit;have HO:Hid _:=hout;have HC:Hid _:=a2;clear hwlt hwbit hout a2;go_enter Tryz.func151,Tryz.ntmps151
 go_wp2_with (at_make;refine wpList_make_full _ rfl _ _ 276 rfl w.heap.size 233 i0 (.int .u32 0) 1 Tryz.underlying276 hi aL b0 _ _ _ _ (n / 64+1) rfl rfl (by omega) (by omega) (by rw[b1];omega) (by unfold maxLen;omega) (V7 _) ?_;intro w1 a0 hgrow)
 have a3:Told f (n / 64+1) 0 (madeCells (Value.int IntKind.u32 0).cells ((n / 64+1)*1)).toList:=⟨by simp[size_madeCells],fun j hj=>absurd hj (Nat.not_lt_zero _)⟩;have a7:Below w.heap.size w w1:=(YQ _ _).grown hgrow (V7 _) (fun k hk=>by cases hk);generalize (madeCells (Value.int IntKind.u32 0).cells ((n / 64+1)*1)).toList=xs0 at a0 a3;clear hgrow;go_loopw [6,14] (fun s c wr=>∃(k:Nat) (xs:List Value),k<=n / 64+1/\c = .int .i64 k/\s = .int .i64 (cnt f (64*k):Int)/\wr.ownsRow w.heap.size 233 1 (.slice (some ⟨w.heap.size,0,none⟩) (n / 64+1) (n / 64+1)) (n / 64+1) xs/\Told f (n / 64+1) k xs/\Below w.heap.size w wr) (fun _ c _=>n / 64+1-(intOf c).toNat)
 case atStart=>exact⟨0,xs0,aC6 _,rfl,rfl,a0,a3,a7⟩
 case round =>
  clear a0 a3 a7;obtain⟨k,xs,hk,rfl,rfl,a0,a5,a1⟩:=hrel;have hcl:=dX f (64*k);by_cases hlt:k<n / 64+1
  ·have hw:=cell_kept a1 _ _ (HC.out k hlt);obtain⟨v,hv⟩:=ZB a5 hlt;have hold:=(a0.cellAt k (by omega)).trans hv;have hfr:=a0.frozenAt k;have hl:=HW.out k;have hpl:=W9 (W k);have hk1:(k:Int)<((n / 64+1:Nat):Int):=by omega
   have hk2:(k:Int)<(n:Int) / 64+1:=by omega
   have a4:=a0.stored k (.int .u32 (cnt f (64*k):Int));have hb2:=a1.setCell (p:=⟨w.heap.size,k,none⟩) (V7 _) (.int .u32 (cnt f (64*k):Int));have ht2:=P7 a5 hlt;have HS:Hid _:=a4;have HB2:Hid _:=hb2;have HT2:Hid _:=ht2;clear a4 hb2 ht2 a5 a0 a1 hv;go_wp2_with (go_at_call 186;refine(G7 _ hl _).mono ?_;rintro e w' ⟨rfl,rfl⟩)
   go_roundw;case rel=>exact⟨k+1,_,by omega,by go_num,by rw[QV HB.out k],HS.out.1,HT2.out,HB2.out⟩
   case measure=>simp[intOf];omega
  ·obtain rfl:k=n / 64+1:=by omega
   go_wp2;go_ret;exact⟨wr.heap.size,w.heap.size,rfl,OC hn a1 HC.out (fun j hj=>(a0.cellAt j (by omega)).trans (a5.2 j hj)) HW.out HB.out HO.out,a1.alloc a1.size _⟩
def iI(s:ByteArray)(i:Nat):Bool:=s.data.toList[i]? == some 49
def aA2(s:ByteArray)(k:Nat):Prop:=∀ i,i<k->s.data.toList[i]?=some 48\/s.data.toList[i]?=some 49
def okB(s:ByteArray):Bool:=decide (s.size<=100000)&&s.data.toList.all (fun c=>c == 48||c == 49)
theorem aA5(s:ByteArray)(k:Nat)(h:k<s.size):s.data.toList[k]?=some s[k]:=by
 rw[aK5,aE2 h];rfl
theorem PQ(c d:UInt8)(h:((c.toNat:Int) == (d.toNat:Int))=true):c=d:=by
 have h1:(c.toNat:Int)=(d.toNat:Int):=eq_of_beq h;exact UInt8.toNat_inj.1 (by omega)
theorem JL(c d:UInt8)(h:((c.toNat:Int) == (d.toNat:Int))=false):c≠d:=by
 intro e;subst e;simp at h
theorem CE(h:aA2 s k)(hk:s.data.toList[k]?=some 48\/s.data.toList[k]?=some 49):aA2 s (k+1):=fun i hi=>by
 by_cases e:i=k
 ·subst e;exact hk
 ·exact h i (by omega)
theorem aAb(hs:s.size<=100000)(h:aA2 s s.size):okB s=true:=by
 unfold okB;rw[aD6];refine⟨by simpa using hs,?_⟩;rw[List.all_eq_true];intro c hc;obtain⟨i,hi,rfl⟩:=List.getElem_of_mem hc;have:=h i (by simpa using hi);rw[A7 hi]at this;simpa using this
theorem ZY(h:k<s.size)(h0:s[k]≠48)(h1:s[k]≠49):okB s=false:=by
 unfold okB;rw[aK4];right;rw[List.all_eq_false];refine⟨s[k],?_,by simp[h0,h1]⟩;exact aC3 (aA5 s k h)
def bY(f:Nat->Bool)(j:Nat):Nat->Nat
 | 0=>0
 | m+1=>2 ^ m*(f (64*j+m)).toNat+bY f j m
theorem BZ(f:Nat->Bool)(j m:Nat):bY f j m<2 ^ m:=by
 induction m with
 | zero=>simp[bY]
 | succ m ih =>
  have:=Bool.toNat_le (f (64*j+m));have h2:2 ^ m*(f (64*j+m)).toNat<=2 ^ m*1:=Nat.mul_le_mul_left _ this;rw[Nat.pow_succ];unfold bY;omega
theorem gG(f:Nat->Bool)(j m i:Nat):(bY f j m).testBit i=(decide (i<m)&&f (64*j+i)):=by
 induction m with
 | zero=>simp[bY]
 | succ m ih =>
  unfold bY;rw[Nat.testBit_two_pow_mul_add _ (BZ f j m)];by_cases e:i<m
  ·rw[if_pos e,ih];simp[e,Nat.lt_succ_of_lt e]
  ·rw[if_neg e];by_cases e2:i=m
   ·subst e2;cases f (64*j+i) <;> simp
   ·have:¬ i<m+1:=by omega
    have h1:Nat.testBit 1 (i-m)=false:=by rw[show 1=2 ^ 0 from rfl,Nat.testBit_two_pow];simp;omega
    cases f (64*j+m) <;> simp[this,h1]
theorem pK(f:Nat->Bool)(j:Nat):bY f j 64<18446744073709551616:=BZ f j 64
def upto(f:Nat->Bool)(k i:Nat):Bool:=f i&&decide (i<k)
def Words(f:Nat->Bool)(L k:Nat)(xs:List Value):Prop:=xs.length=L/\∀ j,j<L->xs[j]?=some (.int .u64 (bY (upto f k) j 64:Int))
theorem jL{g:Nat->Bool}(h:∀ i,i<64->f (64*j+i)=g (64*j+i)):bY f j 64=bY g j 64 :=
 Nat.eq_of_testBit_eq fun i=>by
  rw[gG,gG];by_cases e:i<64
  ·rw[h i e]
  ·simp[e]
theorem nT(f:Nat->Bool)(L:Nat):Words f L 0 (madeCells (Value.int IntKind.u64 0).cells (L*1)).toList:=by
 refine⟨by simp[size_madeCells],fun j hj => ?_⟩;have e:bY (upto f 0) j 64=0:=Nat.eq_of_testBit_eq fun i=>by rw[gG];simp[upto]
 rw[e];show(madeCells #[Value.int IntKind.u64 0] (L*1)).toList[j]?=_;rw[toList_madeCells_one];simp[hj]
theorem qD(h:Words f L k xs)(hf:f k=false):Words f L (k+1) xs:=by
 refine⟨h.1,fun j hj => ?_⟩;rw[h.2 j hj,jL];intro i _;unfold upto;by_cases e:64*j+i=k
 ·rw[e,hf];rfl
 ·have:(64*j+i<k)=(64*j+i<k+1):=propext (by omega);simp only[this]
theorem U0(hf:f k=true):(bY (upto f k) (k / 64) 64 ||| 2 ^ (k % 64))=bY (upto f (k+1)) (k / 64) 64:=by
 refine Nat.eq_of_testBit_eq fun i => ?_;rw[Nat.testBit_or,gG,gG,Nat.testBit_two_pow];unfold upto;by_cases e2:i<64
 ·by_cases e3:k % 64=i
  ·have:64*(k / 64)+i=k:=by omega
   simp[e2,this,hf,e3]
  ·have h2:(64*(k / 64)+i<k)=(64*(k / 64)+i<k+1):=propext (by omega);simp[e2,e3,h2]
 ·have:k % 64≠i:=by omega
  simp[e2,this]
theorem EA(h:Words f L k xs)(hf:f k=true)(u:Int)(hu:u=((bY (upto f k) (k / 64) 64 ||| 2 ^ (k % 64):Nat):Int)):Words f L (k+1) (xs.set (k / 64) (.int .u64 u)):=by
 refine⟨by simpa using h.1,fun j hj => ?_⟩;by_cases e:j=k / 64
 ·subst e;rw[aE5 (by rw[h.1];exact hj),hu,U0 hf]
 ·rw[aF4 (by omega),h.2 j hj,jL];intro i hi;unfold upto;have h2:(64*j+i<k)=(64*j+i<k+1):=propext (by omega);simp only[h2]
theorem WM(x k:Nat)(hx:x<18446744073709551616)(hk:k<64):bits .or .u64 (x:Int) (IntKind.u64.wrap ((2:Int) ^ k))=((x ||| 2 ^ k:Nat):Int):=by
 have h1:2 ^ k<=2 ^ 63:=aL0 (by decide) (by omega);have e:IntKind.u64.wrap ((2:Int) ^ k)=((2 ^ k:Nat):Int):=by
  rw[<-gD,IntKind.wrap_u64];generalize 2 ^ k=m at *;omega
 rw[e,u64_or_nat _ _ hx (by omega)]
end Go.Proofs.YtphjbbbnbmafnaaGreatDoor
namespace Go.Proofs.YtphjbbbnbmafnaaGreatDoor
open Go.RowKit
variable {s:ByteArray} {w wr:World} {k:Nat} {xs:List Value}
def PM(s:ByteArray)(w:World)(e:Ending)(w':World):Prop :=
 Below w.heap.size w w'/\((okB s=false/\e = .returned (.tuple #[.pointer none,.int .i64 2]))\/(okB s=true/\∃ b bw ba W,e = .returned (.tuple #[.pointer (some ⟨b,0,none⟩),.int .i64 0])/\aT w' b bw ba (iI s) s.size W))
def Rel(s:ByteArray)(w:World)(c:Value)(wr:World):Prop:=∃(k:Nat) (xs:List Value),k<=s.size/\c = .int .i64 k/\wr.ownsRow w.heap.size 133 1 (.slice (some ⟨w.heap.size,0,none⟩) (s.size / 64+1) (s.size / 64+1)) (s.size / 64+1) xs/\Below w.heap.size w wr/\Words (iI s) (s.size / 64+1) k xs/\aA2 s k
theorem facts{B:Nat}(hlt:k<s.size)(a0:wr.ownsRow B 133 1 (.slice (some ⟨B,0,none⟩) (s.size / 64+1) (s.size / 64+1)) (s.size / 64+1) xs)(a6:Words (iI s) (s.size / 64+1) k xs):
 ∃ X:Nat,wr.cell? ⟨B,k / 64,none⟩=some (.int .u64 (X:Int))/\wr.frozen? ⟨B,k / 64,none⟩=false/\Hid (X=bY (upto (iI s) k) (k / 64) 64) :=
 ⟨_,(a0.cellAt (k / 64) (by omega)).trans (a6.2 (k / 64) (by omega)),a0.frozenAt (k / 64),(rfl:_=_)⟩
theorem aAk(hlt:k<s.size)(h:((s[k].toNat:Int) == 48)=true):s.data.toList[k]?=some 48/\iI s k=false:=by
 have e:=PQ s[k] 48 h;have a:=aA5 s k hlt;rw[e]at a;exact⟨a,by unfold iI;rw[a];decide⟩
theorem aAf(hlt:k<s.size)(h:((s[k].toNat:Int) == 49)=true):s.data.toList[k]?=some 49/\iI s k=true:=by
 have e:=PQ s[k] 49 h;have a:=aA5 s k hlt;rw[e]at a;exact⟨a,by unfold iI;rw[a];decide⟩
theorem PS(i:Nat)(h:s.size<=i):iI s i=false:=by
 unfold iI;rw[aC7 (by simpa using h)];rfl
theorem rel_keep(hlt:k<s.size)(h:((s[k].toNat:Int) == 48)=true)(a0:wr.ownsRow w.heap.size 133 1 (.slice (some ⟨w.heap.size,0,none⟩) (s.size / 64+1) (s.size / 64+1)) (s.size / 64+1) xs)
 (a6:Words (iI s) (s.size / 64+1) k xs) (a1:Below w.heap.size w wr) (a9:aA2 s k):Rel s w (.int .i64 ((k:Int)+1)) wr:=by
 obtain⟨a,b⟩:=aAk hlt h;exact⟨k+1,xs,by omega,by go_num,a0,a1,qD a6 b,CE a9 (.inl a)⟩
theorem YB{X:Nat}(hlt:k<s.size)(h:((s[k].toNat:Int) == 49)=true)(a0:wr.ownsRow w.heap.size 133 1 (.slice (some ⟨w.heap.size,0,none⟩) (s.size / 64+1) (s.size / 64+1)) (s.size / 64+1) xs)
 (a6:Words (iI s) (s.size / 64+1) k xs) (a1:Below w.heap.size w wr) (a9:aA2 s k) (hX:X=bY (upto (iI s) k) (k / 64) 64) :
 Rel s w (.int .i64 ((k:Int)+1)) (wr.setCell { block:=w.heap.size,off:=k / 64 } (Value.int IntKind.u64 (bits BinOp.or IntKind.u64 (X:Int) (IntKind.u64.wrap (2 ^ (k % 64)))))).drew:=by
 obtain⟨a,b⟩:=aAf hlt h;have hx:X<18446744073709551616:=by rw[hX];exact pK _ _
 have hu:=WM X (k % 64) hx (by omega);have aE:=(a0.stored (k / 64) (.int .u64 (bits BinOp.or IntKind.u64 (X:Int) (IntKind.u64.wrap (2 ^ (k % 64)))))).1;have hws:=EA a6 b (bits BinOp.or IntKind.u64 (X:Int) (IntKind.u64.wrap (2 ^ (k % 64)))) (by rw[hu,<-hX]);exact⟨k+1,_,by omega,by go_num,aE.drew,(a1.setCell (V7 _) _).drew,hws,CE a9 (.inr a)⟩
theorem XH(hs:s.size<=100000)(a0:wr.ownsRow w.heap.size 133 1 (.slice (some ⟨w.heap.size,0,none⟩) (s.size / 64+1) (s.size / 64+1)) (s.size / 64+1) xs)(a6:Words (iI s) (s.size / 64+1) s.size xs):
 Calls Tryz.prog 151 #[.slice (some ⟨w.heap.size,0,none⟩) (s.size / 64+1) (s.size / 64+1),.int .i64 (s.size:Int)] wr fun e w'=>∃ b ba,e = .returned (.pointer (some ⟨b,0,none⟩))/\aT w' b w.heap.size ba (iI s) s.size (fun j=>bY (iI s) j 64)/\Below wr.heap.size wr w':=by
 refine QD w.heap.size s.size (iI s) (fun j=>bY (iI s) j 64) hs ?_ (fun j=>pK _ _) ?_ PS
 ·intro j hj;rw[a0.cellAt j (by omega),a6.2 j hj];have e:bY (upto (iI s) s.size) j 64=bY (iI s) j 64:=jL fun i _=>by
   unfold upto;by_cases e:64*j+i<s.size
   ·simp[e]
   ·rw[PS _ (by omega)];rfl
  rw[e]
 ·intro j i hi;show(bY (iI s) j 64).testBit i=_;rw[gG];simp[hi]
theorem ZG(s:ByteArray)(w:World)(hs:s.size<=100000):Calls Tryz.prog 101 #[.string s] w (PM s w):=by
 obtain⟨i0,hi,aL,b0,b1⟩:=info_parts Tryz.info133;go_enter Tryz.func101,Tryz.ntmps101
 go_wp2_with (at_make;refine wpList_make_full _ rfl _ _ 242 rfl w.heap.size 133 i0 (.int .u64 0) 1 Tryz.underlying242 hi aL b0 _ _ _ _ (s.size / 64+1) rfl rfl (by omega) (by omega) (by rw[b1];omega) (by unfold maxLen;omega) (V7 _) ?_;intro w1 a0 hgrow)
 have a7:Below w.heap.size w w1:=(YQ _ _).grown hgrow (V7 _) (fun k hk=>by cases hk);have aE:=nT (iI s) (s.size / 64+1);generalize (madeCells (Value.int IntKind.u64 0).cells ((s.size / 64+1)*1)).toList=xs0 at a0 aE;clear hgrow;go_loopw [16] (fun c wr=>Rel s w c wr) (fun c _=>s.size-(intOf c).toNat)
 case atStart=>exact⟨0,xs0,aC6 _,rfl,a0,a7,aE,fun i hi=>absurd hi (Nat.not_lt_zero _)⟩
 case round =>
  clear a0 aE a7;obtain⟨k,xs,hk,rfl,a0,a1,a6,a9⟩:=hrel;have HO:Hid _:=a0;have HW:Hid _:=a6;have HK:Hid _:=a9;have HB:Hid _:=a1;by_cases hlt:k<s.size
  ·obtain⟨X,a2,hfr,HX⟩:=facts hlt a0 a6;clear a0 a6 a9 a1;have hk1:(k:Int) / 64<((s.size / 64+1:Nat):Int):=by omega
   have hk2:(k:Int) / 64<(s.size:Int) / 64+1:=by omega
   go_wp2
   ·go_roundw;case rel=>exact rel_keep hlt (by assumption) HO.out HW.out HB.out HK.out
    case measure=>simp[intOf];omega
   ·go_region;go_wp2;go_roundw;case rel=>exact YB hlt (by assumption) HO.out HW.out HB.out HK.out HX.out
    case measure=>simp[intOf];omega
   ·go_ret2;exact⟨HB.out,.inl ⟨ZY hlt (JL _ 48 (by assumption)) (JL _ 49 (by assumption)),rfl⟩⟩
  ·obtain rfl:k=s.size:=by omega
   clear a0 a6 a9 a1;go_wp2_with (go_at_call 151;refine(XH hs HO.out HW.out).mono ?_;rintro e w' ⟨b,ba,rfl,hbits,a8⟩)
   go_ret2;exact⟨HB.out.trans (a8.mono HB.out.size),.inr ⟨aAb hs HK.out,b,_,ba,_,rfl,hbits⟩⟩
end Go.Proofs.YtphjbbbnbmafnaaGreatDoor
namespace Go.Proofs.YtphjbbbnbmafnaaGreatDoor
open Go.RowKit
end Go.Proofs.YtphjbbbnbmafnaaGreatDoor
namespace Go.Proofs.YtphjbbbnbmafnaaGreatDoor.Gm
variable {A B L:List E3} {x:E3} {i k:Nat}
def push(L:List E3)(x:E3):List E3:=if L.getLast?=some x then L else L++[x]
theorem mX(L:List E3)(x y:E3):y∈push L x↔y∈L\/y=x:=by
 unfold push;split
 ·rename_i h;have hx:x∈L:=List.mem_of_getLast? h;constructor
  ·exact .inl
  ·intro h;rcases h with h | h
   ·exact h
   ·rw[h];exact hx
 ·simp
theorem tK(hL:fO L)(hx:∀ z∈L,ltE x z=false):fO (push L x):=by
 unfold push;split
 ·exact hL
 ·rename_i hne;refine aJ6.2 ⟨hL,List.pairwise_singleton _ _,fun a ha b hb => ?_⟩;have hb':b=x:=by simpa using hb
  subst hb';have h1:=hx a ha;cases hc:ltE a b with
  | true=>rfl
  | false =>
   exfalso;have e:=OI a b hc h1;subst e;apply hne;cases hl:L.getLast? with
   | none =>
    rw[List.getLast?_eq_none_iff]at hl;rw[hl]at ha;cases ha
   | some z =>
    obtain⟨ini,rfl⟩:∃ ini,L=ini++[z]:=List.getLast?_eq_some_iff.1 hl;rcases aC9.1 ha with h | h
    ·have h2:=(aJ6.1 hL).2.2 a h z (by simp);have h3:=hx z (by simp);rw[h3]at h2;cases h2
    ·have:a=z:=by simpa using h
     rw[this]
theorem JX(L:List E3)(x:E3):(push L x).length<=L.length+1:=by
 unfold push;split
 ·omega
 ·simp
structure MInv (A B:List E3) (i k:Nat) (L:List E3):Prop where
 strict:fO L
 mem:∀ x,x∈L↔x∈A.take i\/x∈B.take k
 a:∀ x∈L,∀ y∈A.drop i,ltE y x=false
 b:∀ x∈L,∀ y∈B.drop k,ltE y x=false
 len:L.length<=i+k
theorem MInv.start(A B:List E3):MInv A B 0 0 []:=⟨List.Pairwise.nil,fun x=>by simp,(fun x h=>by cases h),(fun x h=>by cases h),aC6 _⟩
theorem jD(h:A[i]?=some x):A.drop i=x::A.drop (i+1):=by
 obtain⟨hi,rfl⟩:=aC4.1 h;exact aG0 hi
theorem xC(h:A[i]?=some x):A.take (i+1)=A.take i++[x]:=by rw[aE0,h];rfl
theorem bP(hA:fO A)(h:A[i]?=some x):∀ y∈A.drop (i+1),ltE x y=true:=by
 have h2:fO (A.drop i):=List.Pairwise.sublist (List.drop_sublist i A) hA;rw[jD h]at h2;exact(aI2.1 h2).1
theorem yH{a b:E3}(h:ltE a b=true):ltE b a=false:=by
 cases hc:ltE b a with
 | false=>rfl
 | true=>have:=iD _ _ _ h hc;rw[iW]at this;cases this
theorem MInv.left(h:MInv A B i k L)(hA:fO A)(hB:fO B)(hx:A[i]?=some x)(hk:B.length<=k\/∃ y,B[k]?=some y/\ltE x y=true):MInv A B (i+1) k (push L x):=by
 have aG:x∈A.drop i:=by rw[jD hx];exact List.mem_cons_self ..
 refine⟨tK h.strict (fun z hz=>h.a z hz x aG),fun y => ?_,fun z hz y hy => ?_,fun z hz y hy => ?_,by have:=JX L x;have:=h.len;omega⟩
 ·rw[mX,h.mem,xC hx];simp only[aC9,aF8];constructor
  ·rintro((h | h) | h)
   ·exact .inl (.inl h)
   ·exact .inr h
   ·exact .inl (.inr h)
  ·rintro((h | h) | h)
   ·exact .inl (.inl h)
   ·exact .inr h
   ·exact .inl (.inr h)
 ·rcases(mX L x z).1 hz with h1 | h1
  ·exact h.a z h1 y (by rw[jD hx];exact List.mem_cons_of_mem _ hy)
  ·rw[h1];exact yH (bP hA hx y hy)
 ·rcases(mX L x z).1 hz with h1 | h1
  ·exact h.b z h1 y hy
  ·rw[h1];rcases hk with hk | ⟨b,hb,hlt⟩
   ·rw[aH0 hk]at hy;cases hy
   ·rw[jD hb]at hy;rcases aF5.1 hy with e | hy2
    ·rw[e];exact yH hlt
    ·exact yH (iD _ _ _ hlt (bP hB hb y hy2))
theorem MInv.right(h:MInv A B i k L)(hA:fO A)(hB:fO B)(hx:B[k]?=some x)(hi:A.length<=i\/∃ y,A[i]?=some y/\ltE y x=false):MInv A B i (k+1) (push L x):=by
 have aG:x∈B.drop k:=by rw[jD hx];exact List.mem_cons_self ..
 refine⟨tK h.strict (fun z hz=>h.b z hz x aG),fun y => ?_,fun z hz y hy => ?_,fun z hz y hy => ?_,by have:=JX L x;have:=h.len;omega⟩
 ·rw[mX,h.mem,xC hx];simp only[aC9,aF8];constructor
  ·rintro((h | h) | h)
   ·exact .inl h
   ·exact .inr (.inl h)
   ·exact .inr (.inr h)
  ·rintro(h | h | h)
   ·exact .inl (.inl h)
   ·exact .inl (.inr h)
   ·exact .inr h
 ·rcases(mX L x z).1 hz with h1 | h1
  ·exact h.a z h1 y hy
  ·rw[h1];rcases hi with hi | ⟨b,hb,hlt⟩
   ·rw[aH0 hi]at hy;cases hy
   ·rw[jD hb]at hy;rcases aF5.1 hy with e | hy2
    ·rw[e];exact hlt
    ·cases hc:ltE y x with
     | false=>rfl
     | true =>
      have:=iD _ _ _ (bP hA hb y hy2) hc;rw[hlt]at this;cases this
 ·rcases(mX L x z).1 hz with h1 | h1
  ·exact h.b z h1 y (by rw[jD hx];exact List.mem_cons_of_mem _ hy)
  ·rw[h1];exact yH (bP hB hx y hy)
theorem MInv.all{l:List E3}(h:MInv A B A.length B.length L)(hm:∀ x,x∈l↔x∈A\/x∈B):L=TM l :=
 JA l L h.strict (fun x=>by rw[h.mem,aE3,aE3,hm])
theorem Z7(l:List E3)(h:l.length<2):TM l=l:=by
 match l,h with
 | [],_=>exact BU [] List.Pairwise.nil
 | [a],_=>exact BU [a] (List.pairwise_singleton _ _)
end Go.Proofs.YtphjbbbnbmafnaaGreatDoor.Gm
