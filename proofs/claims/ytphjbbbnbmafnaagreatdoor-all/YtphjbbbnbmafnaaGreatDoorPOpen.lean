/- Parts: StabO StabS NewG POpen. -/
import Derived.Test.YtphjbbbnbmafnaaGreatDoorSym3
import Derived.Test.YtphjbbbnbmafnaaGreatDoorExt
import Derived.Test.YtphjbbbnbmafnaaGreatDoorInOrd
import Derived.Test.YtphjbbbnbmafnaaGreatDoorDec
import Derived.Test.YtphjbbbnbmafnaaGreatDoorBld
import Derived.Test.YtphjbbbnbmafnaaGreatDoorOrdM
import Derived.Test.YtphjbbbnbmafnaaGreatDoorPText
import Derived.Test.YtphjbbbnbmafnaaGreatDoorNumsOf8
import Derived.Test.YtphjbbbnbmafnaaGreatDoorNumsOf16
import Derived.Test.YtphjbbbnbmafnaaGreatDoorPRead
set_option maxHeartbeats 16000000
set_option maxRecDepth 100000
namespace Go.Proofs.YtphjbbbnbmafnaaGreatDoor.G
open Go.RowKit
variable {D1 L M:List E3} {a b k:Nat}
theorem zM:∀(n:Nat) (X A B Y:List E3) (a m b N g cap:Nat) (w:World),A.length+B.length<=n->N<=1000000->SymP X A B Y a m b N g cap w->aAj X A B Y a m b N g cap w
 | 0,X,A,B,Y,a,m,b,N,g,cap,w,hn,_,h=>by
  exact absurd (aD8 (by omega:A.length=0)) h.2.2.2.2.2.2.2.2.1
 | n+1,X,A,B,Y,a,m,b,N,g,cap,w,hn,hl,h=>by
  have hA0:=List.length_pos_iff.2 h.2.2.2.2.2.2.2.2.1;have cX:=List.length_pos_iff.2 h.2.2.2.2.2.2.2.2.2;by_cases h1:A.length=1
  ·obtain⟨x,rfl⟩:=List.length_eq_one_iff.1 h1;obtain⟨hR,ha,hm,hb,hN,hSA,hSB,cD,_,_⟩:=h;exact TA X B Y x a m b N g cap w hR ha (by simpa using hm) hb hN hl hSB (fun y hy=>cD x (by simp) y hy)
  ·by_cases h2:B.length=1
   ·obtain⟨y,rfl⟩:=List.length_eq_one_iff.1 h2;obtain⟨hR,ha,hm,hb,hN,hSA,hSB,cD,_,_⟩:=h;exact TH X A Y y a m b N g cap w hR ha hm (by omega) (by simpa using hb) hN hl hSA (fun z hz=>cD z hz y (by simp))
   ·exact V3 X A B Y a m b N g cap w h (by omega) (by omega) hl (fun X' A' B' Y' a' m' b' w' hlt hp=>zM n X' A' B' Y' a' m' b' N g cap w' (by omega) hl hp)
theorem GZ(L:List E3)(a k:Nat):L.take (a+k)=L.take a++(L.drop a).take k:=List.take_add
theorem yO(L:List E3)(a k:Nat):(L.drop a).drop k=L.drop (a+k):=by rw[List.drop_drop]
theorem bP(h:Gm.fO L)(a:Nat):Gm.fO (L.drop a):=List.Pairwise.sublist (List.drop_sublist _ _) h
theorem yB{D':List E3}{t:Nat}(hB:Gm.uI k (L.take a) D1)(ht:a=k*t)(hb:b=a+k)(hbN:a<=L.length)(hs:Gm.S2 D')(hp:D'.Perm ((L.drop a).take k)):Gm.uI k (L.take b) (D1++D'):=by
 have hl:(L.take a).length=k*t:=by rw[aD7,<-ht];exact aI0 hbN
 have hl2:((L.drop a).take k).length<=k:=by rw[aD7];exact Nat.min_le_left _ _
 have h:=Gm.aA1 hB t hl hs hp hl2;rw[hb,GZ];exact h
theorem SA{D2:List E3}(hB:Gm.uI (2*k) (L.take a) D1)(a6:Gm.uI k (L.drop a) D2)(ht:∃ j,a=2*k*j)(hb:b=a+2*k)(b7:a<=L.length)(hs:Gm.S2 M)(hp:M.Perm (D2.take k++(D2.drop k).take k))(hL:Gm.fO L):Gm.uI (2*k) (L.take b) (D1++M)/\Gm.uI k (L.drop b) (D2.drop (2*k)):=by
 obtain⟨j,hj⟩:=ht;have h2:=Gm.Z8 a6 (bP hL a);constructor
 ·refine yB hB hj hb b7 hs (hp.trans ?_);rw[Nat.two_mul,GZ];exact h2.2.2.1.append h2.2.2.2.1
 ·have h3:=Gm.ZW a6 2;rw[yO,Nat.mul_comm k 2]at h3;rw[hb];exact h3
theorem DN(hB:Gm.uI (2*k) (L.take a) D1)(ht:∃ j,a=2*k*j)(b7:a<=L.length)(hr:L.length<=a+2*k)(hs:Gm.S2 M)(hp:M.Perm (L.drop a)):Gm.uI (2*k) L (D1++M):=by
 obtain⟨j,hj⟩:=ht;have h:=yB hB hj rfl b7 hs (hp.trans (by rw[aD2 (by rw[aE1];omega)]));rw[aD2 (by omega)]at h;exact h
theorem KP(L:List E3)(N g cap:Nat)(w:World)(h:aR w g cap L)(hL:Gm.fO L)(hN:L.length=N)(hl:N<=1000000):
 Calls Tryz.prog 187 #[.slice (some ⟨g,0,none⟩) N cap,.int .i64 (N:Int),.func (.func 106) #[] #[]] w fun e w'=>e = .returned (.tuple #[])/\(∃ R,aR w' g cap R/\R.Perm L/\Gm.S2 R)/\w.grownBy w' (some g):=by
 have H0:Hid _:=h;have HS:Hid _:=hL;have HN:Hid _:=hN;clear h hL hN;go_enter Tryz.func187,Tryz.ntmps187
 go_wp2;go_loopw [7,8] (fun sa sb wr=>∃ a b:Nat,sa = .int .i64 (a:Int)/\sb = .int .i64 (b:Int)/\a<=N/\b<=2000000/\Hid ((∃ t,a=20*t)/\b=a+20/\(∃ D1,aR wr g cap (D1++L.drop a)/\Gm.uI 20 (L.take a) D1)/\w.grownBy wr (some g))) (fun sa _ _=>N-(intOf sa).toNat)
 case atStart=>exact⟨0,20,rfl,rfl,aC6 _,by decide,⟨0,rfl⟩,rfl,⟨[],H0.out,Gm.aA3 20⟩,⟨rfl,rfl,rfl,V7 _,fun _ _ _=>rfl⟩⟩
 case round =>
  obtain⟨a,b,rfl,rfl,b7,c7,HI⟩:=hrel;by_cases hlt:b<=N
  ·obtain⟨⟨t,ht⟩,hb,⟨D1,hR,hB⟩,hG⟩:=HI.out;have cY:D1.length=a:=by rw[hB.1,aD7,HN.out];omega
   have HC:Hid (Calls Tryz.prog 199 _ wr _):=QG D1 ((L.drop a).take 20) (L.drop b) a b N g cap wr (by
    rw[aD3,hb,<-yO,aD5];exact hR) (List.Pairwise.sublist (List.take_sublist _ _) (bP HS.out a)) cY (by rw[aD7,aE1,HN.out];omega) (by rw[aE1,HN.out];omega) hl
   have HB:Hid _:=And.intro hB (And.intro ht (And.intro hb hG));clear hR hB hG HI cY ht hb;go_wp2_with fail
   refine(aC0 HC.out ?_);rintro e w2 ⟨rfl,⟨D',hr,hp,hs⟩,hg⟩;have a9:Hid ((∃ t,b=20*t)/\b+20=b+20/\(∃ D1,aR w2 g cap (D1++L.drop b)/\Gm.uI 20 (L.take b) D1)/\w.grownBy w2 (some g)):=(by
    obtain⟨hB,ht,hb,hG⟩:=HB.out;have cA:=yB hB ht hb (by rw[HN.out];exact b7) hs hp;have ht2:b=20*(t+1):=by rw[hb,ht,Nat.mul_add]
    exact⟨⟨t+1,ht2⟩,rfl,⟨D1++D',hr,cA⟩,hG.trans hg⟩:_/\_)
   have hba:a<b:=by have:=HB.out;omega
   clear hr hp hs hg HB HC;go_wp2;go_roundw;case rel=>exact⟨b,b+20,rfl,by go_num,hlt,by omega,a9.out.1,rfl,a9.out.2.2⟩
   case measure=>simp[intOf];omega
  ·have HC:Hid (∃ D1,Gm.uI 20 (L.take a) D1/\Calls Tryz.prog 199 #[.slice (some ⟨g,0,none⟩) N cap,.int .i64 (a:Int),.int .i64 (N:Int),.func (.func 106) #[] #[]] wr (fun e w'=>e = .returned (.tuple #[])/\(∃ D',aR w' g cap (D1++D'++[])/\D'.Perm (L.drop a)/\Gm.S2 D')/\wr.grownBy w' (some g))):=(by
    obtain⟨⟨t,ht⟩,hb,⟨D1,hR,hB⟩,hG⟩:=HI.out;have cY:D1.length=a:=by rw[hB.1,aD7,HN.out];omega
    exact⟨D1,hB,QG D1 (L.drop a) [] a N N g cap wr (by rw[aE4];exact hR) (bP HS.out a) cY (by rw[aE1,HN.out];omega) (by simp) hl⟩:∃ D1,_)
   have hlI:¬(b:Int)<=(N:Int):=by omega
   obtain⟨D1,b3,hC⟩:=HC.out;have a8:Hid _:=b3;have bX:Hid (Calls Tryz.prog 199 _ wr _):=hC;clear HC b3 hC;go_wp2_with fail
   refine(aC0 bX.out ?_);rintro e w2 ⟨rfl,⟨D',hr,hp,hs⟩,hg⟩;have HK0:Hid ((∃ D,aR w2 g cap D/\Gm.uI 20 L D)/\w.grownBy w2 (some g)):=(by
    obtain⟨⟨t,ht⟩,hb,_,hG⟩:=HI.out;refine⟨⟨D1++D',by simpa using hr,?_⟩,hG.trans hg⟩;have h2:=Gm.aA1 a8.out t (by rw[aD7,HN.out];omega) hs hp (by rw[aE1,HN.out];omega);rw[aD5]at h2;exact h2:_/\_)
   clear hr hp hs hg a8 bX HI;go_wp2;go_loopw [6] (fun sk wr=>∃ k:Nat,sk = .int .i64 (k:Int)/\20<=k/\k<=2000000/\Hid ((∃ D,aR wr g cap D/\Gm.uI k L D)/\w.grownBy wr (some g))) (fun sk _=>2000000-(intOf sk).toNat)
   case atStart=>exact⟨20,rfl,V7 _,by decide,HK0.out⟩
   case round =>
    obtain⟨k,rfl,hk1,hk2,HK⟩:=hrel;by_cases hkN:k<N
    ·obtain⟨⟨D,hR,hB⟩,hG⟩:=HK.out;obtain⟨k2,cR⟩:∃ k2,k2=2*k:=⟨_,rfl⟩;have hk2I:2*(k:Int)=(k2:Int):=by omega
     have HA0:Hid ((∃ j,0=2*k*j)/\k2=0+2*k/\(∃ D1 D2,aR wr g cap (D1++D2)/\Gm.uI (2*k) (L.take 0) D1/\Gm.uI k (L.drop 0) D2)/\w.grownBy wr (some g)):=(⟨⟨0,rfl⟩,by omega,⟨[],D,hR,Gm.aA3 _,hB⟩,hG⟩:_/\_);have hk2b:k2<=2000000:=by omega
     clear hR hB hG HK;have hk2e:40<=k2:=by omega
     have HKK:Hid _:=cR;clear cR;go_wp2;go_loopw [7,8] (fun sa sb wr=>∃ a b:Nat,sa = .int .i64 (a:Int)/\sb = .int .i64 (b:Int)/\a<=N/\b<=4000000/\Hid ((∃ j,a=2*k*j)/\b=a+2*k/\(∃ D1 D2,aR wr g cap (D1++D2)/\Gm.uI (2*k) (L.take a) D1/\Gm.uI k (L.drop a) D2)/\w.grownBy wr (some g))) (fun sa _ _=>N-(intOf sa).toNat)
     case atStart=>exact⟨0,k2,rfl,rfl,aC6 _,by omega,HA0.out⟩
     case round =>
      obtain⟨a,b,rfl,rfl,b7,hb4,HI⟩:=hrel;obtain⟨m,hm⟩:∃ m,m=a+k:=⟨_,rfl⟩;have hmI:(a:Int)+(k:Int)=(m:Int):=by omega
      have d7:Hid _:=hm;clear hm;by_cases hbN:b<=N
      ·have HC:Hid (∃ D1 D2,Gm.uI (2*k) (L.take a) D1/\Gm.uI k (L.drop a) D2/\aAj D1 (D2.take k) ((D2.drop k).take k) (D2.drop (2*k)) a m b N g cap wr):=(by
        obtain⟨ht,hb,⟨D1,D2,hR,hB,a6⟩,hG⟩:=HI.out;have h2:=Gm.Z8 a6 (bP HS.out a);have hmm:=d7.out;have l1:D1.length=a:=by rw[hB.1,aD7,HN.out];omega
        have l2:D2.length=N-a:=by rw[a6.1,aE1,HN.out]
        refine⟨D1,D2,hB,a6,zM _ _ _ _ _ _ _ _ _ _ _ _ (V7 _) hl ⟨?_,l1,?_,?_,?_,h2.1,h2.2.1,h2.2.2.2.2,?_,?_⟩⟩
        ·have e1:=aD5 k D2;have e2:=aD5 k (D2.drop k);rw[yO]at e2;rw[show 2*k=k+k by omega,aD3,aD3,e2,e1];exact hR
        ·rw[aD7,l2];omega
        ·rw[aD7,aE1,l2];omega
        ·rw[aE1,l2];omega
        ·intro e;have:=congrArg List.length e;rw[aD7,l2,aI3]at this;omega
        ·intro e;have:=congrArg List.length e;rw[aD7,aE1,l2,aI3]at this;omega:∃ D1 D2,_)
       obtain⟨D1,D2,hB,a6,hC⟩:=HC.out;have HB:Hid _:=And.intro hB a6;have bX:Hid (Calls Tryz.prog 207 _ wr _):=hC;clear HC hB a6 hC;go_wp2_with fail
       refine(aC0 bX.out ?_);rintro e w2 ⟨rfl,⟨M,hr,hp,hs⟩,hg⟩;have a9:Hid ((∃ j,b=2*k*j)/\(∃ D1 D2,aR w2 g cap (D1++D2)/\Gm.uI (2*k) (L.take b) D1/\Gm.uI k (L.drop b) D2)/\w.grownBy w2 (some g)/\b=a+2*k):=(by
        obtain⟨⟨j,hj⟩,hb,_,hG⟩:=HI.out;have cA:=SA HB.out.1 HB.out.2 ⟨j,hj⟩ hb (by rw[HN.out];exact b7) hs hp HS.out;exact⟨⟨j+1,by rw[hb,hj,Nat.mul_add,Nat.mul_one]⟩,⟨D1++M,D2.drop (2*k),hr,cA.1,cA.2⟩,hG.trans hg,hb⟩:_/\_)
       have hba:a<b:=by have:=a9.out.2.2.2;omega
       have hbk:b+2*k<=4000000:=by omega
       have cS:k2=2*k:=HKK.out;obtain⟨b2,cP⟩:∃ b2,b2=b+k2:=⟨_,rfl⟩;have hbI:(b:Int)+(k2:Int)=(b2:Int):=by omega
       have dT:b2<=4000000:=by omega
       have HK2:Hid (b2=b+2*k):=(by rw[cP,cS]:_=_);clear hr hp hs hg HB bX HI cS cP;go_wp2;go_roundw;case rel=>exact⟨b,b2,rfl,rfl,hbN,dT,a9.out.1,HK2.out,a9.out.2.1,a9.out.2.2.1⟩
       case measure=>simp[intOf];omega
      ·have hbI:¬(b:Int)<=(N:Int):=by omega
       by_cases hmN:m<N
       ·have HC:Hid (∃ D1 D2,Gm.uI (2*k) (L.take a) D1/\Gm.uI k (L.drop a) D2/\(D2.drop k).take k=D2.drop k/\aAj D1 (D2.take k) (D2.drop k) [] a m N N g cap wr):=(by
         obtain⟨ht,hb,⟨D1,D2,hR,hB,a6⟩,hG⟩:=HI.out;have h2:=Gm.Z8 a6 (bP HS.out a);have hmm:=d7.out;have l1:D1.length=a:=by rw[hB.1,aD7,HN.out];omega
         have l2:D2.length=N-a:=by rw[a6.1,aE1,HN.out]
         have e0:(D2.drop k).take k=D2.drop k:=aD2 (by rw[aE1,l2];omega);rw[e0]at h2;refine⟨D1,D2,hB,a6,e0,zM _ _ _ _ _ _ _ _ _ _ _ _ (V7 _) hl ⟨?_,l1,?_,?_,?_,h2.1,h2.2.1,h2.2.2.2.2,?_,?_⟩⟩
         ·rw[aE4,aD3,aD5];exact hR
         ·rw[aD7,l2];omega
         ·rw[aE1,l2];omega
         ·simp
         ·intro e;have:=congrArg List.length e;rw[aD7,l2,aI3]at this;omega
         ·intro e;have:=congrArg List.length e;rw[aE1,l2,aI3]at this;omega:∃ D1 D2,_)
        obtain⟨D1,D2,hB,a6,b9,hC⟩:=HC.out;have HB:Hid _:=And.intro hB (And.intro a6 b9);have bX:Hid (Calls Tryz.prog 207 _ wr _):=hC;clear HC hB a6 hC b9;go_wp2_with fail
        refine(aC0 bX.out ?_);rintro e w2 ⟨rfl,⟨M,hr,hp,hs⟩,hg⟩;have a9:Hid ((∃ D,aR w2 g cap D/\Gm.uI (2*k) L D)/\w.grownBy w2 (some g)):=(by
         obtain⟨ht,hb,_,hG⟩:=HI.out;have h2:=Gm.Z8 HB.out.2.1 (bP HS.out a);rw[HB.out.2.2]at h2;have e5:(L.drop a).take k++((L.drop a).drop k).take k=L.drop a:=by
          rw[aD2 (l:=(L.drop a).drop k) (by rw[aE1,aE1,HN.out];omega),aD5]
         have hpp:M.Perm (L.drop a):=hp.trans (by rw[<-e5];exact h2.2.2.1.append h2.2.2.2.1);exact⟨⟨D1++M,by simpa using hr,DN HB.out.1 ht (by rw[HN.out];exact b7) (by rw[HN.out];omega) hs hpp⟩,hG.trans hg⟩:_/\_)
        have hkk:(k:Int)*2=((2*k:Nat):Int):=by omega
        clear hr hp hs hg HB bX HI;go_wp2;go_roundw;case rel=>exact⟨2*k,by go_num,by omega,by omega,a9.out⟩
        case measure=>simp[intOf];omega
       ·have hmNI:¬(m:Int)<(N:Int):=by omega
        have a9:Hid ((∃ D,aR wr g cap D/\Gm.uI (2*k) L D)/\w.grownBy wr (some g)):=(by
         obtain⟨ht,hb,⟨D1,D2,hR,hB,a6⟩,hG⟩:=HI.out;have hmm:=d7.out;have h1:=Gm.Z6 a6 (by rw[aE1,HN.out];omega);exact⟨⟨D1++D2,hR,DN hB ht (by rw[HN.out];exact b7) (by rw[HN.out];omega) h1.1 h1.2⟩,hG⟩:_/\_)
        have hkk:(k:Int)*2=((2*k:Nat):Int):=by omega
        clear HI;go_wp2;go_roundw;case rel=>exact⟨2*k,by go_num,by omega,by omega,a9.out⟩
        case measure=>simp[intOf];omega
    ·have HE:Hid ((∃ R,aR wr g cap R/\R.Perm L/\Gm.S2 R)/\w.grownBy wr (some g)):=(by
      obtain⟨⟨D,hR,hB⟩,hG⟩:=HK.out;have h1:=Gm.Z6 hB (by rw[HN.out];omega);exact⟨⟨D,hR,h1.2,h1.1⟩,hG⟩:_/\_)
     have hkI:¬(k:Int)<(N:Int):=by omega
     clear HK;go_wp2;go_end0;exact⟨rfl,HE.out⟩
end Go.Proofs.YtphjbbbnbmafnaaGreatDoor.G
namespace Go.Proofs.YtphjbbbnbmafnaaGreatDoor.G
open Go.RowKit
theorem YZ(w:World)(cv:Value):Calls Tryz.prog 199 #[.slice none 0 0,.int .i64 0,.int .i64 0,cv] w fun e w'=>e = .returned (.tuple #[])/\w'=w:=by
 go_enter Tryz.func199,Tryz.ntmps199
 go_wp2;go_loopw [8] (fun si wr=>si = .int .i64 1/\wr=w) (fun _ _=>0)
 case atStart=>exact⟨rfl,rfl⟩
 case round =>
  obtain⟨rfl,rfl⟩:=hrel;go_wp2;go_end0;exact⟨rfl,rfl⟩
theorem KG(w:World)(cv:Value):Calls Tryz.prog 187 #[.slice none 0 0,.int .i64 0,cv] w fun e w'=>e = .returned (.tuple #[])/\w'=w:=by
 have HC:Hid (Calls Tryz.prog 199 _ w _):=YZ w cv;go_enter Tryz.func187,Tryz.ntmps187
 go_wp2;go_loopw [7,8] (fun sa sb wr=>sa = .int .i64 0/\sb = .int .i64 20/\wr=w) (fun _ _ _=>0)
 case atStart=>exact⟨rfl,rfl,rfl⟩
 case round =>
  obtain⟨rfl,rfl,hw⟩:=hrel;rw[hw];clear hw wr;go_wp2_with fail
  refine(aC0 HC.out ?_);rintro e w2 ⟨rfl,hw⟩;rw[hw];clear hw w2;go_wp2;go_loopw [6] (fun sk wr=>sk = .int .i64 20/\wr=w) (fun _ _=>0)
  case atStart=>exact⟨rfl,rfl⟩
  case round =>
   obtain⟨rfl,hw⟩:=hrel;rw[hw];clear hw wr;go_wp2;go_end0;exact⟨rfl,rfl⟩
theorem OA(l:List E3)(base:Nat)(v:Value)(W:World)(hrow:W.ownsRow base 38 3 v l.length (flat l))(hl:l.length<=1000000)(hL:Gm.fO l):
 Calls Tryz.prog 156 #[v,.func (.func 106) #[] #[]] W fun e w'=>e = .returned (.tuple #[])/\(∃ R,R.Perm l/\Gm.S2 R/\w'.ownsRow base 38 3 v R.length (flat R))/\W.grownBy w' v.ownBlock:=by
 rcases hrow.2 with ⟨rfl,h0⟩ | ⟨g,cap,cur,rfl,hbase,hgb,r1,r2,r3,r4⟩
 ·obtain rfl:l=[]:=aD8 h0;have HC:Hid (Calls Tryz.prog 187 _ W _):=KG W (.func (.func 106) #[] #[]);clear hrow;go_enter Tryz.func156,Tryz.ntmps156
  go_wp2_with fail
  refine(aC0 HC.out ?_);rintro e w2 ⟨rfl,hw⟩;rw[hw];clear hw w2;go_wp2;go_end0;exact⟨rfl,⟨[],aK7 _,List.Pairwise.nil,aG2 _ _ _ _⟩,⟨rfl,rfl,rfl,V7 _,fun _ _ _=>rfl⟩⟩
 ·have HC:Hid (Calls Tryz.prog 187 _ W _):=KP l l.length g cap W ⟨cur,hgb,r3,r4⟩ hL rfl hl;clear hrow hgb r3 r4;go_enter Tryz.func156,Tryz.ntmps156
  go_wp2_with fail
  refine(aC0 HC.out ?_);rintro e w2 ⟨rfl,⟨R,⟨cur2,k1,k2,k3⟩,hp,hs⟩,hg⟩;have HE:Hid ((∃ R:List E3,R.Perm l/\Gm.S2 R/\w2.ownsRow base 38 3 (.slice (some ⟨g,0,none⟩) l.length cap) R.length (flat R))/\W.grownBy w2 (some g)):=(by
   have e:=hp.length_eq;refine⟨⟨R,hp,hs,⟨by rw[bM],.inr ⟨g,cap,cur2,by rw[e],hbase,k1,by rw[e];exact r1,r2,k2,k3⟩⟩⟩,hg⟩:_/\_)
  clear k1 k2 k3 hp hs hg;go_wp2;go_end0;exact⟨rfl,HE.out.1,HE.out.2⟩
end Go.Proofs.YtphjbbbnbmafnaaGreatDoor.G
namespace Go.Proofs.YtphjbbbnbmafnaaGreatDoor.G
open Go.RowKit
variable {w w':World} {B b n s:Nat} {L:List E3}
theorem CW(Bs:Nat)(v0:Value)(zs:List E3)(hz:zs.length<=1000000)(hL:Gm.fO zs)(w:World)(hBs:Bs<w.heap.size)(hc:w.cell? ⟨Bs,0,none⟩=some v0)(hI:aI w v0 zs)(cF:∀ a0 len cap,v0 = .slice (some a0) len cap->zs≠[]->a0.block<w.heap.size):
 Calls Tryz.prog 105 #[.func (.func 148) #[] #[.pointer (some ⟨Bs,0,none⟩)],.func (.func 106) #[] #[]] w fun e w'=>∃ v R,e = .returned v/\w'.ownsRow w.heap.size 38 3 v R.length (flat R)/\R.Perm zs/\Gm.S2 R/\Below w.heap.size w w':=by
 have HA:Hid (Calls Tryz.prog 146 _ w _):=uG Bs v0 zs hz w hBs hc hI cF;go_enter Tryz.func105,Tryz.ntmps105
 go_wp2_with fail
 refine(aC0 HA.out ?_);rintro e w1 ⟨v,rfl,hrow,hB⟩;have HS:Hid (Calls Tryz.prog 156 _ w1 _):=OA zs w.heap.size v w1 hrow hz hL;have HB:Hid (∀ k,v.ownBlock=some k->w.heap.size<=k):=(fun k hk=>(hrow.lt k hk).1:∀ k,v.ownBlock=some k->w.heap.size<=k);have HBe:Hid _:=hB;clear hrow hB;go_wp2_with fail
 refine(aC0 HS.out ?_);rintro e w2 ⟨rfl,⟨R,hp,hs,hrow2⟩,b4⟩;go_wp2;go_ret;exact⟨v,R,rfl,hrow2,hp,hs,HBe.out.grown b4 HBe.out.size HB.out⟩
structure aJ (w:World) (b:Nat) (n s:Nat) (L:List E3):Prop where
 ok:okG n s L
 st:Gm.fO L
 sz0:w.cell? ⟨b,0,none⟩=some (.int .i64 (n:Int))
 sz1:w.cell? ⟨b,1,none⟩=some (.int .i64 (s:Int))
 sz2:w.cell? ⟨b,2,none⟩=some (.int .i64 (L.length:Int))
 src:∃ bb bw ba W,w.cell? ⟨b,3,none⟩=some (.pointer (some ⟨bb,0,none⟩))/\aT w bb bw ba (bf (eF L n)) (eF L n).length W
 lab:∃ bl gl,w.cell? ⟨b,4,none⟩=some (.pointer (some ⟨bl,0,none⟩))/\bB 8 w bl gl (aM L)
 tgt:∃ R bt gt,w.cell? ⟨b,5,none⟩=some (.pointer (some ⟨bt,0,none⟩))/\bB 16 w bt gt (tos R)/\R.Perm L/\Gm.S2 R
theorem aJ.kept(h:aJ w b n s L)(hk:∀ p v,w.cell? p=some v->w'.cell? p=some v):aJ w' b n s L:=by
 obtain⟨bb,bw,ba,W,h1,h2⟩:=h.src;obtain⟨bl,gl,h3,h4⟩:=h.lab;obtain⟨R,bt,gt,h5,h6,h7⟩:=h.tgt;exact⟨h.ok,h.st,hk _ _ h.sz0,hk _ _ h.sz1,hk _ _ h.sz2,⟨bb,bw,ba,W,hk _ _ h1,h2.kept hk⟩,⟨bl,gl,hk _ _ h3,h4.kept hk⟩,⟨R,bt,gt,hk _ _ h5,h6.kept hk,h7⟩⟩
theorem aJ.below(h:aJ w b n s L)(hB:Below w.heap.size w w'):aJ w' b n s L:=h.kept (cell_kept hB)
abbrev XE(w w':World):Prop:=∀ p v,w.cell? p=some v->v≠.pointer none->w'.cell? p=some v
theorem zW{q:Addr}(h:w.cell? q=some (.pointer none))(u:Value):XE w (w.setCell q u):=fun p v hp hv=>by
 rw[aI9 w q p u (fun e=>by subst e;rw[h]at hp;cases hp;exact hv rfl)];exact hp
theorem xQ{bw ba:Nat}{f:Nat->Bool}{W:Nat->Nat}(hb:aT w b bw ba f n W)(h:XE w w'):aT w' b bw ba f n W :=
 ⟨hb.hn,h _ _ hb.len (by simp),h _ _ hb.ones (by simp),h _ _ hb.words (by simp),h _ _ hb.ahead (by simp),fun j hj=>h _ _ (hb.word j hj) (by simp),fun j hj=>h _ _ (hb.ahd j hj) (by simp),hb.wlt,hb.wbit,hb.out⟩
theorem PN{g:Nat}{l:List Nat}(hs:bB B w b g l)(h:XE w w'):bB B w' b g l :=
 ⟨hs.hn,hs.lt,h _ _ hs.len (by simp),h _ _ hs.levels (by simp),fun d hd=>by
  obtain⟨bb,bw,ba,W,h1,h2⟩:=hs.level d hd;exact⟨bb,bw,ba,W,h _ _ h1 (by simp),xQ h2 h⟩⟩
theorem R4(l:List Bool):iI (txt l)=bf l:=by
 funext i;unfold iI bf txt;simp only[aC1,aD0];cases l[i]? with
 | none=>rfl
 | some b=>cases b <;> rfl
theorem YK(l:List Bool)(h:l.length<=100000):okB (txt l)=true:=by
 unfold okB;rw[aD6,decide_eq_true_eq,bE];refine⟨h,?_⟩;unfold txt;rw[List.all_eq_true];intro x hx;simp only[List.mem_map]at hx;obtain⟨b,_,rfl⟩:=hx;cases b <;> rfl
theorem aZ(w:World)(xs:Array Value)(t:TypeId)(i:Nat):(w.alloc (.cells xs t)).cell? ⟨w.heap.size,i,none⟩=xs[i]?:=by
 rw[cell_of_row _ _ i _ _ _ (heap_alloc_new w (.cells xs t))]
theorem numE8(e:E3):S8.numE e=e.2.1:=rfl
theorem aAm(e:E3):S16.numE e=e.2.2:=rfl
theorem AB(n s:Nat)(L:List E3)(v:Value)(w:World)(he:aI w v L)(hok:okG n s L)(cA:Gm.fO L):
 Calls Tryz.prog 59 #[.int .i64 (n:Int),.int .i64 (s:Int),v] w fun e w'=>∃ b,e = .returned (.pointer (some ⟨b,0,none⟩))/\aJ w' b n s L/\Below w.heap.size w w':=by
 have HE:Hid _:=he;obtain⟨a0,cap,rfl,hed⟩:=he;have HOk:Hid _:=hok;have HSt:Hid _:=cA;obtain⟨⟨g1,g2,g3,g4,g5⟩,aE⟩:=hok;have h0:=Gm.ah_zero L (fun e h=>(aE e h).1);have cT:=(JI L n (fun e h=>⟨(aE e h).1,(aE e h).2.1⟩)).2;have cF:Hid (∀ b0:Addr,∀ W:World,w.heap.size<=W.heap.size->some b0=a0->L≠[]->b0.block<W.heap.size):=(by
  intro b0 W hW e cG;cases L with
  | nil=>exact absurd rfl cG
  | cons z zs =>
   obtain⟨g,off,e2,c0,_⟩:=hed 0 z rfl;rw[e2]at e;cases e;have:=aE6 _ _ c0;simp at this ⊢;omega:∀ b0:Addr,_)
 have cX:=aA w (.cells #[.int .i64 (n:Int),.int .i64 (s:Int),.int .i64 (L.length:Int),.pointer none,.pointer none,.pointer none] 83);have HS:Hid (Calls Tryz.prog 90 _ (w.alloc (.cells #[.int .i64 (n:Int),.int .i64 (s:Int),.int .i64 (L.length:Int),.pointer none,.pointer none,.pointer none] 83)) _):=sZ n L _ _ (aI.below HE.out cX) (Gm.SY cA) h0 (by omega) (by omega);have HB0:Hid _:=cX;have cJ:Hid _:=cT;have b5:Hid _:=aE;clear cX h0 hed aE cA cT;go_enter Tryz.func59,Tryz.ntmps59
 go_wp2_with fail
 refine(aC0 HS.out ?_);rintro e w1 ⟨rfl,b3⟩;have HNB:Hid (Calls Tryz.prog 101 _ w1 (PM (txt (eF L n)) w1)):=ZG (txt (eF L n)) w1 (by rw[bE,cJ.out];omega);have a8:Hid _:=b3;clear b3 HS;go_wp2_with fail
 refine(aC0 HNB.out ?_);rintro e w2 ⟨a6,⟨hno,_⟩ | ⟨_,bb,bw,ba,W,rfl,hbits⟩⟩
 ·rw[YK _ (by rw[cJ.out];omega)]at hno;cases hno
 rw[R4,bE]at hbits;have c7:Below (w.alloc (.cells #[.int .i64 (n:Int),.int .i64 (s:Int),.int .i64 (L.length:Int),.pointer none,.pointer none,.pointer none] 83)).heap.size (w.alloc (.cells #[.int .i64 (n:Int),.int .i64 (s:Int),.int .i64 (L.length:Int),.pointer none,.pointer none,.pointer none] 83)) w2:=chain a8.out a6;have b4:w2.heap[w.heap.size]?=some (.cells #[.int .i64 (n:Int),.int .i64 (s:Int),.int .i64 (L.length:Int),.pointer none,.pointer none,.pointer none] 83 (0,0)):=(c7.block _ (by simp)).trans (heap_alloc_new _ _);have c3:w2.cell? ⟨w.heap.size,3,none⟩=some (.pointer none):=by rw[cell_of_row w2 _ 3 _ _ _ b4];rfl
 have f3:=frozen_of_row w2 _ 3 _ _ b4;have bW:Hid (Below w.heap.size w (w2.setCell ⟨w.heap.size,3,none⟩ (.pointer (some ⟨bb,0,none⟩)))):=((chain HB0.out c7).setCell (V7 _) _);have d5:Hid ((w2.setCell ⟨w.heap.size,3,none⟩ (.pointer (some ⟨bb,0,none⟩))).heap[w.heap.size]?=some (.cells #[.int .i64 (n:Int),.int .i64 (s:Int),.int .i64 (L.length:Int),.pointer (some ⟨bb,0,none⟩),.pointer none,.pointer none] 83 (0,0))):=(by
  rw[heap_setCell_same w2 _ 3 _ _ _ b4];rfl:_=_)
 have HBi:Hid _:=xQ hbits (zW c3 (.pointer (some ⟨bb,0,none⟩)));have HN8:Hid (Calls Tryz.prog 103 _ _ _):=S8.numsof_any L _ _ (aI.below HE.out bW.out) (by omega) (fun e h=>by have:=b5.out e h;rw[numE8];omega);clear a6 hbits c7 b4 HNB a8 HB0;go_wp2_with fail
 refine(aC0 HN8.out ?_);rintro e w4 ⟨v4,rfl,hnum4,hB4⟩;have HS8:Hid (Calls Tryz.prog 102 _ w4 _):=S8.newseq_any hnum4 (fun x hx=>by
  obtain⟨e,he,rfl⟩:=List.mem_map.1 hx;have:=b5.out e he;omega) (by simp[aM];omega)
 have cB:Hid _:=hB4;clear hB4 HN8 c3 f3;go_wp2_with fail
 refine(aC0 HS8.out ?_);rintro e w5 ⟨bl,gl,rfl,hseq,hB5⟩;have d1:=chain cB.out hB5;have c8:=(d1.block w.heap.size (aC2.1 d5.out).1).trans d5.out;have c4:w5.cell? ⟨w.heap.size,4,none⟩=some (.pointer none):=by rw[cell_of_row w5 _ 4 _ _ _ c8];rfl
 have f4:=frozen_of_row w5 _ 4 _ _ c8;have cC:Hid (Below w.heap.size w (w5.setCell ⟨w.heap.size,4,none⟩ (.pointer (some ⟨bl,0,none⟩)))):=((chain bW.out d1).setCell (V7 _) _);have HG6:Hid ((w5.setCell ⟨w.heap.size,4,none⟩ (.pointer (some ⟨bl,0,none⟩))).heap[w.heap.size]?=some (.cells #[.int .i64 (n:Int),.int .i64 (s:Int),.int .i64 (L.length:Int),.pointer (some ⟨bb,0,none⟩),.pointer (some ⟨bl,0,none⟩),.pointer none] 83 (0,0))):=(by
  rw[heap_setCell_same w5 _ 4 _ _ _ c8];rfl:_=_)
 have d4:Hid _:=xQ (HBi.out.below d1) (zW c4 (.pointer (some ⟨bl,0,none⟩)));have d9:Hid _:=PN hseq (zW c4 (.pointer (some ⟨bl,0,none⟩)));have HV:Hid (Calls Tryz.prog 94 _ (w5.setCell ⟨w.heap.size,4,none⟩ (.pointer (some ⟨bl,0,none⟩))) _):=callsIn_wide.1 (values_in Fence.wide 9 trivial rfl a0 L.length cap _);have d2:=aA (w5.setCell ⟨w.heap.size,4,none⟩ (.pointer (some ⟨bl,0,none⟩))) (.cells #[.slice a0 L.length cap] 24);have hcv:((w5.setCell ⟨w.heap.size,4,none⟩ (.pointer (some ⟨bl,0,none⟩))).alloc (.cells #[.slice a0 L.length cap] 24)).cell? ⟨w5.heap.size,0,none⟩=some (.slice a0 L.length cap):=by
  have h:=aZ (w5.setCell ⟨w.heap.size,4,none⟩ (.pointer (some ⟨bl,0,none⟩))) #[.slice a0 L.length cap] 24 0;rw[World.size_setCell]at h;exact h
 have cN:Hid (Calls Tryz.prog 105 _ ((w5.setCell ⟨w.heap.size,4,none⟩ (.pointer (some ⟨bl,0,none⟩))).alloc (.cells #[.slice a0 L.length cap] 24)) _):=CW w5.heap.size (.slice a0 L.length cap) L (by omega) HSt.out _ (by rw[aD1,World.size_setCell];omega) hcv (aI.below HE.out (chain cC.out d2)) (fun b0 len2 cap2 e cG=>cF.out b0 _ (chain cC.out d2).size (by cases e;rfl) cG);have HBv:Hid _:=d2;clear hB5 d1 c8 HS8 cB HBi d5 bW hseq hnum4 d2 hcv;go_wp2_with fail
 refine(aC0 HV.out ?_);rintro e w7 ⟨rfl,hw7⟩;rw[hw7];clear hw7 w7 HV;go_wp2_with fail
 refine(aC0 cN.out ?_);rintro e w8 ⟨v8,R,rfl,hrow8,hperm,cV,hB8⟩;have hE8:aI w8 v8 R:=kJ hrow8;have hRl:=hperm.length_eq;have cL:Hid (Calls Tryz.prog 108 _ w8 _):=S16.numsof_any R v8 w8 hE8 (by omega) (fun e h=>by have:=b5.out e (hperm.mem_iff.1 h);rw[aAm];omega);have HB8:Hid _:=chain HBv.out hB8;have HP:Hid _:=hperm;have HS2:Hid _:=cV;have HRl:Hid _:=hRl;clear hE8 hrow8 hB8 cN hperm cV hRl;go_wp2_with fail
 refine(aC0 cL.out ?_);rintro e w9 ⟨v9,rfl,hnum9,hB9⟩;have d8:Hid (Calls Tryz.prog 107 _ w9 _):=S16.newseq_any hnum9 (fun x hx=>by
  obtain⟨e,he,rfl⟩:=List.mem_map.1 hx;have:=b5.out e (HP.out.mem_iff.1 he);omega) (by have:=HRl.out;simp[tos];omega)
 have HB9:Hid _:=chain HB8.out hB9;clear hB9 cL HB8;go_wp2_with fail
 refine(aC0 d8.out ?_);rintro e w10 ⟨bt,gt,rfl,hseq,hB10⟩;have aG:=chain HB9.out hB10;have bS:=(aG.block w.heap.size (aC2.1 HG6.out).1).trans HG6.out;have c5:w10.cell? ⟨w.heap.size,5,none⟩=some (.pointer none):=by rw[cell_of_row w10 _ 5 _ _ _ bS];rfl
 have f5:=frozen_of_row w10 _ 5 _ _ bS;have d3:Hid (Below w.heap.size w (w10.setCell ⟨w.heap.size,5,none⟩ (.pointer (some ⟨bt,0,none⟩)))):=((chain cC.out aG).setCell (V7 _) _);have a7:(w10.setCell ⟨w.heap.size,5,none⟩ (.pointer (some ⟨bt,0,none⟩))).heap[w.heap.size]?=some (.cells #[.int .i64 (n:Int),.int .i64 (s:Int),.int .i64 (L.length:Int),.pointer (some ⟨bb,0,none⟩),.pointer (some ⟨bl,0,none⟩),.pointer (some ⟨bt,0,none⟩)] 83 (0,0)):=(by
  rw[heap_setCell_same w10 _ 5 _ _ _ bS];rfl:_=_)
 have hk:=zW c5 (.pointer (some ⟨bt,0,none⟩));have d6:Hid (aJ (w10.setCell ⟨w.heap.size,5,none⟩ (.pointer (some ⟨bt,0,none⟩))) w.heap.size n s L):=(
  ⟨HOk.out,HSt.out,by rw[cell_of_row _ _ 0 _ _ _ a7];rfl,by rw[cell_of_row _ _ 1 _ _ _ a7];rfl,by rw[cell_of_row _ _ 2 _ _ _ a7];rfl,
   ⟨bb,bw,ba,W,by rw[cell_of_row _ _ 3 _ _ _ a7];rfl,xQ (d4.out.below aG) hk⟩,
   ⟨bl,gl,by rw[cell_of_row _ _ 4 _ _ _ a7];rfl,PN (d9.out.below aG) hk⟩,
   ⟨R,bt,gt,by rw[cell_of_row _ _ 5 _ _ _ a7];rfl,PN hseq hk,HP.out,HS2.out⟩⟩:aJ _ _ _ _ _)
 clear aG bS a7 hk hseq hB10 hnum9;go_wp2;go_ret;exact⟨_,rfl,d6.out,d3.out⟩
def nH(G:World->Nat->Nat->Nat->List E3->Prop)(img:ByteArray)(w:World)(e:Ending)(w':World):Prop :=
 Below w.heap.size w w' /\
 ((¬ kQ img/\e = .returned (.tuple #[.pointer none,.int .i64 3])) \/
  (kQ img/\(∃ p<img.size / 256,¬ eT img p)/\e = .returned (.tuple #[.pointer none,.int .i64 4])) \/
  (kQ img/\(∀ p<img.size / 256,eT img p)/\(∀ n s L,¬ Is img n s L)/\e = .returned (.tuple #[.pointer none,.int .i64 5])) \/
  (∃ n s L b,Is img n s L/\e = .returned (.tuple #[.pointer (some ⟨b,0,none⟩),.int .i64 0])/\G w' b n s L))
theorem o5{wr:World}{v:Value}{l:List E3}(h:wr.ownsRow B 38 3 v l.length (flat l)):aI wr v l:=by
 rcases h.2 with ⟨rfl,h0⟩ | ⟨g,cap,cur,rfl,_,hg,r1,r2,r3,r4⟩
 ·obtain rfl:l=[]:=aD8 h0;exact⟨none,0,rfl,fun j e hj=>by cases hj⟩
 ·refine⟨some ⟨g,0,none⟩,cap,rfl,fun j e hj=>⟨g,0,rfl,?_⟩⟩;have hR:aR wr g cap l:=⟨cur,hg,r3,r4⟩;rw[aG1];exact hR.cells hj
theorem wJ(a b:ByteArray)(h:a=b):(a.toList == b.toList)=true:=by subst h;simp
theorem sO(a b:ByteArray)(h:¬ a=b):(a.toList == b.toList)=false:=by
 rw[ByteArray.toList_eq,ByteArray.toList_eq];refine beq_eq_false_iff_ne.2 (fun e=>h ?_);obtain⟨⟨x⟩⟩:=a;obtain⟨⟨y⟩⟩:=b;simp only at e;rw[e]
theorem WR{img:ByteArray}(h:Is img n s L):eY n s L=img/\jV n s L=0:=by
 refine⟨?_,by unfold jV;rw[if_pos h.1]⟩;unfold eY;rw[if_pos h.1,aG3,aG3,built,Gm.BU L h.2.1];exact h.2.2.symm
theorem Q0(img:ByteArray)(w:World)(hs:¬ kQ img)(hb:img.size<=9223372036854775807):Calls Tryz.prog 30 #[.string img] w (nH aJ img w):=by
 have HP:Hid (Calls Tryz.prog 56 _ w _):=KO img w hs hb;have HS:Hid _:=hs;clear hs;go_enter Tryz.func30,Tryz.ntmps30
 go_wp2_with fail
 refine(aC0 HP.out ?_);rintro e w1 ⟨rfl,hw⟩;rw[hw];clear hw w1;go_wp2;go_ret2;exact⟨YQ _ _,.inl ⟨HS.out,rfl⟩⟩
theorem TG(img:ByteArray)(w:World)(hb:img.size<=9223372036854775807):Calls Tryz.prog 30 #[.string img] w (nH aJ img w):=by
 by_cases hs:kQ img;case neg=>exact Q0 img w hs hb
 obtain⟨np,e3⟩:∃ np,img.size=256*np:=⟨img.size / 256,by have:=hs.2.1;omega⟩;have hn0:np≠0:=by have:=hs.1;omega
 have hn1:np<=1000:=by have:=hs.2.2;omega
 have HP:Hid (Calls Tryz.prog 56 _ w _):=RB img w np e3 hn0 hn1;have cQ:img.size / 256=np:=by omega
 have HD:Hid _:=cQ;have HS:Hid _:=hs;have HNp:Hid _:=e3;clear hs cQ e3;go_enter Tryz.func30,Tryz.ntmps30
 go_wp2_with fail
 refine(aC0 HP.out ?_);rintro e w1 ⟨⟨hp,rfl⟩ | ⟨hp,rfl⟩,b3⟩
 ·have HC:Hid _:=hp;have HB:Hid _:=b3;clear hp b3;go_wp2;go_ret2;exact⟨HB.out,.inr (.inl ⟨HS.out,by rw[HD.out];exact HC.out,rfl⟩)⟩
 ·have HC:Hid _:=hp;have a8:Hid _:=b3;obtain⟨t,ht⟩:∃ t,t=bH img np:=⟨_,rfl⟩;have HT:Hid _:=ht;have htl:t.length=2016*np:=by rw[ht];exact kH _ _
  have HTl:Hid _:=htl;rw[<-ht];clear hp b3 ht htl;have hr1:Rd w1.heap.size t 0 (w1.alloc (.cells #[.string (txt t),.int .i64 0] 110)):=heap_alloc_new _ _;have HSz:Hid (Calls Tryz.prog 57 _ _ _):=J5 w1.heap.size t _ hr1 (by rw[HTl.out];omega);clear hr1;go_wp2_with fail
  refine(aC0 HSz.out ?_);rintro e w2 ⟨rfl,hr2,b4⟩;obtain⟨n,hn⟩:∃ n,n=numOf (sub t 0 14):=⟨_,rfl⟩;obtain⟨s,hs⟩:∃ s,s=numOf (sub t 14 5):=⟨_,rfl⟩;obtain⟨E,hE⟩:∃ E,E=numOf (sub t 19 15):=⟨_,rfl⟩;rw[<-hn,<-hs,<-hE];have HN:Hid _:=hn;have cW:Hid _:=hs;have HEn:Hid _:=hE;have hn14:n<16384:=by rw[hn];have:=gW (sub t 0 14);rw[lI]at this;exact this
  have hs5:s<32:=by rw[hs];have:=gW (sub t 14 5);rw[lI]at this;exact this
  have hE15:E<32768:=by rw[hE];have:=gW (sub t 19 15);rw[lI]at this;exact this
  clear hn hs hE;have c7:Below w.heap.size w w2:=(a8.out.alloc a8.out.size (.cells #[.string (txt t),.int .i64 0] 110)).grown b4 (by have:=a8.out.size;simp;omega) (fun k hk=>by cases hk;exact a8.out.size);have cV:=b4.size;have bW:Hid _:=c7.alloc c7.size (.cells #[.int .i64 (n:Int),.int .i64 (s:Int),.int .i64 (E:Int)] 23);have HR3:Hid _:=sS hr2 (aF9 w2 (.cells #[.int .i64 (n:Int),.int .i64 (s:Int),.int .i64 (E:Int)] 23) none) (by simp);have HBx:Hid ((w2.alloc (.cells #[.int .i64 (n:Int),.int .i64 (s:Int),.int .i64 (E:Int)] 23)).heap[w2.heap.size]?=some (.cells #[.int .i64 (n:Int),.int .i64 (s:Int),.int .i64 (E:Int)] 23 (0,0))):=heap_alloc_new _ _;have hlt12:w1.heap.size<w2.heap.size:=by simp at cV;omega
  have b6:Hid (Calls Tryz.prog 48 _ (w2.alloc (.cells #[.int .i64 (n:Int),.int .i64 (s:Int),.int .i64 (E:Int)] 23)) _):=BP n s E _;clear hr2 b4 cV c7 HSz;have dM:Hid (∀ n' s' L,Is img n' s' L->n'=n/\s'=s/\L.length=E/\Gm.sizeOk n s E/\∀ K,Stop t 34 n E K->edg t 34 n s K=L):=(by
   intro n' s' L h;obtain⟨a1,a2,a3,a4⟩:=h.read HNp.out;rw[<-HT.out]at a1 a2 a3 a4;rw[<-HN.out]at a1;rw[<-cW.out]at a2;rw[<-HEn.out]at a3;subst a1 a2;refine⟨rfl,rfl,a3.symm,by rw[a3];exact h.1.1,fun K hK=>(a4 K (by rw[<-a3];exact hK)).1⟩:∀ n' s' L,_)
  by_cases hok:Gm.sizeOk n s E
  ·rw[decide_eq_true hok]at b6;have HOk:Hid _:=hok;have b1:1<=n/\n<=10000/\1<=s/\s<=26/\E<=20000:=by obtain⟨k1,k2,k3,k4,k5⟩:=hok;omega
   clear hok;go_wp2_with fail
   refine(aC0 b6.out ?_);rintro e w4 ⟨rfl,hB4⟩;have aL:=(hB4.block w2.heap.size (by simp)).trans HBx.out;have HR4:Hid (Rd w1.heap.size t (mv t 0 34) w4):=((hB4.block w1.heap.size (by simp;omega)).trans HR3.out:Rd _ _ _ _);have cB:Hid _:=JQ bW.out hB4 (by have:=bW.out.size;omega);have cH:Hid _:=aL;have z0:w4.cell? ⟨w2.heap.size,0,none⟩=some (.int .i64 (n:Int)):=by rw[cell_of_row w4 _ 0 _ _ _ aL];rfl
   have z1:w4.cell? ⟨w2.heap.size,1,none⟩=some (.int .i64 (s:Int)):=by rw[cell_of_row w4 _ 1 _ _ _ aL];rfl
   have z2:w4.cell? ⟨w2.heap.size,2,none⟩=some (.int .i64 (E:Int)):=by rw[cell_of_row w4 _ 2 _ _ _ aL];rfl
   have HEd:Hid (Calls Tryz.prog 58 _ w4 _):=GM w1.heap.size t 34 n s E w4 HR4.out (by rw[HTl.out];omega) ⟨b1.1,b1.2.1⟩ ⟨b1.2.2.1,b1.2.2.2.1⟩ b1.2.2.2.2;clear hB4 aL b6;go_wp2_with fail
   refine(aC0 HEd.out ?_);rintro e w5 ⟨K,v5,a5,hK,rfl,hrow5,hr5,c8⟩;have d0:aI w5 v5 (edg t 34 n s K):=o5 hrow5;obtain⟨l,hl⟩:∃ l,l=edg t 34 n s K:=⟨_,rfl⟩;rw[<-hl]at d0;have HL:Hid _:=hl;have HK:Hid _:=hK;have HB5:Hid _:=cB.out.grown c8 cB.out.size (fun k hk=>by cases hk;exact a8.out.size);have cU:=(aC2.1 cH.out).1;have b8:=(c8.block w2.heap.size cU (by simp;omega)).trans cH.out;have cI:Hid _:=b8;have HE5:Hid _:=d0;have HBd:Hid (Calls Tryz.prog 28 _ w5 _):=AO n s l v5 w5 d0;clear z0 z1 z2 hrow5 hr5 c8 hK hl cU HEd;have z0:w5.cell? ⟨w2.heap.size,0,none⟩=some (.int .i64 (n:Int)):=by rw[cell_of_row w5 _ 0 _ _ _ b8];rfl
   have z1:w5.cell? ⟨w2.heap.size,1,none⟩=some (.int .i64 (s:Int)):=by rw[cell_of_row w5 _ 1 _ _ _ b8];rfl
   clear b8 d0;go_wp2_with fail
   refine(aC0 HBd.out ?_);rintro e w6 ⟨rfl,hB6⟩;have cC:Hid _:=chain HB5.out hB6;have cE:=(hB6.block w2.heap.size (aC2.1 cI.out).1).trans cI.out;have HE6:Hid _:=aI.below HE5.out hB6;clear z0 z1 hB6 HBd;have z0:w6.cell? ⟨w2.heap.size,0,none⟩=some (.int .i64 (n:Int)):=by rw[cell_of_row w6 _ 0 _ _ _ cE];rfl
   have z1:w6.cell? ⟨w2.heap.size,1,none⟩=some (.int .i64 (s:Int)):=by rw[cell_of_row w6 _ 1 _ _ _ cE];rfl
   clear cE;by_cases hgood:okG n s l
   ·have b9:jV n s l=0:=by unfold jV;rw[if_pos hgood]
    rw[b9];by_cases himg:eY n s l=img
    ·have b6:Hid (Is img n s l):=(by
      have h:=UU (np:=np) HNp.out (K:=K) (by rw[<-HT.out,<-HN.out,<-HEn.out];exact HK.out) (by rw[<-HT.out,<-HN.out,<-cW.out,<-HL.out];exact hgood) (by rw[<-HT.out,<-HN.out,<-cW.out,<-HL.out];exact himg);rw[<-HT.out,<-HN.out,<-cW.out,<-HL.out]at h;exact h:Is _ _ _ _)
     have HNg:Hid (Calls Tryz.prog 59 _ w6 _):=AB n s l v5 w6 HE6.out b6.out.1 b6.out.2.1;have cG:=wJ _ _ himg;generalize eY n s l=again at cG;clear himg hgood b9;go_wp2_with fail
     refine(aC0 HNg.out ?_);rintro e w7 ⟨b,rfl,hgr,hB7⟩;have d6:Hid _:=hgr;have HB7:Hid _:=chain cC.out hB7;clear hgr hB7;go_wp2;go_ret2;exact⟨HB7.out,.inr (.inr (.inr ⟨n,s,l,b,b6.out,rfl,d6.out⟩))⟩
    ·have cM:Hid (∀ n' s' L,¬ Is img n' s' L):=(fun n' s' L h=>by
      obtain⟨rfl,rfl,h3,h4,h5⟩:=dM.out n' s' L h;have h6:=h5 K HK.out;rw[<-HL.out]at h6;subst h6;exact himg (WR h).1:∀ n' s' L,_)
     have cG:=sO _ _ himg;generalize eY n s l=again at cG;clear himg hgood b9;go_wp2;go_ret2;exact⟨cC.out,.inr (.inr (.inl ⟨HS.out,by rw[HD.out];exact HC.out,cM.out,rfl⟩))⟩
   ·have cM:Hid (∀ n' s' L,¬ Is img n' s' L):=(fun n' s' L h=>by
     obtain⟨rfl,rfl,h3,h4,h5⟩:=dM.out n' s' L h;have h6:=h5 K HK.out;rw[<-HL.out]at h6;subst h6;exact hgood h.1:∀ n' s' L,_)
    have b9:jV n s l=2:=by unfold jV;rw[if_neg hgood]
    rw[b9];clear hgood b9;generalize eY n s l=again;go_wp2;go_ret2;exact⟨cC.out,.inr (.inr (.inl ⟨HS.out,by rw[HD.out];exact HC.out,cM.out,rfl⟩))⟩
  ·rw[decide_eq_false hok]at b6;have cM:Hid (∀ n' s' L,¬ Is img n' s' L):=(fun n' s' L h=>hok (dM.out n' s' L h).2.2.2.1:∀ n' s' L,_);clear hok;go_wp2_with fail
   refine(aC0 b6.out ?_);rintro e w4 ⟨rfl,hB4⟩;have cB:Hid _:=JQ bW.out hB4 (by have:=bW.out.size;omega);clear hB4;go_wp2;go_ret2;exact⟨cB.out,.inr (.inr (.inl ⟨HS.out,by rw[HD.out];exact HC.out,cM.out,rfl⟩))⟩
end Go.Proofs.YtphjbbbnbmafnaaGreatDoor.G
