import Derived.Test.YtnfglkdkmcocnaaGreatDoorR48
set_option maxRecDepth 100000
set_option maxHeartbeats 16000000
set_option linter.all false
namespace Go.Proofs.YtnfglkdkmcocnaaGreatDoor
open Go.RowKit
theorem searchR_any {w:World} {gb c B G n:Nat} {ss:List Sv} {text:ByteArray} {cd:Nat→In} (o:Os w B (.slice (some ⟨gb,0,none⟩) ss.length c) ss) (hI:∀ (j:Nat) s,ss[j]? = some s→SvI s (cd j)) (hk:∀ a,a < n→(cd a).kind≤7∧(cd a).nx < n∧(cd a).ot < n∧(cd a).dp≤600∧((cd a).kind=3→2≤(cd a).sl∧(cd a).sl < 20)) (hl:ss.length=n) (h0:0 < n) (hn:n≤601) (hN:text.size≤1000) (hG:G≤9) :
  Calls Tryz.prog 38 #[.slice (some ⟨gb,0,none⟩) n c,.string text,.int .i64 0,.int .i64 (G:Nat)] w (SrP w G n cd text):=by
 have HC:Hid (∀ wr,Kp [] w wr→∀ (pc:Nat) s,ss[pc]? = some s→∀ (j:Nat) u,(svC s)[j]? = some u→wr.cell? ⟨gb,pc * 261+j,none⟩=some u):=hid (fun wr kr pc s hs j u hu=>by
  have hjl:j < 261:=by have:=(List.getElem?_eq_some_iff.1 hu).1;rwa [svC_len] at this
  have h1:=o.cells (g:=gb) rfl (pc * 261+j) u (by rw [flatS_at ss pc s hs j hjl];exact hu)
  rw [Addr.add_mid,Nat.zero_add] at h1
  exact (kr.cell (p:=⟨gb,pc * 261+j,none⟩) (o.lt gb rfl).2 (by simp)).trans h1)
 have HS:Hid (∀ t,t < n→∃ s,ss[t]? = some s∧SvI s (cd t)):=hid (fun t ht=>⟨_,List.getElem?_eq_getElem (by omega),hI t _ (List.getElem?_eq_getElem (by omega))⟩)
 have HK:=hid hk
 have hN':(text.size:Int)≤1000:=by omega
 clear o hI hk hl
 go_enter Tryz.func38,Tryz.ntmps38
 go_wp2_with fail
 go_loopw [9,10] (fun rx ix wr=>∃ r t:Nat,rx=.int .i64 r∧ix=.int .i64 t∧t≤n∧1≤r∧r≤602∧Hid (Kp [] w wr∧∀ j,j < t→(cd j).dp < r)) (fun _ ix _=>2000 - (intOf ix).toNat)
 case atStart=>exact ⟨1,0,rfl,rfl,Nat.zero_le _,Nat.le_refl _,by omega,hid ⟨Kp.refl _ _,fun j hj=>absurd hj (by omega)⟩⟩
 case round=>
  obtain ⟨r,t,rfl,rfl,ht,hr1,hr2,HR⟩:=hrel
  by_cases htn:t < n
  ·obtain ⟨s,hs,hsi⟩:=HS.out t htn
   have d5:=HC.out wr HR.out.1 t s hs 260 _ (svC_at s).2.2.2.2.2
   have hdd:=hsi.dps
   have hdk:=(HK.out t htn).2.2.2.1
   obtain ⟨dp,hdp⟩:∃ dp,s.deep=dp:=⟨_,rfl⟩
   rw [hdp] at d5 hdd
   have hd1:dp≤601:=by omega
   have q1:(t:Int) < (n:Int):=by omega
   have q2:(0:Int)≤(t:Int):=by omega
   have hc1:IntKind.i64.wrap ((t:Int)+1)=((t+1:Nat):Int):=wrap_i64_succ t (t+1) rfl (by omega)
   have hc2:IntKind.i64.wrap ((dp:Int)+1)=((dp+1:Nat):Int):=wrap_i64_succ dp (dp+1) rfl (by omega)
   have HD:=hid hdd
   clear hs hsi hdp hdd hdk
   by_cases hge:r≤dp
   ·have q3:(r:Int)≤(dp:Int):=by omega
    go_wp2_with fail
    go_roundw
    ·refine ⟨dp+1,t+1,by go_num,by go_num,by omega,by omega,by omega,hid ⟨HR.out.1,fun j hj=>?_⟩⟩
     by_cases e:j=t
     ·have:=HD.out;rw [e];omega
     ·have:=HR.out.2 j (by omega);omega
    ·simp [intOf];omega
   ·have q3:¬ (r:Int)≤(dp:Int):=by omega
    go_wp2_with fail
    go_roundw
    ·refine ⟨r,t+1,rfl,by go_num,by omega,by omega,by omega,hid ⟨HR.out.1,fun j hj=>?_⟩⟩
     by_cases e:j=t
     ·have:=HD.out;rw [e];omega
     ·have:=HR.out.2 j (by omega);omega
    ·simp [intOf];omega
  ·have q1:¬ (t:Int) < (n:Int):=by omega
   have hdR:∀ a,a < n→(cd a).dp < r:=fun a ha=>HR.out.2 a (by omega)
   have hcok:CokD cd n r:=fun a ha=>by
    obtain ⟨b1,b2,b3,b4,b5⟩:=HK.out a ha
    exact ⟨b1,b2,b3,hdR a ha,fun e=>(b5 e).1⟩
   have HCO:=hid (And.intro hcok (fun a ha e=>((HK.out a ha).2.2.2.2 e).2))
   obtain ⟨P,hP⟩:∃ P,P=n * r:=⟨_,rfl⟩
   obtain ⟨N1,hN1⟩:∃ N1,N1=text.size+1:=⟨_,rfl⟩
   obtain ⟨T,hT⟩:∃ T,T=P * N1:=⟨_,rfl⟩
   have hPb:P≤361802:=by rw [hP];exact Nat.mul_le_mul hn hr2
   have hTb:T≤362163802:=by rw [hT];exact Nat.mul_le_mul hPb (show N1≤1001 by omega)
   have hmP:IntKind.i64.wrap ((n:Int) * (r:Int))=(P:Int):=by rw [←Int.natCast_mul,←hP,IntKind.wrap_i64];omega
   have hmN:IntKind.i64.wrap ((text.size:Int)+1)=(N1:Int):=by rw [hN1];exact wrap_i64_succ text.size (text.size+1) rfl (by omega)
   have hmT:IntKind.i64.wrap ((P:Int) * (N1:Int))=(T:Int):=by rw [←Int.natCast_mul,←hT,IntKind.wrap_i64];omega
   have hmk:=make_seen T (by omega)
   have hmm:=make_marks
   have HT:Hid (N1=text.size+1∧T=n * r * (text.size+1)∧(∀ a,a < n→(cd a).dp < r)):=hid ⟨hN1,by rw [hT,hP,hN1],hdR⟩
   have hN1b:N1≤1001:=by omega
   obtain ⟨sb,hsb⟩:∃ sb,sb=wr.heap.size:=⟨_,rfl⟩
   obtain ⟨w1,hw1⟩:∃ w1,w1=wr.alloc (.cells (flC T) 4):=⟨_,rfl⟩
   have k1:Kp [] w w1:=by rw [hw1];exact HR.out.1.trans (Kp.alloc _ _ _)
   have b1:Bl w1 sb (snC T noBytes):=by
    have:=Bl.alloc wr (flC T).toList 4
    rw [show (flC T).toList.toArray=flC T by simp,←hw1,←hsb,flC_eq] at this
    exact this
   have hslo:w.heap.size≤sb:=by rw [hsb];exact HR.out.1.size
   have H1:=hid (And.intro k1 b1)
   clear hP hN1 hT hdR hcok k1 b1
   go_upto_region 8 with fail
   rw [←hw1,←hsb]
   clear hw1 hsb hmk
   go_wp2_with fail
   go_loopw [12] (fun sx wr2=>∃ (st:Nat) (sn:Nat→Bool),sx=.int .i64 st∧st≤N1∧Hid (Kp [] w wr2∧Bl wr2 sb (snC T sn)∧∀ r',SrD cd text r (N1 - st) st sn r'→SrD cd text r (text.size+1) 0 noBytes r')) (fun sx _=>2000 - (intOf sx).toNat)
   case atStart=>exact ⟨0,noBytes,rfl,Nat.zero_le _,hid ⟨H1.out.1,H1.out.2,fun r' h=>by rw [←HT.out.1];exact h⟩⟩
   case round=>
    obtain ⟨st,sn,rfl,hst,HZ⟩:=hrel
    by_cases hsl:st≤text.size
    ·have q2:(st:Int)≤(text.size:Int):=by omega
     obtain ⟨mb,hmb⟩:∃ mb,mb=wr.heap.size:=⟨_,rfl⟩
     obtain ⟨w2,hw2⟩:∃ w2,w2=wr.alloc (.cells zrC 3):=⟨_,rfl⟩
     have ka:=Kp.alloc [] wr (.cells zrC 3)
     rw [←hw2] at ka
     have b2:Bl w2 mb (mkP 0):=by
      have:=Bl.alloc wr (mkP 0) 3
      rw [←show zrC=(mkP 0).toArray from rfl,←hw2,←hmb] at this
      exact this
     have hne:sb≠mb:=by have:=HZ.out.2.1.lt;omega
     have hmlo:w.heap.size≤mb:=by rw [hmb];exact HZ.out.1.size
     have H2:=hid (And.intro (HZ.out.1.trans ka) (And.intro (HZ.out.2.1.keep ka (by simp)) b2))
     clear ka b2
     go_upto_region 12 with fail
     rw [←hw2,←hmb]
     clear hw2 hmb
     go_wp2_with fail
     go_loopw [14] (fun kx wr3=>∃ i:Nat,kx=.int .i64 i∧i≤20∧Hid (Kp [] w wr3∧Bl wr3 sb (snC T sn)∧Bl wr3 mb (mkP i))) (fun kx _=>2000 - (intOf kx).toNat)
     case atStart=>exact ⟨0,rfl,by omega,H2⟩
     case round=>
      obtain ⟨i,rfl,hi,H3⟩:=hrel
      by_cases hil:i < 20
      ·have q3:(i:Int) < 20:=by omega
       have q4:(0:Int)≤(i:Int):=by omega
       have hc1:IntKind.i64.wrap ((i:Int)+1)=((i+1:Nat):Int):=wrap_i64_succ i (i+1) rfl (by omega)
       have dm:=H3.out.2.2.at_ i _ (mkP_at hil)
       have fm:=H3.out.2.2.free i
       go_wp2_with fail
       go_roundw
       ·have k:=Kp.setCell (S:=[mb]) wr (p:=⟨mb,i,none⟩) (.int .i64 (-1)) (by simp)
        refine ⟨i+1,by go_num,by omega,hid ⟨H3.out.1.pass k fun x hx=>.inr (by rw [List.mem_singleton.1 hx];exact hmlo),H3.out.2.1.keep k (by simpa using hne),?_⟩⟩
        rw [←mkP_set hil]
        exact H3.out.2.2.set i _ (by rw [mkP_len hi];exact hil)
       ·simp [intOf];omega
      ·have q3:¬ (i:Int) < 20:=by omega
       have ei:i=20:=by omega
       subst ei
       obtain ⟨t0,zt,hj,hz0,hz1,hz2,hz3⟩:=job_parts
       have HJ:=hid (And.intro hj (And.intro hz0 (And.intro hz1 hz3)))
       clear hj hz0 hz1 hz2 hz3
       have HB:Hid (Tryz.prog.built 188 [(2,.int .i64 (st:Int))]=some (jbC (.go 0 0 st)).toArray):=hid (built_start st)
       have HM0:=hid (Smx.begin (st:=st) H3.out.1 H3.out.2.1 H3.out.2.2 hslo hmlo hne)
       clear H2 H3 hmm
       go_wp2_with (first | (show wpList _ _ _ (⟨_,.build 188 _,_,_,_,_⟩::_) _ _;refine wpList_bld rfl 188 [(2,.tmp 69)] rfl [(2,.int .i64 (st:Int))] (jbC (.go 0 0 st)).toArray rfl HB.out ?_) | (show wpList _ _ _ (⟨_,.buildSlice 189 _ _,_,_,_,_⟩::_) _ _;refine wpList_one rfl 189 188 (.tmp 70) rfl (jbC (.go 0 0 st)) t0 zt 5 rfl Tryz.underlying189 HJ.out.1 HJ.out.2.1 HJ.out.2.2.1 HJ.out.2.2.2 (jbC_len _) (by decide) (by decide) ?_))
       go_loopw [15,16,17] (fun e b j wr4=>Hid (OutR w cd text n r st sn sb mb T G e b j wr4)) (fun _ _ j wr4=>2 * uns (snW wr4 sb) 0 T+lenV j)
       case atStart=>exact hid ⟨⟨[.go 0 0 st],nz st,sn,none⟩,rfl,HM0.out,Mi.start h0 (by omega) hsl,by have:=uns_le sn 0 T;show 2 * uns sn 0 T+1≤_;omega⟩
       case round=>
        obtain ⟨s,rfl,hm,hi,hbd⟩:=hrel.out
        clear hrel HM0 HB HJ
        by_cases hjb:s.jobs=[]
        ·obtain ⟨ja,jc,hj⟩:=hm.form
         rw [hjb] at hj
         have hj:_=Value.slice ja 0 jc:=hj
         subst hj
         have HD:=hid (And.intro hm (And.intro hi hjb))
         clear hm hi hbd hjb
         cases hbt:s.bt with
         | none=>
          have HBT:=hid hbt
          clear hbt
          have hc1:IntKind.i64.wrap ((st:Int)+1)=((st+1:Nat):Int):=wrap_i64_succ st (st+1) rfl (by omega)
          rw [show endB none = -1 from rfl]
          go_wp2_with fail
          go_roundw
          ·refine ⟨st+1,s.sn,by go_num,by have:=HT.out.1;omega,hid ⟨HD.out.1.kp,HD.out.1.sn,fun r' h=>HZ.out.2.2 r' ?_⟩⟩
           rw [show N1 - st=(N1 - (st+1))+1 by have:=HT.out.1;omega]
           exact ⟨s,HD.out.2.1.done HD.out.2.2,.inr ⟨HBT.out,h⟩⟩
          ·simp [intOf];omega
         | some z=>
          have HBT:=hid hbt
          have hz1:0≤z 1:=(HD.out.2.1.bt z hbt).2
          clear hbt
          rw [show endB (some z)=z 1 from rfl]
          obtain ⟨zz,hzz⟩:∃ zz,zz=z 1:=⟨_,rfl⟩
          rw [←hzz] at hz1 ⊢
          clear hzz
          go_wp2_with fail
          go_ret
          refine ⟨r,some z,by omega,HT.out.2.2,HZ.out.2.2 _ ?_,?_⟩
          ·rw [show N1 - st=(N1 - (st+1))+1 by have:=HT.out.1;omega]
           exact ⟨s,HD.out.2.1.done HD.out.2.2,.inl ⟨z,HBT.out,rfl⟩⟩
          ·have hb:=HD.out.1.bs
           rw [HBT.out,bsC_len] at hb
           rcases hb.2 with ⟨_,q2⟩ | ⟨g',c',cur,q1,_⟩
           ·omega
           ·subst q1
            exact ⟨g',c',rfl,hb,HD.out.1.kp⟩
        ·obtain ⟨l,x,hlx⟩:∃ l x,s.jobs=l++[x]:=⟨s.jobs.dropLast,s.jobs.getLast hjb,(List.dropLast_concat_getLast hjb).symm⟩
         obtain ⟨g,jc,rfl,hjc,RG,hm2⟩:=hm.last hlx
         have hul:=hm.uns
         have hll:s.jobs.length=l.length+1:=by rw [hlx,List.length_append];rfl
         obtain ⟨L,hL⟩:∃ L,l.length=L:=⟨_,rfl⟩
         obtain ⟨K,hK⟩:∃ K,K=L+1:=⟨_,rfl⟩
         rw [hL] at hjc RG hm2 hll
         rw [hL,←hK]
         rw [←hK] at hjc hll
         obtain ⟨M0,hM0⟩:∃ M0,M0=2 * uns (snW wr sb) 0 T+lenV (.slice (some ⟨g,0,none⟩) K jc):=⟨_,rfl⟩
         have hMe:M0=2 * uns s.sn 0 T+K:=by rw [hM0,hul];rfl
         have HM:Hid (M0=2 * uns (snW wr sb) 0 T+lenV (.slice (some ⟨g,0,none⟩) K jc)∧M0=2 * uns s.sn 0 T+K∧M0≤2 * T+1∧s.jobs=l++[x]∧l.length=L):=hid ⟨hM0,hMe,by omega,hlx,hL⟩
         have RGH:=hid RG
         have HI2:=hid hi
         have HM2:=hid hm2
         have hLK:L < K:=by omega
         have hK0:0 < K:=by omega
         have hLc:L≤jc:=by omega
         have eK:(K:Int) - 1=(L:Int):=by omega
         have hKb:K≤800000000:=by omega
         have wL:=wrap_i64_nat L (by omega)
         have hj1:=jbC_one x
         obtain ⟨xb,hxb⟩:∃ xb,xb=wr.heap.size:=⟨_,rfl⟩
         have HX1:=hid hj1
         clear hm hi hbd hM0 hMe hlx hL hK hul hll RG hm2 hj1 hjb
         go_upto_region 21 with (first | (show wpList _ _ _ (⟨_,.load 188 _,_,_,_,_⟩::_) _ _;refine wpList_load_mid rfl 188 (.tmp 79) rfl g (L * 5) rfl (jbC x) _ RGH.out Tryz.underlying188 rfl (by rw [jbC_len];exact Tryz.szJob) ?_) | (show wpList _ _ _ (⟨_,.store 188 _ _,_,_,_,_⟩::_) _ _;refine newVarR (w1:=wr) rfl 188 (.tmp 18) (.tmp 80) rfl _ _ (jbC x) rfl rfl (by rw [jbC_len];rfl) (by rw [jbC_len];exact Tryz.szJob) HX1.out ?_;intro w5 b5 k5))
         rw [←hxb] at b5 ⊢
         have hm5:=HM2.out.keep k5
         clear HM2 hxb RGH HX1
         cases x with
         | back sl old=>
          obtain ⟨⟨h2,h20⟩,hi3⟩:=HI2.out.popBack HM.out.2.2.2.1
          have d3:=b5.at_ 3 _ (show (jbC (.back sl old))[3]? = some (.int .i64 (sl:Nat)) from rfl)
          have d4:=b5.at_ 4 _ (show (jbC (.back sl old))[4]? = some (.int .i64 old) from rfl)
          have dm:=hm5.mkv.at_ sl _ (mkC_at _ h20 h2)
          have fm:=hm5.mkv.free sl
          have q5:(0:Int) < (sl:Int):=by omega
          have q6:(sl:Int) < 20:=by omega
          have q7:(0:Int)≤(sl:Int):=by omega
          have HM5:=hid (And.intro hm5 (And.intro hi3 (And.intro k5 (hm5.mark (v:=old) h2 h20))))
          clear hm5 hi3 k5 b5 HI2
          go_wp2_with fail
          go_roundw
          ·exact hid ⟨{ s with jobs:=l,mks:=nu s.mks sl old },rfl,HM5.out.2.2.2,HM5.out.2.1,by
            show 2 * uns s.sn 0 T+l.length≤_
            have:=HM.out.2;omega⟩
          ·rw [HM5.out.2.2.2.uns,←HM.out.1,HM.out.2.1]
           show 2 * uns s.sn 0 T+L < _
           omega
         | go pc tk pl=>
          have hi3:=HI2.out.popGo HM.out.2.2.2.1
          have d0:=b5.at_ 0 _ (show (jbC (.go pc tk pl))[0]? = some (.int .i64 (pc:Nat)) from rfl)
          have d1:=b5.at_ 1 _ (show (jbC (.go pc tk pl))[1]? = some (.int .i64 (tk:Nat)) from rfl)
          have d2:=b5.at_ 2 _ (show (jbC (.go pc tk pl))[2]? = some (.int .i64 (pl:Nat)) from rfl)
          have d3:=b5.at_ 3 _ (show (jbC (.go pc tk pl))[3]? = some (.int .i64 0) from rfl)
          have HM5:=hid (And.intro hm5 hi3)
          clear hm5 hi3 k5 b5 HI2
          go_wp2_with fail
          go_loopw [15,16,17,19,20,21,22] (fun e b j a t p o wr5=>Hid (InR w cd text n r st sn sb mb T G M0 e b j a t p o wr5)) (fun _ _ _ _ _ _ _ wr5=>uns (snW wr5 sb) 0 T)
          case atStart=>exact hid (InR.on (s:={ s with jobs:=l }) rfl rfl rfl rfl HM5.out.1 (by
           show 2 * uns s.sn 0 T+l.length+1≤_
           have:=HM.out.2;omega) HM5.out.2)
          case round=>
           obtain ⟨s1,on,rfl,rfl,h1,hb1,hor⟩:=hrel.out
           clear hrel HM5 d0 d1 d2 d3
           rcases hor with ⟨rfl,pc,tk,pl,rfl,rfl,rfl,hi1⟩ | ⟨rfl,hi1⟩
           ·obtain ⟨p1,p2,p3⟩:=hi1.pt _ _ _ rfl
            obtain ⟨x1,hx1⟩:∃ x1,x1=pc * r:=⟨_,rfl⟩
            obtain ⟨x2,hx2⟩:∃ x2,x2=x1+tk:=⟨_,rfl⟩
            obtain ⟨x3,hx3⟩:∃ x3,x3=x2 * N1:=⟨_,rfl⟩
            obtain ⟨kx,hkx⟩:∃ kx,kx=x3+pl:=⟨_,rfl⟩
            have eN:=HT.out.1
            have eT:=HT.out.2.1
            have ek:kx=seenD r text.size pc tk pl:=by rw [hkx,hx3,hx2,hx1,eN];rfl
            have hkT:kx < T:=by rw [ek,eT];exact seenD_lt p1 p2 p3
            have hb1x:x1≤361802:=by rw [hx1];exact Nat.mul_le_mul (show pc≤601 by omega) hr2
            have hb2x:x2≤362404:=by omega
            have hb3x:x3≤362766404:=by rw [hx3];exact Nat.mul_le_mul hb2x hN1b
            have w1x:IntKind.i64.wrap ((pc:Int) * (r:Int))=(x1:Int):=by rw [←Int.natCast_mul,←hx1,IntKind.wrap_i64];omega
            have w2x:IntKind.i64.wrap ((x1:Int)+(tk:Int))=(x2:Int):=by rw [IntKind.wrap_i64];omega
            have w3x:IntKind.i64.wrap ((x2:Int) * (N1:Int))=(x3:Int):=by rw [←Int.natCast_mul,←hx3,IntKind.wrap_i64];omega
            have w4x:IntKind.i64.wrap ((x3:Int)+(pl:Int))=(kx:Int):=by rw [IntKind.wrap_i64];omega
            have q8:(kx:Int) < (T:Int):=by omega
            have q9:(0:Int)≤(kx:Int):=by omega
            have dS:=h1.sn.at_ kx _ (snC_at s1.sn hkT)
            clear hx1 hx2 hx3 hkx hb1x hb2x hb3x eN eT
            by_cases hsn:s1.sn kx=true
            ·rw [hsn] at dS
             have HH:=hid (And.intro h1 (And.intro hb1 (hi1.seen (by rw [←ek];exact hsn))))
             clear h1 hb1 hi1 hsn ek
             go_wp2_with fail
             rw [←HM.out.1]
             have:=OutR.back rfl HH.out.1 HH.out.2.1 HM.out.2.2.1 HH.out.2.2
             exact ⟨hid this.1,this.2⟩
            ·have hsf:s1.sn kx=false:=by simpa using hsn
             rw [hsf] at dS
             have fS:=h1.sn.free kx
             obtain ⟨w6,hw6⟩:∃ w6,w6=wr.setCell ⟨sb,kx,none⟩ (.bool true):=⟨_,rfl⟩
             have h6:=h1.see hkT
             rw [←hw6] at h6
             have hum:uns (more s1.sn kx) 0 T+1=uns s1.sn 0 T:=by
              have:=uns_mark s1.sn 0 kx (by rw [Nat.zero_add];exact hsn) T hkT
              rw [Nat.zero_add] at this;exact this
             have hmeas:∀ (w7:World) (j b:Value) (bc:List Value) (s2:Ds),Smx w w7 sb mb T j b bc s2→s2.sn=more s1.sn kx→uns (snW w7 sb) 0 T < uns (snW wr sb) 0 T:=fun w7 j b bc s2 h7 e7=>by
              rw [h7.uns,h1.uns,e7];omega
             obtain ⟨sv,hsv,hsvi⟩:=HS.out pc p1
             have hstep:=fun {o s2}=>hi1.step (o:=o) (s1:=s2) HCO.out.1 HCO.out.2 (by rw [←ek];exact hsn)
             rw [←ek] at hstep
             obtain ⟨j0,jcc,hj0⟩:=h6.form
             have hj0:_=Value.slice j0 s1.jobs.length jcc:=hj0
             subst hj0
             have HMS:=hid hmeas
             have HM1:=hid hi1.m0
             have HST:Hid (∀ {o:Option (Nat×Nat×Nat)} {s2:Ds},stepD cd text pc tk pl { s1 with sn:=more s1.sn kx }=(o,s2)→Mi cd text n r st sn o s2):=hid hstep
             have HH:=hid (And.intro h6 (And.intro hb1 hum))
             have c0:=HC.out w6 h6.kp pc sv hsv 0 _ (svC_at sv).1
             rw [Nat.add_zero] at c0
             have c2:=HC.out w6 h6.kp pc sv hsv 257 _ (svC_at sv).2.2.1
             have c3:=HC.out w6 h6.kp pc sv hsv 258 _ (svC_at sv).2.2.2.1
             have c4:=HC.out w6 h6.kp pc sv hsv 259 _ (svC_at sv).2.2.2.2.1
             have c5:=HC.out w6 h6.kp pc sv hsv 260 _ (svC_at sv).2.2.2.2.2
             have hkd:=HK.out pc p1
             have cS:∀ c,c < 256→w6.cell? ⟨gb,pc * 261+(1+c),none⟩=some (.bool (sv.set c)):=fun c hc=>HC.out w6 h6.kp pc sv hsv (1+c) _ ((svC_at sv).2.1 c hc)
             have HCS:=hid cS
             have HCX:Hid (∀ w7,Kp [] w w7→∀ (j:Nat) u,(svC sv)[j]? = some u→w7.cell? ⟨gb,pc * 261+j,none⟩=some u):=hid (fun w7 k7 j u hu=>HC.out w7 k7 pc sv hsv j u hu)
             have q10:(pc:Int) < (n:Int):=by omega
             have q11:(0:Int)≤(pc:Int):=by omega
             have hwp:IntKind.i64.wrap ((pl:Int)+1)=((pl+1:Nat):Int):=wrap_i64_succ pl (pl+1) rfl (by omega)
             have HSV:=hid hsvi
             have HKD:=hid hkd
             clear h1 h6 hb1 hi1 hsn hsf ek hum hmeas hstep cS hsvi hsv hkd
             go_upto_region 32 with fail
             rw [←hw6]
             clear dS fS hw6 w1x w2x w3x w4x q8 q9
             have hkk:(cd pc).kind=0∨(cd pc).kind=1∨(cd pc).kind=2∨(cd pc).kind=3∨(cd pc).kind=4∨(cd pc).kind=5∨(cd pc).kind=6∨(cd pc).kind=7:=by have:=HKD.out.1;omega
             rcases hkk with hq | hq | hq | hq | hq | hq | hq | hq
             ·as_aux_lemma=>
               obtain ⟨e1,e2,e3,e4⟩:=HSV.out.k0 hq
               rw [e1] at c0
               rw [e3] at c3
               rw [e4] at c5
               have c0:w6.cell? ⟨gb,pc * 261,none⟩=some (.int .i64 1):=c0
               clear c2 c4 e1 e3 e4
               by_cases hlt:pl < text.size
               ·have q12:(pl:Int) < (text.size:Int):=by omega
                have q13:(0:Int)≤(pl:Int):=by omega
                have hb256:(text[pl]'hlt).toNat < 256:=UInt8.toNat_lt _
                have q14:((text[pl]'hlt).toNat:Int) < 256:=by omega
                have q15:(0:Int)≤((text[pl]'hlt).toNat:Int):=by omega
                have cB:=HCS.out _ hb256
                rw [e2 _ hb256] at cB
                have cC:=cB
                rw [←Nat.add_assoc] at cC
                clear e2
                cases hm:(cd pc).m (text[pl]'hlt).toNat with
                | true=>
                 rw [hm] at cB cC
                 go_wp2_with fail
                 go_quiet (fail)
                 have c3:=(Kp.drewN [] w6 nq).cell (World.block_lt_of_cell? _ _ c3) (by simp) |>.trans c3
                 have c5:=(Kp.drewN [] w6 nq).cell (World.block_lt_of_cell? _ _ c5) (by simp) |>.trans c5
                 have H7:=hid (HH.out.1.keep (Kp.drewN [] w6 nq))
                 go_wp2_with fail
                 go_roundw
                 ·exact hid (InR.on (s:={ s1 with sn:=more s1.sn kx }) (pc:=(cd pc).nx) (tk:=(cd pc).dp) (pl:=pl+1) rfl rfl rfl (by go_num) H7.out (by have:=HH.out.2;show 2 * uns (more s1.sn kx) 0 T+s1.jobs.length+1≤_;omega) (HST.out (by simp [stepD,hq,hlt,hm])))
                 ·exact HMS.out _ _ _ _ _ H7.out rfl
                | false=>
                 rw [hm] at cB cC
                 go_wp2_with fail
                 go_quiet (fail)
                 have c3:=(Kp.drewN [] w6 nq).cell (World.block_lt_of_cell? _ _ c3) (by simp) |>.trans c3
                 have c5:=(Kp.drewN [] w6 nq).cell (World.block_lt_of_cell? _ _ c5) (by simp) |>.trans c5
                 have H7:=hid (HH.out.1.keep (Kp.drewN [] w6 nq))
                 go_wp2_with fail
                 go_roundw
                 ·exact hid (InR.off (s:={ s1 with sn:=more s1.sn kx }) rfl H7.out (by have:=HH.out.2;show 2 * uns (more s1.sn kx) 0 T+s1.jobs.length+1≤_;omega) (HST.out (by simp [stepD,hq,hlt,hm])))
                 ·exact HMS.out _ _ _ _ _ H7.out rfl
               ·have q12:¬ (pl:Int) < (text.size:Int):=by omega
                clear e2
                go_wp2_with fail
                go_quiet (fail)
                have c3:=(Kp.drewN [] w6 nq).cell (World.block_lt_of_cell? _ _ c3) (by simp) |>.trans c3
                have c5:=(Kp.drewN [] w6 nq).cell (World.block_lt_of_cell? _ _ c5) (by simp) |>.trans c5
                have H7:=hid (HH.out.1.keep (Kp.drewN [] w6 nq))
                go_wp2_with fail
                go_roundw
                ·exact hid (InR.off (s:={ s1 with sn:=more s1.sn kx }) rfl H7.out (by have:=HH.out.2;show 2 * uns (more s1.sn kx) 0 T+s1.jobs.length+1≤_;omega) (HST.out (by simp [stepD,hq,hlt])))
                ·exact HMS.out _ _ _ _ _ H7.out rfl
             ·as_aux_lemma=>
               obtain ⟨e1,e3,e4⟩:=HSV.out.k1 hq
               rw [e1] at c0
               rw [e3] at c3
               have c0:w6.cell? ⟨gb,pc * 261,none⟩=some (.int .i64 2):=c0
               clear c2 c4 c5 e1 e3 e4
               by_cases hp:pl=0
               ·have q12:((pl:Int) == 0)=true:=by rw [beq_iff_eq];omega
                go_wp2_with fail
                go_roundw
                ·exact hid (InR.on (s:={ s1 with sn:=more s1.sn kx }) (pc:=(cd pc).nx) (tk:=tk) (pl:=pl) rfl rfl rfl rfl HH.out.1 (by have:=HH.out.2;show 2 * uns (more s1.sn kx) 0 T+s1.jobs.length+1≤_;omega) (HST.out (by simp [stepD,hq,hp])))
                ·exact HMS.out _ _ _ _ _ HH.out.1 rfl
               ·have q12:((pl:Int) == 0)=false:=by rw [beq_eq_false_iff_ne];omega
                go_wp2_with fail
                go_roundw
                ·exact hid (InR.off (s:={ s1 with sn:=more s1.sn kx }) rfl HH.out.1 (by have:=HH.out.2;show 2 * uns (more s1.sn kx) 0 T+s1.jobs.length+1≤_;omega) (HST.out (by simp [stepD,hq,hp])))
                ·exact HMS.out _ _ _ _ _ HH.out.1 rfl
             ·as_aux_lemma=>
               obtain ⟨e1,e3,e4⟩:=HSV.out.k2 hq
               rw [e1] at c0
               rw [e3] at c3
               have c0:w6.cell? ⟨gb,pc * 261,none⟩=some (.int .i64 3):=c0
               clear c2 c4 c5 e1 e3 e4
               by_cases hp:pl=text.size
               ·have q12:((pl:Int) == (text.size:Int))=true:=by rw [beq_iff_eq];omega
                go_wp2_with fail
                go_roundw
                ·exact hid (InR.on (s:={ s1 with sn:=more s1.sn kx }) (pc:=(cd pc).nx) (tk:=tk) (pl:=pl) rfl rfl rfl rfl HH.out.1 (by have:=HH.out.2;show 2 * uns (more s1.sn kx) 0 T+s1.jobs.length+1≤_;omega) (HST.out (by simp [stepD,hq,hp])))
                ·exact HMS.out _ _ _ _ _ HH.out.1 rfl
               ·have q12:((pl:Int) == (text.size:Int))=false:=by rw [beq_eq_false_iff_ne];omega
                go_wp2_with fail
                go_roundw
                ·exact hid (InR.off (s:={ s1 with sn:=more s1.sn kx }) rfl HH.out.1 (by have:=HH.out.2;show 2 * uns (more s1.sn kx) 0 T+s1.jobs.length+1≤_;omega) (HST.out (by simp [stepD,hq,hp])))
                ·exact HMS.out _ _ _ _ _ HH.out.1 rfl
             ·as_aux_lemma=>
               obtain ⟨e1,e2,e3,e4⟩:=HSV.out.k3 hq
               obtain ⟨h2,h20⟩:=HKD.out.2.2.2.2 hq
               obtain ⟨sl,hsl2⟩:∃ sl,sl=(cd pc).sl:=⟨_,rfl⟩
               rw [←hsl2] at h2 h20 e2
               rw [e1] at c0
               rw [e2] at c2
               have c0:w6.cell? ⟨gb,pc * 261,none⟩=some (.int .i64 12):=c0
               obtain ⟨old,hold⟩:∃ old,old=s1.mks sl:=⟨_,rfl⟩
               have dm:=HH.out.1.mkv.at_ sl _ (mkC_at _ h20 h2)
               have dm:w6.cell? ⟨mb,sl,none⟩=some (.int .i64 old):=by rw [hold];exact dm
               have q12:(sl:Int) < 20:=by omega
               have q13:(0:Int)≤(sl:Int):=by omega
               have hjl:s1.jobs.length≤2000000000:=by have:=HH.out.2;have:=HM.out.2.2.1;omega
               have HB:Hid (Tryz.prog.built 188 [(3,.int .i64 (sl:Int)),(4,.int .i64 old)]=some (jbC (.back sl old)).toArray):=hid (built_back _ _)
               obtain ⟨t0,zt,hj,hz0,hz1,hz2,hz3⟩:=job_parts
               have HJ:=hid (And.intro hj (And.intro hz0 (And.intro hz1 (And.intro hz2 hz3))))
               have HE:=hid (And.intro e2 (And.intro e3 (And.intro hsl2 hold)))
               clear hj hz0 hz1 hz2 hz3 e1 e2 e3 e4 c3 c4 c5 hsl2 hold
               go_upto_region 47 with fail
               have ka:Kp [] w6 (w6.drew.alloc (.cells (jbC (.back sl old)).toArray 188)):=(Kp.drew _ _).trans (Kp.alloc _ _ _)
               have hS:(fun w':World=>w'.cell? ⟨gb,pc * 261+257,none⟩=some (.int .i64 (sl:Int))∧w'.cell? ⟨mb,sl,none⟩=some (.int .i64 old)) w6.drew:=⟨c2,dm⟩
               have HS8:Hid ((fun w':World=>w'.cell? ⟨gb,pc * 261+257,none⟩=some (.int .i64 (sl:Int))∧w'.cell? ⟨mb,sl,none⟩=some (.int .i64 old)) (w6.drew.alloc (.cells (jbC (.back sl old)).toArray 188))):=hid ⟨(ka.cell (World.block_lt_of_cell? _ _ c2) (by simp)).trans c2,(ka.cell (World.block_lt_of_cell? _ _ dm) (by simp)).trans dm⟩
               have OW:Hid ((w6.drew.alloc (.cells (jbC (.back sl old)).toArray 188)).ownsRow w.heap.size 188 5 (.slice j0 s1.jobs.length jcc) s1.jobs.length (flatJ s1.jobs)):=hid (own_kp HH.out.1.jb ka (by simp))
               have NW:Hid (∀ j u,(jbC (.back sl old))[j]? = some u→(w6.drew.alloc (.cells (jbC (.back sl old)).toArray 188)).cell? ((⟨w6.heap.size,0,none⟩:Addr).add j)=some u):=hid (fun j u hu=>by
                rw [Addr.add_mid,Nat.zero_add]
                exact (Bl.alloc w6.drew _ 188).at_ j u hu)
               have HSZ:Hid (w.heap.size≤(w6.drew.alloc (.cells (jbC (.back sl old)).toArray 188)).heap.size):=hid (Nat.le_trans HH.out.1.kp.size ka.size)
               have HG:Hid (∀ gb8 cap8 w8,w8.ownsRow w.heap.size 188 5 (.slice (some ⟨gb8,0,none⟩) (s1.jobs.length+1) cap8) (s1.jobs.length+1) (flatJ s1.jobs++jbC (.back sl old))→(w6.drew.alloc (.cells (jbC (.back sl old)).toArray 188)).grownBy w8 (Value.slice j0 s1.jobs.length jcc).ownBlock→((Value.slice j0 s1.jobs.length jcc).ownBlock=some gb8∨(w6.drew.alloc (.cells (jbC (.back sl old)).toArray 188)).heap.size≤gb8)→Smx w w8 sb mb T (.slice (some ⟨gb8,0,none⟩) (s1.jobs.length+1) cap8) _ _ _):=hid (fun gb8 cap8 w8 ho8 hg8 hor8=>HH.out.1.push ka ho8 hg8 hor8)
               clear c0 ka c2 dm
               refine wp_region_T (fun w':World=>w'.cell? ⟨gb,pc * 261+257,none⟩=some (.int .i64 (sl:Int))∧w'.cell? ⟨mb,sl,none⟩=some (.int .i64 old)) 17 (by kernel_rfl) ?_
               refine tk1 0 (v:=?_) rfl (by kernel_rfl) (fun _ _ _ h=>h) ⟨rfl,fun w hSw=>?_⟩ hS ?_;rotate_left;· ((try dsimp only at hSw);go_simp;(try with_reducible rfl))
               (try simp only [List.getElem_toArray,List.getElem_cons_succ,List.getElem_cons_zero,Act.put,List.setIfInBounds_toArray,List.set_cons_zero,List.set_cons_succ])
               refine tk1 1 (v:=?_) rfl (by kernel_rfl) (fun _ _ _ h=>h) ⟨rfl,fun w hSw=>?_⟩ hS ?_;rotate_left;· ((try dsimp only at hSw);go_simp;(try with_reducible rfl))
               (try simp only [List.getElem_toArray,List.getElem_cons_succ,List.getElem_cons_zero,Act.put,List.setIfInBounds_toArray,List.set_cons_zero,List.set_cons_succ])
               refine tk1 2 (v:=?_) rfl (by kernel_rfl) (fun _ _ _ h=>h) ⟨rfl,fun w hSw=>?_⟩ hS ?_;rotate_left;· ((try dsimp only at hSw);go_simp;(try with_reducible rfl))
               (try simp only [List.getElem_toArray,List.getElem_cons_succ,List.getElem_cons_zero,Act.put,List.setIfInBounds_toArray,List.set_cons_zero,List.set_cons_succ])
               refine tk1 3 (v:=?_) rfl (by kernel_rfl) (fun _ _ _ h=>h) ⟨rfl,fun w hSw=>?_⟩ hS ?_;rotate_left;· ((try dsimp only at hSw);go_simp;(try with_reducible rfl))
               (try simp only [List.getElem_toArray,List.getElem_cons_succ,List.getElem_cons_zero,Act.put,List.setIfInBounds_toArray,List.set_cons_zero,List.set_cons_succ])
               refine tk1 4 (v:=?_) rfl (by kernel_rfl) (fun _ _ _ h=>h) ⟨rfl,fun w hSw=>?_⟩ hS ?_;rotate_left;· ((try dsimp only at hSw);go_simp;(try with_reducible rfl))
               (try simp only [List.getElem_toArray,List.getElem_cons_succ,List.getElem_cons_zero,Act.put,List.setIfInBounds_toArray,List.set_cons_zero,List.set_cons_succ])
               refine tk1 5 (v:=?_) rfl (by kernel_rfl) (fun _ _ _ h=>h) ⟨rfl,fun w hSw=>?_⟩ hS ?_;rotate_left;· ((try dsimp only at hSw);go_simp;(try with_reducible rfl))
               (try simp only [List.getElem_toArray,List.getElem_cons_succ,List.getElem_cons_zero,Act.put,List.setIfInBounds_toArray,List.set_cons_zero,List.set_cons_succ])
               refine tk1 6 (v:=?_) rfl (by kernel_rfl) (fun _ _ _ h=>h) ⟨rfl,fun w hSw=>?_⟩ hS ?_;rotate_left;· ((try dsimp only at hSw);go_simp;(try with_reducible rfl))
               (try simp only [List.getElem_toArray,List.getElem_cons_succ,List.getElem_cons_zero,Act.put,List.setIfInBounds_toArray,List.set_cons_zero,List.set_cons_succ])
               refine tk1 7 (v:=?_) rfl (by kernel_rfl) (fun _ _ _ h=>h) ⟨rfl,fun w hSw=>?_⟩ hS ?_;rotate_left;· ((try dsimp only at hSw);go_simp;(try with_reducible rfl))
               (try simp only [List.getElem_toArray,List.getElem_cons_succ,List.getElem_cons_zero,Act.put,List.setIfInBounds_toArray,List.set_cons_zero,List.set_cons_succ])
               refine tk1 8 (v:=?_) rfl (by kernel_rfl) (fun _ _ _ h=>h) ⟨rfl,fun w hSw=>?_⟩ hS ?_;rotate_left;· ((try dsimp only at hSw);go_simp;(try with_reducible rfl))
               (try simp only [List.getElem_toArray,List.getElem_cons_succ,List.getElem_cons_zero,Act.put,List.setIfInBounds_toArray,List.set_cons_zero,List.set_cons_succ])
               refine tk1 9 (v:=?_) rfl (by kernel_rfl) (fun _ _ _ h=>h) ⟨rfl,fun w hSw=>?_⟩ hS ?_;rotate_left;· ((try dsimp only at hSw);go_simp;(try with_reducible rfl))
               (try simp only [List.getElem_toArray,List.getElem_cons_succ,List.getElem_cons_zero,Act.put,List.setIfInBounds_toArray,List.set_cons_zero,List.set_cons_succ])
               refine tk1 10 (v:=?_) rfl (by kernel_rfl) (fun _ _ _ h=>h) ⟨rfl,fun w hSw=>?_⟩ hS ?_;rotate_left;· ((try dsimp only at hSw);go_simp;(try with_reducible rfl))
               (try simp only [List.getElem_toArray,List.getElem_cons_succ,List.getElem_cons_zero,Act.put,List.setIfInBounds_toArray,List.set_cons_zero,List.set_cons_succ])
               refine tk1 11 (v:=?_) rfl (by kernel_rfl) (fun _ _ _ h=>h) ⟨rfl,fun w hSw=>?_⟩ hS ?_;rotate_left;· ((try dsimp only at hSw);go_simp;(try with_reducible rfl))
               (try simp only [List.getElem_toArray,List.getElem_cons_succ,List.getElem_cons_zero,Act.put,List.setIfInBounds_toArray,List.set_cons_zero,List.set_cons_succ])
               refine tk1 12 (v:=?_) rfl (by kernel_rfl) (fun _ _ _ h=>h) ⟨rfl,fun w hSw=>?_⟩ hS ?_;rotate_left;· ((try dsimp only at hSw);go_simp;(try with_reducible rfl))
               (try simp only [List.getElem_toArray,List.getElem_cons_succ,List.getElem_cons_zero,Act.put,List.setIfInBounds_toArray,List.set_cons_zero,List.set_cons_succ])
               refine tk1 13 (v:=?_) rfl (by kernel_rfl) (fun _ _ _ h=>h) ⟨rfl,fun w hSw=>?_⟩ hS ?_;rotate_left;· ((try dsimp only at hSw);go_simp;(try with_reducible rfl))
               (try simp only [List.getElem_toArray,List.getElem_cons_succ,List.getElem_cons_zero,Act.put,List.setIfInBounds_toArray,List.set_cons_zero,List.set_cons_succ])
               refine wpAnyT_one (i:=14) (by kernel_rfl) rfl (fun K hK=>?_)
               refine step_bld (by rfl) 188 [(3,.tmp 194),(4,.tmp 202)] (by rfl) [(3,.int .i64 (sl:Int)),(4,.int .i64 old)] (jbC (.back sl old)).toArray (by rfl) HB.out ?_
               refine hK.out _ _ (.inr hS) ?_
               clear hK K
               simp only [List.getElem_toArray,List.getElem_cons_succ,List.getElem_cons_zero,Act.put,List.setIfInBounds_toArray,List.set_cons_zero,List.set_cons_succ]
               refine wpAnyT_one (i:=15) (by kernel_rfl) rfl (fun K hK=>?_)
               refine step_one (by rfl) 189 188 (.tmp 203) (by rfl) (jbC (.back sl old)) t0 zt 5 (by rfl) Tryz.underlying189 HJ.out.1 HJ.out.2.1 HJ.out.2.2.1 HJ.out.2.2.2.2 (jbC_len _) (by omega) (by omega) ?_
               refine hK.out _ _ (.inr HS8.out) ?_
               clear hK K
               simp only [List.getElem_toArray,List.getElem_cons_succ,List.getElem_cons_zero,Act.put,List.setIfInBounds_toArray,List.set_cons_zero,List.set_cons_succ]
               refine wpAnyT_one (i:=16) (by kernel_rfl) rfl (fun K hK=>?_)
               refine step_append2 (by rfl) (.tmp 189) (.tmp 204) 189 (by rfl) w.heap.size 188 t0 zt 5 40 Tryz.underlying189 HJ.out.1 HJ.out.2.1 HJ.out.2.2.1 HJ.out.2.2.2.1 HJ.out.2.2.2.2 (by decide) (.slice j0 s1.jobs.length jcc) s1.jobs.length (flatJ s1.jobs) (by rfl) OW.out ⟨w6.heap.size,0,none⟩ 1 1 (jbC (.back sl old)) (by rfl) (by rw [jbC_len]) NW.out (jbC_one _) (by unfold maxLen;omega) (by omega) HSZ.out (by omega) ?_
               intro gb8 cap8 w8 ho8 hg8 hor8
               have h8:=HG.out gb8 cap8 w8 ho8 hg8 hor8
               have c2:=HCX.out w8 h8.kp 257 _ (svC_at sv).2.2.1
               rw [HE.out.1] at c2
               have dm:=h8.mkv.at_ sl _ (mkC_at _ h20 h2)
               have fm:=h8.mkv.free sl
               have S8:(fun w':World=>w'.cell? ⟨gb,pc * 261+257,none⟩=some (.int .i64 (sl:Int))∧w'.cell? ⟨mb,sl,none⟩=some (.int .i64 old)) w8:=⟨c2,by rw [HE.out.2.2.2];exact dm⟩
               have H8:=hid h8
               clear ho8 hg8 hor8 h8
               refine hK.out _ _ (.inr S8) ?_
               clear hK K
               simp only [List.getElem_toArray,List.getElem_cons_succ,List.getElem_cons_zero,Act.put,List.setIfInBounds_toArray,List.set_cons_zero,List.set_cons_succ]
               refine wpAnyT_one (i:=17) (by kernel_rfl) rfl (fun K hK=>?_)
               go_simp
               refine hK.out _ _ (.inl rfl) ?_
               clear hK K
               refine wpAnyT_done (by kernel_rfl) ?_ _
               clear S8 hS HS8 OW NW HSZ HG
               obtain ⟨w9,hw9⟩:∃ w9,w9=w8.setCell ⟨mb,sl,none⟩ (.int .i64 (pl:Int)):=⟨_,rfl⟩
               have h9:=H8.out.mark (v:=(pl:Int)) h2 h20
               rw [←hw9] at h9
               have c3:=HCX.out w9 h9.kp 258 _ (svC_at sv).2.2.2.1
               rw [HE.out.2.1] at c3
               have H9:=hid h9
               clear h9
               go_upto_region 56 with fail
               rw [←hw9]
               clear hw9 dm fm c2
               go_wp2_with fail
               go_roundw
               ·exact hid (InR.on (s:={ s1 with sn:=more s1.sn kx,jobs:=s1.jobs++[.back sl old],mks:=nu s1.mks sl pl }) (pc:=(cd pc).nx) (tk:=tk) (pl:=pl) rfl rfl rfl rfl H9.out (by have:=HH.out.2;show 2 * uns (more s1.sn kx) 0 T+(s1.jobs++[_]).length+1≤_;rw [List.length_append];show _+(_+1)+1≤_;omega) (HST.out (by simp [stepD,hq,HE.out.2.2.1,HE.out.2.2.2])))
               ·exact HMS.out _ _ _ _ _ H9.out rfl
             ·as_aux_lemma=>
               obtain ⟨e1,e3,e5,e4⟩:=HSV.out.k4 hq
               rw [e1] at c0
               rw [e3] at c3
               rw [e5] at c4
               have c0:w6.cell? ⟨gb,pc * 261,none⟩=some (.int .i64 11):=c0
               have HB:Hid (Tryz.prog.built 188 [(0,.int .i64 (((cd pc).ot:Nat):Int)),(1,.int .i64 (tk:Int)),(2,.int .i64 (pl:Int))]=some (jbC (.go (cd pc).ot tk pl)).toArray):=hid (built_go _ _ _)
               have hjl:s1.jobs.length≤2000000000:=by have:=HH.out.2;have:=HM.out.2.2.1;omega
               clear c2 c5 e1 e5 e4 c3
               go_upto_region 56 with (show wpList _ _ _ (⟨_,.build 188 _,_,_,_,_⟩::_) _ _;refine wpList_pushJ rfl rfl rfl [(0,.tmp 181),(1,.tmp 182),(2,.tmp 183)] rfl (.tmp 184) rfl (.tmp 176) (.tmp 185) rfl _ (.go (cd pc).ot tk pl) rfl HB.out (fun _=>rfl) (fun _ _=>rfl) (fun _ _=>rfl) HH.out.1 hjl ?_)
               intro gb7 cap7 n7 w7 cc7 hn7 h7
               have c3:=HCX.out w7 h7.kp 258 _ (svC_at sv).2.2.2.1
               rw [e3] at c3
               have H7:=hid h7
               clear h7 c0 c4 hn7 hjl e3 HB
               go_wp2_with fail
               go_roundw
               ·exact hid (InR.on (s:={ s1 with sn:=more s1.sn kx,jobs:=s1.jobs++[.go (cd pc).ot tk pl] }) (pc:=(cd pc).nx) (tk:=tk) (pl:=pl) rfl rfl rfl rfl H7.out (by have:=HH.out.2;show 2 * uns (more s1.sn kx) 0 T+(s1.jobs++[_]).length+1≤_;rw [List.length_append];show _+(_+1)+1≤_;omega) (HST.out (by simp [stepD,hq])))
               ·exact HMS.out _ _ _ _ _ H7.out rfl
             ·as_aux_lemma=>
               obtain ⟨e1,e3,e4⟩:=HSV.out.k5 hq
               rw [e1] at c0
               rw [e3] at c3
               obtain ⟨dq,hdq⟩:∃ dq,sv.deep=dq:=⟨_,rfl⟩
               rw [hdq] at c5 e4
               have hdk:=HKD.out.2.2.2.1
               have c0:w6.cell? ⟨gb,pc * 261,none⟩=some (.int .i64 14):=c0
               have hwd:IntKind.i64.wrap ((dq:Int) - 1)=((cd pc).dp:Int):=by rw [IntKind.wrap_i64];omega
               have HE:=hid e4
               clear c2 c4 e1 e3 hdq e4 hdk
               by_cases hp:tk=dq
               ·have q12:((tk:Int) == (dq:Int))=true:=by rw [beq_iff_eq];omega
                go_wp2_with fail
                go_roundw
                ·exact hid (InR.on (s:={ s1 with sn:=more s1.sn kx }) (pc:=(cd pc).nx) (tk:=(cd pc).dp) (pl:=pl) rfl rfl rfl rfl HH.out.1 (by have:=HH.out.2;show 2 * uns (more s1.sn kx) 0 T+s1.jobs.length+1≤_;omega) (HST.out (by have:=HE.out;simp [stepD,hq,show tk=(cd pc).dp+1 by omega])))
                ·exact HMS.out _ _ _ _ _ HH.out.1 rfl
               ·have q12:((tk:Int) == (dq:Int))=false:=by rw [beq_eq_false_iff_ne];omega
                go_wp2_with fail
                go_roundw
                ·exact hid (InR.off (s:={ s1 with sn:=more s1.sn kx }) rfl HH.out.1 (by have:=HH.out.2;show 2 * uns (more s1.sn kx) 0 T+s1.jobs.length+1≤_;omega) (HST.out (by have:=HE.out;simp [stepD,hq,show ¬ tk=(cd pc).dp+1 by omega])))
                ·exact HMS.out _ _ _ _ _ HH.out.1 rfl
             ·as_aux_lemma=>
               obtain ⟨e1,e4⟩:=HSV.out.k6 hq
               rw [e1] at c0
               have c0:w6.cell? ⟨gb,pc * 261,none⟩=some (.int .i64 13):=c0
               clear c2 c4 c5 e1 e4
               obtain ⟨en,hen⟩:∃ en,en=endB s1.bt:=⟨_,rfl⟩
               have HEN:=hid hen
               rw [←hen]
               clear hen
               have hz1:nu s1.mks 1 pl 1=(pl:Int):=by unfold nu;rw [if_pos rfl]
               have HZ1:=hid hz1
               clear hz1
               by_cases hgt:en < (pl:Int)
               ·have hzz:pickE s1.bt (nu s1.mks 1 pl)=some (nu s1.mks 1 pl):=pickE_yes (by rw [←HEN.out,HZ1.out];exact hgt)
                have HZZ:=hid hzz
                obtain ⟨G2,hG2⟩:∃ G2,G2=2 * G:=⟨_,rfl⟩
                obtain ⟨G3,hG3⟩:∃ G3,G3=G2+2:=⟨_,rfl⟩
                have hwG:IntKind.i64.wrap (2 * (G:Int))=(G2:Int):=by rw [IntKind.wrap_i64];omega
                have hwG3:IntKind.i64.wrap ((G2:Int)+2)=(G3:Int):=by rw [IntKind.wrap_i64];omega
                have q20:(G3:Int)≤20:=by omega
                have q21:(2:Int)≤(G3:Int):=by omega
                have q22:(0:Int)≤(G3:Int):=by omega
                have HG3:=hid (And.intro hG2 hG3)
                have HB0:=hid (HH.out.1.best.keep (Kp.alloc [] w6 (.cells #[.int .i64 (st:Int),.int .i64 (pl:Int)] 3)))
                clear hzz hG2 hG3 c3
                go_upto_region 54 with (at_builtin;refine wpList_appI rfl (.tmp 220) (.tmp 223) rfl rfl ⟨w6.heap.size,0,none⟩ 2 2 [.int .i64 (st:Int),.int .i64 (pl:Int)] rfl rfl (fun j u hu=>by rw [Addr.add_mid,Nat.zero_add];exact (Bl.alloc w6 [.int .i64 (st:Int),.int .i64 (pl:Int)] 3).at_ j u hu) (fun u hu=>by simp at hu;rcases hu with rfl | rfl <;> rfl) HB0.out (.inl (by decide)) (by decide) (by decide) ?_)
                intro gb7 cap7 n7 w7 hn7 h7
                have H7:=hid (And.intro h7 hn7)
                clear hn7 h7 HB0 c0
                go_upto_region 55 with (at_builtin;refine wpList_appI rfl (.tmp 225) (.tmp 230) rfl rfl ⟨mb,2,none⟩ (G3 - 2) 18 ((List.range G2).map fun i=>.int .i64 (s1.mks (2+i))) rfl (by rw [List.length_map,List.length_range];have:=HG3.out;omega) (fun j u hu=>by
                 have hj:j < G2:=by have:=(List.getElem?_eq_some_iff.1 hu).1;simpa using this
                 rw [List.getElem?_map,List.getElem?_range hj] at hu
                 cases hu
                 rw [Addr.add_mid]
                 exact H7.out.1.mkv.at_ (2+j) _ (mkC_at _ (by have:=HG3.out;omega) (by omega))) (fun u hu=>by obtain ⟨i,_,rfl⟩:=List.mem_map.1 hu;rfl) H7.out.1 (.inr (fun e=>by cases e)) (by have:=HG3.out;omega) (by show 2≤1000;omega) ?_)
                intro gb9 cap9 n9 w9 hn9 h9
                have hbc:([]++[Value.int .i64 (st:Int),.int .i64 (pl:Int)])++((List.range G2).map fun i=>Value.int .i64 (s1.mks (2+i)))=bsC G (some (nu s1.mks 1 pl)):=by
                 have e0:nu s1.mks 1 pl 0=(st:Int):=by unfold nu;rw [if_neg (by omega)];exact HM1.out
                 have e2:∀ i,nu s1.mks 1 pl (2+i)=s1.mks (2+i):=fun i=>by unfold nu;rw [if_neg (by omega)]
                 simp only [bsC,e0,e2,HZ1.out,HG3.out.1];rfl
                have h9:Smx w w9 sb mb T (.slice j0 s1.jobs.length jcc) (.slice (some ⟨gb9,0,none⟩) n9 cap9) (bsC G (some (nu s1.mks 1 pl))) { s1 with sn:=more s1.sn kx }:=by rw [←hbc];exact h9
                have c3:=HCX.out w9 h9.kp 258 _ (svC_at sv).2.2.2.1
                have H9:=hid (h9.bt (b:=some (nu s1.mks 1 pl)))
                clear h9 hn9 hbc
                go_wp2_with fail
                go_roundw
                ·exact hid (InR.off (s:={ s1 with sn:=more s1.sn kx,bt:=some (nu s1.mks 1 pl) }) (by show Value.int .i64 (pl:Int)=.int .i64 (nu s1.mks 1 pl 1);rw [HZ1.out]) H9.out (by have:=HH.out.2;show 2 * uns (more s1.sn kx) 0 T+s1.jobs.length+1≤_;omega) (HST.out (by simp [stepD,hq,HZZ.out])))
                ·exact HMS.out _ _ _ _ _ H9.out rfl
               ·have hzz:pickE s1.bt (nu s1.mks 1 pl)=s1.bt:=pickE_no (by rw [HZ1.out];omega) (by rw [←HEN.out,HZ1.out];exact hgt)
                have HZZ:=hid hzz
                clear hzz
                go_wp2_with fail
                go_roundw
                ·exact hid (InR.off (s:={ s1 with sn:=more s1.sn kx }) (by rw [HEN.out]) HH.out.1 (by have:=HH.out.2;show 2 * uns (more s1.sn kx) 0 T+s1.jobs.length+1≤_;omega) (HST.out (by simp [stepD,hq,HZZ.out])))
                ·exact HMS.out _ _ _ _ _ HH.out.1 rfl
             ·as_aux_lemma=>
               obtain ⟨e1,e3,e5,e4⟩:=HSV.out.k7 hq
               rw [e1] at c0
               rw [e3] at c3
               rw [e5] at c4
               have c0:w6.cell? ⟨gb,pc * 261,none⟩=some (.int .i64 11):=c0
               have HB:Hid (Tryz.prog.built 188 [(0,.int .i64 (((cd pc).nx:Nat):Int)),(1,.int .i64 (tk:Int)),(2,.int .i64 (pl:Int))]=some (jbC (.go (cd pc).nx tk pl)).toArray):=hid (built_go _ _ _)
               have hjl:s1.jobs.length≤2000000000:=by have:=HH.out.2;have:=HM.out.2.2.1;omega
               clear c2 c5 e1 e5 e4 c3
               go_upto_region 56 with (show wpList _ _ _ (⟨_,.build 188 _,_,_,_,_⟩::_) _ _;refine wpList_pushJ rfl rfl rfl [(0,.tmp 181),(1,.tmp 182),(2,.tmp 183)] rfl (.tmp 184) rfl (.tmp 176) (.tmp 185) rfl _ (.go (cd pc).nx tk pl) rfl HB.out (fun _=>rfl) (fun _ _=>rfl) (fun _ _=>rfl) HH.out.1 hjl ?_)
               intro gb7 cap7 n7 w7 cc7 hn7 h7
               have c3:=HCX.out w7 h7.kp 258 _ (svC_at sv).2.2.2.1
               rw [e3] at c3
               have H7:=hid h7
               clear h7 c0 c4 hn7 hjl e3 HB
               go_wp2_with fail
               go_roundw
               ·exact hid (InR.on (s:={ s1 with sn:=more s1.sn kx,jobs:=s1.jobs++[.go (cd pc).nx tk pl] }) (pc:=(cd pc).nx) (tk:=tk) (pl:=pl) rfl rfl rfl rfl H7.out (by have:=HH.out.2;show 2 * uns (more s1.sn kx) 0 T+(s1.jobs++[_]).length+1≤_;rw [List.length_append];show _+(_+1)+1≤_;omega) (HST.out (by simp [stepD,hq])))
               ·exact HMS.out _ _ _ _ _ H7.out rfl
           ·have HH:=hid (And.intro h1 (And.intro hb1 hi1))
            clear h1 hb1 hi1
            go_wp2_with fail
            rw [←HM.out.1]
            have:=OutR.back rfl HH.out.1 HH.out.2.1 HM.out.2.2.1 HH.out.2.2
            exact ⟨hid this.1,this.2⟩
    ·have q2:¬ (st:Int)≤(text.size:Int):=by omega
     go_wp2_with fail
     go_ret
     have e:N1 - st=0:=by have:=HT.out.1;omega
     exact ⟨r,none,by omega,HT.out.2.2,HZ.out.2.2 _ (by rw [e];rfl),rfl,HZ.out.1⟩
