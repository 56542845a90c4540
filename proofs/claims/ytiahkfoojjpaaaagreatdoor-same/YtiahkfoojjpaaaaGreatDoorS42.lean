import Derived.Test.YtiahkfoojjpaaaaGreatDoorS41
set_option maxRecDepth 100000
set_option maxHeartbeats 16000000
set_option linter.all false
namespace Go.Proofs.YtiahkfoojjpaaaaGreatDoor
open Go.RowKit
theorem tj{w w4 w5:World}{v:Value}{n:Nat}{xs:List Value}{e:TypeId}(k:Kp [] w w4)(ow:w4.ownsRow w.heap.size e 1 v n xs)(hg:w4.grownBy w5 v.ownBlock):Kp [] w w5:=
 ⟨hg.os.trans k.os,hg.tape.trans k.tape,hg.output.trans k.output,QC k.size hg.size,fun j hj _=>(hg.block j (Qx hj k.size) (fun e=>by have:=aA ow (g:=j) (by first|exact e|exact e.symm);omega)).trans (k.block j hj (by simp))⟩
theorem JI(c:UInt8):(jC c).length<=4:=by
 unfold jC;split
 .simp
 .split
  .simp
  .split
   .simp
   .split<;>simp
theorem octC(x:Nat)(h:x<256):Lib.byteCells [92,UInt8.ofNat (48+x/64),UInt8.ofNat (48+x/8%8),UInt8.ofNat (48+x%8)]=[.int .u8 92,.int .u8 (48+(x:Int)/64),.int .u8 (48+(x:Int)/8%8),.int .u8 (48+(x:Int)%8)]:=by
 simp only[Lib.byteCells,SQ,List.map_nil];have e1:(UInt8.ofNat (48+x/64)).toNat=48+x/64:=QV (by show 48+x/64<256;omega);have e2:(UInt8.ofNat (48+x/8%8)).toNat=48+x/8%8:=QV (by show 48+x/8%8<256;omega);have e3:(UInt8.ofNat (48+x%8)).toNat=48+x%8:=QV (by show 48+x%8<256;omega);rw[e1,e2,e3];simp
theorem NM{l:List UInt8}(w:World)(hl:l.length<=4000):Calls Tryz.prog 125 #[.string (ba l)] w fun e w'=>e=.returned (.string (ba (ra l)))/\Kp [] w w':=by
 obtain⟨i0,hi,hz0,hz1,hz2⟩:=info_parts Tryz.infoByte;have HI:=hid (And.intro hi (And.intro hz0 (And.intro hz1 hz2)));clear hi hz0 hz1 hz2;have hsz:=ay l;obtain⟨n,hn⟩:∃n,n=l.length:=⟨_,rfl⟩;obtain⟨S,hS⟩:∃S,S=ba l:=⟨_,rfl⟩;rw[<-hn] at hsz hl;rw[<-hS] at hsz ⊢;have HN:=hid hn;have HS:=hid hS;clear hn hS;go_enter Tryz.func125,Tryz.ntmps125
 go_wp2_with fail;go_loopw [3,8] (fun v i wr=>∃(j:Nat) (acc:List UInt8),j<=n/\i=.int .i64 j/\acc.length<=4*j/\Hid (acc=(l.take j).flatMap jC)/\Hid (wr.ownsRow w.heap.size 5 1 v acc.length (Lib.byteCells acc))/\Hid (Kp [] w wr)) (fun _ i _=>5000-(intOf i).toNat)
 case atStart=>exact⟨0,[],QG _,rfl,QG _,hid rfl,hid ⟨rfl,.inl ⟨rfl,rfl⟩⟩,hid (Kp.refl _ _)⟩
 case round=>
  obtain⟨j,acc,hj,rfl,hal,HA,HO,HK⟩:=hrel;obtain⟨A,c,e,_,_⟩:=aZ HO.out;subst e;by_cases hjn:j<n
  case neg=>
   have hjj:j=n:=by omega
   subst hjj;have ka:=Kp.alloc [] wr (.cells #[.int .u8 36] 5);have BN:=hid (Bl.alloc wr [.int .u8 36] 5);have O4:=hid (ag HO.out (fun p hp=>ka.block p (aA HO.out hp).2 (by simp)));have KA:=hid ka;have HLO:Hid (w.heap.size<=(wr.alloc (.cells #[.int .u8 36] 5)).heap.size):=hid (QC HK.out.size ka.size);clear ka;go_wp2_with (at_builtin;refine dP rfl _ _ 49 rfl w.heap.size 5 i0 (.int .u8 0) 1 1 Tryz.underlying49 HI.out.1 HI.out.2.1 HI.out.2.2.1 HI.out.2.2.2 rfl (by decide) (.slice A acc.length c) acc.length (Lib.byteCells acc) rfl O4.out ⟨wr.heap.size,0,none⟩ 1 1 [.int .u8 36] rfl rfl (fun j u hu=>by rw[Addr.add_mid,QH];exact BN.out.at_ j u hu) (fun u hu=>by simp at hu;subst hu;rfl) (by unfold maxLen;omega) (by omega) HLO.out (by omega) ?_;intro g cap w5 ho5 hg5 hor5)
   have O6:Hid (w5.ownsRow w.heap.size 5 1 (.slice (some ⟨g,0,none⟩) (acc.length+1) cap) (acc++[36]).length (Lib.byteCells (acc++[36]))):=hid (by
    rw[show Lib.byteCells (acc++[36])=Lib.byteCells acc++[.int .u8 36] by simp[Lib.byteCells],Qy]
    exact ho5)
   have K5:=hid (tj (HK.out.trans KA.out) O4.out hg5);clear ho5 hg5 hor5;have hcv:=iC O6.out
   have HA2:Hid (acc++[36]=ra l):=hid (by
    unfold ra
    rw[HA.out,HN.out,Rq])
   rw[hcv];go_simp;go_wp2_with fail;go_ret;rw[HA2.out];exact⟨rfl,K5.out⟩
  case pos=>
   have hjs:j<S.size:=by omega
   obtain⟨x,hx⟩:∃x,(⟨S.data⟩:ByteArray)[j].toNat=x:=⟨_,rfl⟩;have hjl:j<l.length:=by rw[<-HN.out];exact hjn
   obtain⟨b,hb⟩:∃b,b=l[j]:=⟨_,rfl⟩;have hbx:b.toNat=x:=by
    rw[<-hx,hb];have e:=HS.out;subst e;simp[ba,ByteArray.getElem_eq_getElem_data]
   have HT:Hid ((l.take (j+1)).flatMap jC=(l.take j).flatMap jC++jC b):=hid (by rw[RJ hjl,SP,hb];simp);have hx256:x<256:=by rw[<-hbx];exact Rc b
   clear hb;by_cases h92:x=92
   .have q1:((x:Int)==92)=true:=by rw[h92];rfl
    have HLB:Hid (jC b=[92,92]):=hid (by
     have e:b=92:=UInt8.toNat_inj.1 (hbx.trans h92);rw[e]
     rfl)
    clear h92;go_wp2_with (at_builtin;refine ik rfl _ _ 49 9 rfl w.heap.size 5 i0 Tryz.underlying49 Tryz.underlying9 HI.out.1 HI.out.2.1 HI.out.2.2.1 HI.out.2.2.2 (.slice A acc.length c) acc.length (Lib.byteCells acc) rfl HO.out ⟨#[92,92]⟩ rfl (by show acc.length+2<=_;omega) HK.out.size ?_;intro v2 w5 ho5 hg5 hl5)
    have O6:Hid (w5.ownsRow w.heap.size 5 1 v2 (acc++[92,92]).length (Lib.byteCells (acc++[92,92]))):=hid (by
     rw[show Lib.byteCells (acc++[92,92])=Lib.byteCells acc++Lib.byteCells [92,92] by simp[Lib.byteCells],Qy]
     exact ho5)
    have K5:=hid (tj HK.out HO.out hg5);clear ho5 hg5 hl5;go_wp2_with fail;go_round
    case rel=>exact⟨j+1,acc++[92,92],by omega,rfl,by rw[Qy];show acc.length+2<=_;omega,hid (by rw[HT.out,HLB.out,<-HA.out]),O6,K5⟩
    case measure=>simp[intOf];omega
   have q1:((x:Int)==92)=false:=by rw[Qz];omega
   by_cases h10:x=10
   .have q2:((x:Int)==10)=true:=by rw[h10];rfl
    have HLB:Hid (jC b=[92,110]):=hid (by
     have e:b=10:=UInt8.toNat_inj.1 (hbx.trans h10);rw[e]
     rfl)
    clear h10;go_wp2_with (at_builtin;refine ik rfl _ _ 49 9 rfl w.heap.size 5 i0 Tryz.underlying49 Tryz.underlying9 HI.out.1 HI.out.2.1 HI.out.2.2.1 HI.out.2.2.2 (.slice A acc.length c) acc.length (Lib.byteCells acc) rfl HO.out ⟨#[92,110]⟩ rfl (by show acc.length+2<=_;omega) HK.out.size ?_;intro v2 w5 ho5 hg5 hl5)
    have O6:Hid (w5.ownsRow w.heap.size 5 1 v2 (acc++[92,110]).length (Lib.byteCells (acc++[92,110]))):=hid (by
     rw[show Lib.byteCells (acc++[92,110])=Lib.byteCells acc++Lib.byteCells [92,110] by simp[Lib.byteCells],Qy]
     exact ho5)
    have K5:=hid (tj HK.out HO.out hg5);clear ho5 hg5 hl5;go_wp2_with fail;go_round
    case rel=>exact⟨j+1,acc++[92,110],by omega,rfl,by rw[Qy];show acc.length+2<=_;omega,hid (by rw[HT.out,HLB.out,<-HA.out]),O6,K5⟩
    case measure=>simp[intOf];omega
   have q2:((x:Int)==10)=false:=by rw[Qz];omega
   by_cases h9:x=9
   .have q3:((x:Int)==9)=true:=by rw[h9];rfl
    have HLB:Hid (jC b=[92,116]):=hid (by
     have e:b=9:=UInt8.toNat_inj.1 (hbx.trans h9);rw[e]
     rfl)
    clear h9;go_wp2_with (at_builtin;refine ik rfl _ _ 49 9 rfl w.heap.size 5 i0 Tryz.underlying49 Tryz.underlying9 HI.out.1 HI.out.2.1 HI.out.2.2.1 HI.out.2.2.2 (.slice A acc.length c) acc.length (Lib.byteCells acc) rfl HO.out ⟨#[92,116]⟩ rfl (by show acc.length+2<=_;omega) HK.out.size ?_;intro v2 w5 ho5 hg5 hl5)
    have O6:Hid (w5.ownsRow w.heap.size 5 1 v2 (acc++[92,116]).length (Lib.byteCells (acc++[92,116]))):=hid (by
     rw[show Lib.byteCells (acc++[92,116])=Lib.byteCells acc++Lib.byteCells [92,116] by simp[Lib.byteCells],Qy]
     exact ho5)
    have K5:=hid (tj HK.out HO.out hg5);clear ho5 hg5 hl5;go_wp2_with fail;go_round
    case rel=>exact⟨j+1,acc++[92,116],by omega,rfl,by rw[Qy];show acc.length+2<=_;omega,hid (by rw[HT.out,HLB.out,<-HA.out]),O6,K5⟩
    case measure=>simp[intOf];omega
   have q3:((x:Int)==9)=false:=by rw[Qz];omega
   have hb92:b≠92:=fun e=>h92 (by rw[<-hbx,e];rfl);have hb10:b≠10:=fun e=>h10 (by rw[<-hbx,e];rfl);have hb9:b≠9:=fun e=>h9 (by rw[<-hbx,e];rfl);by_cases hr:x<32\/126<x
   .have HLB:Hid (jC b=[92,UInt8.ofNat (48+x/64),UInt8.ofNat (48+x/8%8),UInt8.ofNat (48+x%8)]):=hid (by
     unfold jC
     rw[Qw hb92,Qw hb10,Qw hb9,QB (hr.imp (fun q=>by rw[<-hbx] at q;exact q) (fun q=>by rw[<-hbx] at q;exact q)),hbx])
    have HX:=hid hx256;clear hb92 hb10 hb9 hbx h92 h10 h9;have hr2:x<32\/(¬x<32/\126<x):=by omega
    clear hr;rcases hr2 with r2|⟨r2,r3⟩
    all_goals
     have ka:=Kp.alloc [] wr (.cells #[.int .u8 92,.int .u8 (48+(x:Int)/64),.int .u8 (48+(x:Int)/8%8),.int .u8 (48+(x:Int)%8)] 5);have BN:=hid (Bl.alloc wr [.int .u8 92,.int .u8 (48+(x:Int)/64),.int .u8 (48+(x:Int)/8%8),.int .u8 (48+(x:Int)%8)] 5);have O4:=hid (ag HO.out (fun p hp=>ka.block p (aA HO.out hp).2 (by simp)));have KA:=hid ka;have HLO:Hid (w.heap.size<=(wr.alloc (.cells #[.int .u8 92,.int .u8 (48+(x:Int)/64),.int .u8 (48+(x:Int)/8%8),.int .u8 (48+(x:Int)%8)] 5)).heap.size):=hid (QC HK.out.size ka.size);clear ka;go_wp2_with (at_builtin;refine dP rfl _ _ 49 rfl w.heap.size 5 i0 (.int .u8 0) 1 1 Tryz.underlying49 HI.out.1 HI.out.2.1 HI.out.2.2.1 HI.out.2.2.2 rfl (by decide) (.slice A acc.length c) acc.length (Lib.byteCells acc) rfl O4.out ⟨wr.heap.size,0,none⟩ 4 4 [.int .u8 92,.int .u8 (48+(x:Int)/64),.int .u8 (48+(x:Int)/8%8),.int .u8 (48+(x:Int)%8)] rfl rfl (fun j u hu=>by rw[Addr.add_mid,QH];exact BN.out.at_ j u hu) (fun u hu=>by simp at hu;rcases hu with rfl|rfl|rfl|rfl<;>rfl) (by unfold maxLen;omega) (by omega) HLO.out (by omega) ?_;intro g cap w5 ho5 hg5 hor5)
     have O6:Hid (w5.ownsRow w.heap.size 5 1 (.slice (some ⟨g,0,none⟩) (acc.length+4) cap) (acc++[92,UInt8.ofNat (48+x/64),UInt8.ofNat (48+x/8%8),UInt8.ofNat (48+x%8)]).length (Lib.byteCells (acc++[92,UInt8.ofNat (48+x/64),UInt8.ofNat (48+x/8%8),UInt8.ofNat (48+x%8)]))):=hid (by
      rw[show Lib.byteCells (acc++[92,UInt8.ofNat (48+x/64),UInt8.ofNat (48+x/8%8),UInt8.ofNat (48+x%8)])=Lib.byteCells acc++[.int .u8 92,.int .u8 (48+(x:Int)/64),.int .u8 (48+(x:Int)/8%8),.int .u8 (48+(x:Int)%8)] by
       have e:Lib.byteCells [92,UInt8.ofNat (48+x/64),UInt8.ofNat (48+x/8%8),UInt8.ofNat (48+x%8)]=[.int .u8 92,.int .u8 (48+(x:Int)/64),.int .u8 (48+(x:Int)/8%8),.int .u8 (48+(x:Int)%8)]:=octC x HX.out;rw[<-e]
       simp[Lib.byteCells],Qy]
      exact ho5)
     have K5:=hid (tj (HK.out.trans KA.out) O4.out hg5);clear ho5 hg5 hor5;go_wp2_with fail;go_round
     case rel=>exact⟨j+1,acc++[92,UInt8.ofNat (48+x/64),UInt8.ofNat (48+x/8%8),UInt8.ofNat (48+x%8)],by omega,rfl,by rw[Qy];show acc.length+4<=_;omega,hid (by rw[HT.out,HLB.out,<-HA.out]),O6,K5⟩
     case measure=>simp[intOf];omega
   .have r1:¬x<32:=fun q=>hr (.inl q);have r2:¬126<x:=fun q=>hr (.inr q)
    have HLB:Hid (jC b=[b]):=hid (by
     unfold jC
     rw[Qw hb92,Qw hb10,Qw hb9,Qw (fun q=>hr (q.imp (fun q=>by rw[<-hbx];exact q) (fun q=>by rw[<-hbx];exact q)))])
    have HB:=hid hbx;clear hb92 hb10 hb9 hbx hr h92 h10 h9;have ka:=Kp.alloc [] wr (.cells #[.int .u8 (x:Int)] 5);have BN:=hid (Bl.alloc wr [.int .u8 (x:Int)] 5);have O4:=hid (ag HO.out (fun p hp=>ka.block p (aA HO.out hp).2 (by simp)));have KA:=hid ka;have HLO:Hid (w.heap.size<=(wr.alloc (.cells #[.int .u8 (x:Int)] 5)).heap.size):=hid (QC HK.out.size ka.size);clear ka;go_wp2_with (at_builtin;refine dP rfl _ _ 49 rfl w.heap.size 5 i0 (.int .u8 0) 1 1 Tryz.underlying49 HI.out.1 HI.out.2.1 HI.out.2.2.1 HI.out.2.2.2 rfl (by decide) (.slice A acc.length c) acc.length (Lib.byteCells acc) rfl O4.out ⟨wr.heap.size,0,none⟩ 1 1 [.int .u8 (x:Int)] rfl rfl (fun j u hu=>by rw[Addr.add_mid,QH];exact BN.out.at_ j u hu) (fun u hu=>by simp at hu;subst hu;rfl) (by unfold maxLen;omega) (by omega) HLO.out (by omega) ?_;intro g cap w5 ho5 hg5 hor5)
    have O6:Hid (w5.ownsRow w.heap.size 5 1 (.slice (some ⟨g,0,none⟩) (acc.length+1) cap) (acc++[b]).length (Lib.byteCells (acc++[b]))):=hid (by
     rw[show Lib.byteCells (acc++[b])=Lib.byteCells acc++[.int .u8 (x:Int)] by simp[Lib.byteCells,HB.out],Qy]
     exact ho5)
    have K5:=hid (tj (HK.out.trans KA.out) O4.out hg5);clear ho5 hg5 hor5;go_wp2_with fail;go_round
    case rel=>exact⟨j+1,acc++[b],by omega,rfl,by rw[Qy];show acc.length+1<=_;omega,hid (by rw[HT.out,HLB.out,<-HA.out]),O6,K5⟩
    case measure=>simp[intOf];omega
theorem zu:∀l:List UInt8,(l.flatMap jC).length<=4*l.length
 | []=>QD _
 | c::l=>by
  have h1:=JI c;have h2:=zu l;rw[List.flatMap_cons,Qy,QF];omega
theorem JH(l:List UInt8):(ra l).length<=4*l.length+1:=by
 unfold ra;have:=zu l;rw[Qy,QP];omega
theorem Hw(fr tt:List UInt8)(h:fr.length=tt.length)(c:UInt8):∀n,n<=fr.length->(Ap fr tt n c.toNat).toUInt8=(match ((fr.take n).zip (tt.take n)).reverse.find? (fun p=>p.1==c) with
  | some p=>p.2
  | none=>c)
 | 0,_=>by simp[Ap]
 | n+1,hn=>by
  have hf:n<fr.length:=by omega
  have ht:n<tt.length:=by omega
  have e:((fr.take (n+1)).zip (tt.take (n+1))).reverse=(fr[n],tt[n])::((fr.take n).zip (tt.take n)).reverse:=by
   rw[RJ hf,RJ ht,List.zip_append (by simp;omega)];simp
  rw[e,Sa];unfold Ap;rw[QA hf,QA ht];by_cases hc:fr[n]=c
  .have q:(fr[n]==c)=true:=by simp[hc]
   simp only[Option.getD_some,hc,if_true];simp
  .have q:(fr[n]==c)=false:=by simp[hc]
   have q2:¬c.toNat=fr[n].toNat:=fun e=>hc (UInt8.toNat_inj.1 e.symm);simp only[Option.getD_some,q,Qw q2];exact Hw fr tt h c n (by omega)
theorem Mj(fr tt:List UInt8)(h:fr.length=tt.length)(l:List UInt8):pn fr tt l=l.map (turnB fr tt):=by
 unfold pn;apply List.map_congr_left;intro c _;rw[Hw fr tt h c fr.length (QD _),Rq,h,Rq]
 rfl
section
variable {w0 w w' w2:World}{mb sb db lo hi:Nat}{s s':Mst}{u:Ust}{σ:Sst}{ca co:Nat}{cv:List Value}
theorem Gn{fr tt:List UInt8}(h:Mac w0 w mb sb db s)(hc:Cu w0 ca co cv)(h20:cv[20]? = some (.string (ba fr)))(h22:cv[22]? = some (.string (ba tt)))(hft:fr.length=tt.length)(hfl:fr.length<=2000)(hp:s.p=u.p)(hu:UOk u):Calls Tryz.prog 64 #[.pointer (some ⟨mb,0,none⟩),.pointer (some ⟨ca,co,none⟩)] w (dJ w0 mb sb db w s (.ok { u with space:=u.space.map (turnB fr tt)})):=by
 have l9:=hu.sp;refine(Gm h (hc.now h h20) (hc.now h h22) (congrArg Pst.space hp:s.space=ba u.space) (by omega) hft hfl).mono ?_;rintro r w1 ⟨rfl,g⟩;refine⟨rfl,g.oE ?_⟩;rw[hp,Mj fr tt hft]
 rfl
theorem list_t{cp:Value}(h:Mac w0 w mb sb db s)(hp:s.p=u.p)(hu:UOk u):Calls Tryz.prog 76 #[.pointer (some ⟨mb,0,none⟩),cp] w (dJ w0 mb sb db w s (u.tell (ra u.space))):=by
 have c9:=h.b.at_ 9 _ rfl;have e9:s.space=ba u.space:=congrArg Pst.space hp;rw[e9] at c9;have l9:=hu.sp;have hln:=JH u.space;have HT:Hid (∀w1,Kp [] w w1->Calls Tryz.prog 112 #[.pointer (some ⟨mb,5,none⟩),.string (ba (ra u.space))] w1 (dJ w0 mb sb db w1 s (u.tell (ra u.space)))):=hid (fun w1 k1=>js (h.aj k1) hp hu (by omega));have HI:=hid (NM (l:=u.space) w.drew l9);obtain⟨R,hR⟩:∃R,R=u.tell (ra u.space):=⟨_,rfl⟩;rw[<-hR] at HT ⊢;clear hR h hp hu
 cases R with
 | error q=>
  obtain⟨E,u1⟩:=q;go_enter Tryz.func76,Tryz.ntmps76
  go_wp2_with fail;go_region_dies
  rename_i K hK;refine HI.out.mono ?_;rintro r w1 ⟨rfl,k1⟩;have K1:Hid (Kp [] w w1):=hid ((Kp.drew [] w).trans k1);clear k1;refine hK _ _ ?_;clear hK K;refine wpAny_ready (rs:=[8]) (by kernel_rfl) (by simp) ?_;refine AllReady.cons rfl (fun K hK=>?_) AllReady.nil;go_simp;refine(HT.out _ K1.out).mono ?_;rintro r w2 ⟨rfl,g1⟩;exact⟨rfl,rfl,g1.pre K1.out⟩
 | ok u1=>
  go_enter Tryz.func76,Tryz.ntmps76
  go_wp2_with fail;go_region_with (first|(go_at_call 112;refine(HT.out _ K1.out).mono ?_;rintro r w2 ⟨rfl,g1⟩)|(go_at_call 125;refine HI.out.mono ?_;rintro r w1 ⟨rfl,k1⟩;have K1:Hid (Kp [] w w1):=hid ((Kp.drew [] w).trans k1);clear k1))
  go_wp2_with fail;go_end0;exact⟨rfl,g1.pre K1.out⟩
end
theorem Da{P:Program}{w:World}{base:Nat}{t u ty e:TypeId}{i:TypeInfo}(ht:P.underlying t=some (.slice e))(hu:P.underlying u=some .string)(hi:P.info? e=some i)(hz:i.zero=some (.int .u8 0))(hsize:i.size=1)(hby:i.bytes=1){v:Value}{n:Nat}{xs:List Value}(hown:w.ownsRow base e 1 v n xs)(s:ByteArray)(h63:n+s.size<=100000000)(hbase:base<=w.heap.size):∃v' w',(Builtin.append_ #[t,u] ty #[v,.string s]).run P w=.ok v' w'/\w'.ownsRow base e 1 v' (n+s.size) (xs++Lib.byteCells s.data.toList)/\w.grownBy w' v.ownBlock/\∀g,v'.ownBlock=some g->v.ownBlock=some g\/w.heap.size<=g:=by
 obtain⟨v',w',hr,h2,h3,h4⟩:=Lib.run_append_own_string (P:=P) w base t u ty e i ht hu hi hz hsize hby v n xs hown s (by unfold maxLen;omega) (by omega) hbase;refine⟨v',w',hr,h2,h3,fun g hg=>?_⟩;rcases hown.2 with⟨rfl,rfl⟩|⟨g',cap,cur,rfl,hbg,hgc,hnc,hcm,hcs,htake⟩
 .by_cases hm:s.size=0
  .rw[h4.2 ⟨rfl,hm⟩] at hg;cases hg
  .have:=run_append_nil_string (P:=P) (ty:=ty) w t u e i (.int .u8 0) ht hu hi hz s (by omega) (by omega) (by rw[hby];omega);rw[this] at hr;injection hr with hr _;subst hr;have:w.heap.size=g:=by simpa[Value.ownBlock] using hg
   exact .inr (by omega)
 .by_cases hroom:n+s.size<=cap
  .have:=Lib.run_append_room_string (P:=P) w t u ty e i ht hu hi hsize g' n cap cur hgc s hroom (by rw[hcs];omega);rw[this] at hr;injection hr with hr _;subst hr;exact .inl hg
  .have hxl:xs.length=n:=by simpa using hown.1
   have:=Lib.run_append_grow_string (P:=P) w t u ty e i (.int .u8 0) ht hu hi hz ⟨g',0,none⟩ n cap xs (by rw[hsize];simpa using hxl) (hown.cells (g:=g') rfl) s (by omega) (by omega) (by rw[hby];exact growslice_fits (by omega) (by omega));rw[this] at hr;injection hr with hr _;subst hr;have:w.heap.size=g:=by simpa[Value.ownBlock] using hg
   exact .inr (by omega)
theorem oY{P:Program}{ops:Array Oper}{rest:List Oper}{o:Oper}{a:Act}{w:World}{Q:Exit->Act->World->Prop}(hgd:o.guard=none)(sl x:Operand)(t u:TypeId)(ho:o.op=.call { callee:=.builtin .append,args:=#[sl,x],argTypes:=#[t,u]})(base:Nat)(e:TypeId)(i:TypeInfo)(ht:P.underlying t=some (.slice e))(hu:P.underlying u=some .string)(hi:P.info? e=some i)(hz:i.zero=some (.int .u8 0))(hsize:i.size=1)(hby:i.bytes=1)(v:Value)(n:Nat)(xs:List Value)(hs:a.eval sl=v)(hown:w.ownsRow base e 1 v n xs)(s:ByteArray)(hx:a.eval x=.string s)(h63:n+s.size<=100000000)(hbase:base<=w.heap.size)(h:∀v' w',w'.ownsRow base e 1 v' (n+s.size) (xs++Lib.byteCells s.data.toList)->w.grownBy w' v.ownBlock->(∀g,v'.ownBlock=some g->v.ownBlock=some g\/w.heap.size<=g)->wpList P ops Q rest (a.put o.dst v') w'):wpList P ops Q (o::rest) a w:=by
 refine wpList_plain hgd fun K hK=>?_;obtain⟨v',w',hr,h2,h3,h4⟩:=Da (P:=P) (ty:=o.type) ht hu hi hz hsize hby hown s h63 hbase;unfold Oper.wp;simp[execOp,ho,resolve,invoke,builtin,hs,hx,hr,Result.andThen];exact hK _ _ (h v' w' h2 h3 h4)
theorem yn{P:Program}{ops:Array Oper}{o:Oper}{a:Act}{w:World}{K:Act->World->Prop}{Q:Exit->Act->World->Prop}{E:Prop}(hgd:o.guard=none)(sl x:Operand)(t u:TypeId)(ho:o.op=.call { callee:=.builtin .append,args:=#[sl,x],argTypes:=#[t,u]})(base:Nat)(e:TypeId)(i:TypeInfo)(ht:P.underlying t=some (.slice e))(hu:P.underlying u=some .string)(hi:P.info? e=some i)(hz:i.zero=some (.int .u8 0))(hsize:i.size=1)(hby:i.bytes=1)(v:Value)(n:Nat)(xs:List Value)(hs:a.eval sl=v)(hown:w.ownsRow base e 1 v n xs)(s:ByteArray)(hx:a.eval x=.string s)(h63:n+s.size<=100000000)(hbase:base<=w.heap.size)(h:∀v' w',w'.ownsRow base e 1 v' (n+s.size) (xs++Lib.byteCells s.data.toList)->w.grownBy w' v.ownBlock->(∀g,v'.ownBlock=some g->v.ownBlock=some g\/w.heap.size<=g)->K (a.put o.dst v') w'):if Region.wanted o (yielded ops a.tmps)=true then Oper.wp P o a w K Q else E:=by
 have hw:Region.wanted o (yielded ops a.tmps)=true:=by simp[Region.wanted,hgd]
 rw[QB hw];obtain⟨v',w',hr,h2,h3,h4⟩:=Da (P:=P) (ty:=o.type) ht hu hi hz hsize hby hown s h63 hbase;unfold Oper.wp;simp[execOp,ho,resolve,invoke,builtin,hs,hx,hr,Result.andThen];exact h v' w' h2 h3 h4
section
variable {w w':World}
theorem Ch{lo nb no f po m cap hc:Nat}{A:Option Addr}{v:Value}{xs plain sp:List UInt8}{dr:List (Nat×Nat)}{b:Nat->Int}(hrow:w.ownsRow lo 5 1 v xs.length (Lib.byteCells xs))(hlo:lo<=w.heap.size)(hx:xs.length<=10000)(hp:plain.length<=2000)(hs:sp.length<=5000)(hh:dr.length<=2000)(c1:w.cell? ⟨nb,no+1,none⟩=some (.string (ba plain)))(c2:w.cell? ⟨nb,no+2,none⟩=some (.slice A dr.length hc))(n1:v.ownBlock≠some nb)(hH:∀(i a g:Nat),dr[i]? = some (a,g)->∃hb:Nat,A=some ⟨hb,0,none⟩/\v.ownBlock≠some hb/\w.cell? ⟨hb,i*2,none⟩=some (.int .i64 a)/\w.cell? ⟨hb,i*2+1,none⟩=some (.int .i64 g)/\a<=plain.length/\2*g+1<m/\b (2*g)<=b (2*g+1)/\b (2*g+1)<=sp.length)(hO:∀(i a g a' g':Nat),dr[i]? = some (a,g)->dr[i+1]? = some (a',g')->a<=a')(n2:v.ownBlock≠some f)(hP:∀j,j<m->w.cell? ⟨f,po+j,none⟩=some (.int .i64 (b j)))(hm:m<=20):Calls Tryz.prog 156 #[v,.pointer (some ⟨nb,no,none⟩),.string (ba sp),.slice (some ⟨f,po,none⟩) m cap] w fun r w'=>∃v',r=.returned v'/\Cs lo w v xs w' v' (xs++jF plain sp b 0 dr):=by
 obtain⟨i0,hi,hz0,hz1,hz2⟩:=info_parts Tryz.infoByte;have HI:=hid (And.intro hi (And.intro hz0 (And.intro hz1 hz2)));have HH:=hid hH;have HO:=hid hO;have HP:=hid hP;have HC1:=hid c1;have G0:=hid (Cs.refl hrow hlo);clear hi hz0 hz1 hz2 hH hO hP hrow c1;go_enter Tryz.func156,Tryz.ntmps156
 go_wp2_with fail;clear c2;go_loopw [0,9,11,12,13,19] (fun va vd _ _ _ vk wr=>∃(k d:Nat) (ys:List UInt8),vk=.int .i64 k/\vd=.int .i64 d/\k<=dr.length/\d<=plain.length/\Hid (Cs lo w v xs wr va ys)/\Hid (ys++jF plain sp b d (dr.drop k)=xs++jF plain sp b 0 dr)/\Hid (ys.length<=10000+k*10000)/\Hid (∀(a g:Nat),dr[k]? = some (a,g)->d<=a)) (fun _ _ _ _ _ vk _=>dr.length-(intOf vk).toNat)
 case atStart=>exact⟨0,0,xs,rfl,rfl,by omega,by omega,G0,hid (by simp),hid (by omega),hid (fun a g _=>QG _)⟩
 case round=>
  obtain⟨k,d,ys,rfl,rfl,hk,hd,GR,HE,HY,HD⟩:=hrel;by_cases hkn:k<dr.length
  .obtain⟨⟨a,g⟩,hag⟩:∃q,dr[k]? = some q:=⟨_,QA hkn⟩;obtain⟨hb,rfl,nh,h0,h1,q1,q2,q3,q4⟩:=HH.out k a g hag;have hda:=HD.out a g hag;have e0:=GR.out.cell h0 nh;have e1:=GR.out.cell h1 nh;obtain⟨k1,hk1⟩:∃k1:Nat,(k:Int)+1=(k1:Int):=⟨k+1,by omega⟩;have wk:=aa k1 (by omega);clear h0 h1;have zp:=ay plain;have zs:=ay sp;have hap:a<=plain.length:=q1;obtain⟨P1,hP1⟩:∃P1,P1=(plain.take a).drop d:=⟨_,rfl⟩;have x1:(ba plain).extract d a=ba P1:=by rw[fu,hP1]
   have lP1:P1.length<=2000:=by rw[hP1,QZ,Re];omega
   have zP1:=ay P1;have HPP1:=hid hP1;clear hP1;have ka:=Kp.alloc [] wr (.cells #[.int .i64 a,.int .i64 g] 211);have BT:=Bl.alloc wr [.int .i64 a,.int .i64 g] 211;have G1:=hid (GR.out.aj ka);have hut:u0.ownBlock≠some wr.heap.size:=fun e=>by have:=(aA GR.out.row e).2;omega
   obtain⟨t,ht⟩:∃t,t=wr.heap.size:=⟨_,rfl⟩;obtain⟨w1,hw1⟩:∃w1,w1=wr.alloc (.cells #[.int .i64 a,.int .i64 g] 211):=⟨_,rfl⟩;go_upto_region 5 with fail
   rw[<-ht,<-hw1] at BT;rw[<-ht] at hut;rw[<-hw1] at G1 ka;rw[<-ht,<-hw1];have htw:w.heap.size<=t:=by rw[ht];exact GR.out.kp.size
   clear ht hw1 e0 e1;have hS:(fun w':World=>w'.cell? ⟨nb,no+1,none⟩=some (.string (ba plain))/\w'.cell? ⟨t,0,none⟩=some (.int .i64 (a:Int))) w1.drew:=⟨(G1.out.aj (Kp.drew [] w1)).cell HC1.out n1,(BT.aj (Kp.drew [] w1) (by simp)).at_ 0 _ rfl⟩;have GD:=hid (G1.out.aj (Kp.drew [] w1));have BD:=hid (BT.aj (Kp.drew [] w1) (by simp));refine az (fun w':World=>w'.cell? ⟨nb,no+1,none⟩=some (.string (ba plain))/\w'.cell? ⟨t,0,none⟩=some (.int .i64 (a:Int))) 11 (by kernel_rfl) ?_;obtain⟨w2,hw2⟩:∃w2,w2=w1.drew:=⟨_,rfl⟩;rw[<-hw2] at hS GD BD ⊢;clear hw2 BT ka;refine tk1 0 (v:=?_) rfl (by kernel_rfl) (fun _ _ _ h=>h) ⟨rfl,fun w hSw=>?_⟩ hS ?_;rotate_left;· ((try dsimp only at hSw);go_simp;(try with_reducible rfl))
   (try simp only[Qt,Qs,Qr,Act.put,Qq,Qu,Qv])
   refine tk1 1 (v:=?_) rfl (by kernel_rfl) (fun _ _ _ h=>h) ⟨rfl,fun w hSw=>?_⟩ hS ?_;rotate_left;· ((try dsimp only at hSw);go_simp;(try with_reducible rfl))
   (try simp only[Qt,Qs,Qr,Act.put,Qq,Qu,Qv])
   refine tk1 2 (v:=?_) rfl (by kernel_rfl) (fun _ _ _ h=>h) ⟨rfl,fun w hSw=>?_⟩ hS ?_;rotate_left;· ((try dsimp only at hSw);go_simp;(try with_reducible rfl))
   (try simp only[Qt,Qs,Qr,Act.put,Qq,Qu,Qv])
   refine tk1 3 (v:=?_) rfl (by kernel_rfl) (fun _ _ _ h=>h) ⟨rfl,fun w hSw=>?_⟩ hS ?_;rotate_left;· ((try dsimp only at hSw);go_simp;(try with_reducible rfl))
   (try simp only[Qt,Qs,Qr,Act.put,Qq,Qu,Qv])
   refine tk1 4 (v:=?_) rfl (by kernel_rfl) (fun _ _ _ h=>h) ⟨rfl,fun w hSw=>?_⟩ hS ?_;rotate_left;· ((try dsimp only at hSw);go_simp;(try with_reducible rfl))
   (try simp only[Qt,Qs,Qr,Act.put,Qq,Qu,Qv])
   refine tk1 5 (v:=?_) rfl (by kernel_rfl) (fun _ _ _ h=>h) ⟨rfl,fun w hSw=>?_⟩ hS ?_;rotate_left;· ((try dsimp only at hSw);go_simp;(try with_reducible rfl))
   (try simp only[Qt,Qs,Qr,Act.put,Qq,Qu,Qv])
   refine tk1 6 (v:=?_) rfl (by kernel_rfl) (fun _ _ _ h=>h) ⟨rfl,fun w hSw=>?_⟩ hS ?_;rotate_left;· ((try dsimp only at hSw);go_simp;(try with_reducible rfl))
   (try simp only[Qt,Qs,Qr,Act.put,Qq,Qu,Qv])
   refine tk1 7 (v:=?_) rfl (by kernel_rfl) (fun _ _ _ h=>h) ⟨rfl,fun w hSw=>?_⟩ hS ?_;rotate_left;· ((try dsimp only at hSw);go_simp;(try with_reducible rfl))
   (try simp only[Qt,Qs,Qr,Act.put,Qq,Qu,Qv])
   refine tk1 8 (v:=?_) rfl (by kernel_rfl) (fun _ _ _ h=>h) ⟨rfl,fun w hSw=>?_⟩ hS ?_;rotate_left;· ((try dsimp only at hSw);go_simp;(try with_reducible rfl))
   (try simp only[Qt,Qs,Qr,Act.put,Qq,Qu,Qv])
   refine tk1 9 (v:=?_) rfl (by kernel_rfl) (fun _ _ _ h=>h) ⟨rfl,fun w hSw=>?_⟩ hS ?_;rotate_left;· ((try dsimp only at hSw);go_simp;(try with_reducible rfl))
   (try simp only[Qt,Qs,Qr,Act.put,Qq,Qu,Qv])
   refine ai (i:=10) (by kernel_rfl) rfl (fun K hK=>?_);refine yn (by rfl) (.tmp 23) (.tmp 32) 49 9 (by rfl) lo 5 i0 Tryz.underlying49 Tryz.underlying9 HI.out.1 HI.out.2.1 HI.out.2.2.1 HI.out.2.2.2 u0 ys.length (Lib.byteCells ys) (by rfl) GD.out.row (ba P1) (by rfl) (by rw[zP1];have:=HY.out;have:=QN 10000 (show k<=1999 by omega);omega) GD.out.lo ?_;intro v3 w3 ho3 hg3 hl3;rw[ay,eN] at ho3;have G3:=hid (GD.out.more ho3 hg3 hl3);have B3:=hid (BD.out.aj (aX (S:=u0.ownBlock.toList) hg3 (fun p hp=>by rw[hp];simp)) (fun q=>hut (by simpa using q)));have hS3:(fun w':World=>w'.cell? ⟨nb,no+1,none⟩=some (.string (ba plain))/\w'.cell? ⟨t,0,none⟩=some (.int .i64 (a:Int))) w3:=⟨G3.out.cell HC1.out n1,B3.out.at_ 0 _ rfl⟩
   have hv3:Hid (v3.ownBlock≠some t):=hid (fun e=>by
    rcases hl3 t e with r|r
    .exact hut r
    .have:=BD.out.lt;omega)
   clear ho3 hg3 hl3 GD BD hS;refine hK.out _ _ (.inr hS3) ?_;clear hK K;refine ai (i:=11) (by kernel_rfl) rfl (fun K hK=>?_);go_simp;refine hK.out _ _ (.inl rfl) ?_;clear hK K;refine ax (by kernel_rfl) ?_ _;have t0:=B3.out.at_ 0 _ rfl;have t1:=B3.out.at_ 1 _ rfl;obtain⟨g2,hg2⟩:∃g2:Nat,(2:Int)*(g:Int)=(g2:Int):=⟨2*g,by push_cast;rfl⟩;obtain⟨g3,hg3⟩:∃g3:Nat,(g2:Int)+1=(g3:Int):=⟨g2+1,by omega⟩;have wg2:=aa g2 (by omega);have wg3:=aa g3 (by omega);have m2:g2<m:=by omega
   have m3:g3<m:=by omega
   have f2:=G3.out.cell (HP.out g2 m2) n2;have f3:=G3.out.cell (HP.out g3 m3) n2;have eg2:g2=2*g:=by omega
   have eg3:g3=2*g+1:=by omega
   have q3':b g2<=b g3:=by rw[eg2,eg3];exact q3
   have q4':b g3<=sp.length:=by rw[eg3];exact q4
   have EG:=hid (And.intro eg2 eg3);clear q3 q4 eg2 eg3;by_cases hneg:0<=b g2
   .obtain⟨X,hX⟩:∃X:Nat,b g2=(X:Int):=⟨(b g2).toNat,by omega⟩;obtain⟨Y,hY⟩:∃Y:Nat,b g3=(Y:Int):=⟨(b g3).toNat,by omega⟩;rw[hX] at f2 q3';rw[hY] at f3 q3' q4';have hXY:X<=Y:=by omega
    have hYs:Y<=sp.length:=by omega
    have HXY:Hid (0<=b (2*g)/\X=(b (2*g)).toNat/\Y=(b (2*g+1)).toNat):=hid ⟨by rw[<-EG.out.1];exact hneg,by rw[<-EG.out.1,hX];rfl,by rw[<-EG.out.2,hY];rfl⟩;clear q3' q4' hneg;obtain⟨P2,hP2⟩:∃P2,P2=(sp.take Y).drop X:=⟨_,rfl⟩;have x2:(ba sp).extract X Y=ba P2:=by rw[fu,hP2]
    have lP2:P2.length<=5000:=by rw[hP2,QZ,Re];omega
    have zP2:=ay P2;have HPP:=hid (And.intro HPP1.out hP2);clear hX hY hP2 hS3;go_wp2_with fail;go_quiet (fail);have G4:=hid (G3.out.aj (Kp.drewN [] w3 nq));obtain⟨w4,hw4⟩:∃w4,w4=w3.drewN nq:=⟨_,rfl⟩;rw[<-hw4] at G4 ⊢;clear hw4 t0 t1 f2 f3 G3 B3;go_wp2_with (at_builtin;refine oY rfl _ _ 49 9 rfl lo 5 i0 Tryz.underlying49 Tryz.underlying9 HI.out.1 HI.out.2.1 HI.out.2.2.1 HI.out.2.2.2 v3 (ys++P1).length (Lib.byteCells (ys++P1)) rfl G4.out.row (ba P2) rfl (by rw[zP2,Qy];have:=HY.out;have:=QN 10000 (show k<=1999 by omega);omega) G4.out.lo ?_;intro v5 w5 ho5 hg5 hl5;rw[ay,eN] at ho5)
    have G5:=hid (G4.out.more ho5 hg5 hl5);go_round
    case rel=>
     refine⟨k1,a,_,rfl,rfl,by omega,hap,G5,hid ?_,hid ?_,hid (fun a' g' h=>?_)⟩
     .rw[<-HE.out,show k1=k+1 by omega,QW hkn];have:=(List.getElem?_eq_some_iff.1 hag).2;rw[this,jF,HPP.out.1,HPP.out.2,QB HXY.out.1,HXY.out.2.1,HXY.out.2.2];simp[QJ]
     .rw[Qy,Qy];have:=HY.out;rw[show k1=k+1 by omega,QY];omega
     .exact HO.out k a g a' g' hag (by rw[<-show k1=k+1 by omega];exact h)
    case measure=>simp[intOf];omega
   .obtain⟨z2,hz2⟩:∃z2,b g2=z2:=⟨_,rfl⟩;obtain⟨z3,hz3⟩:∃z3,b g3=z3:=⟨_,rfl⟩;rw[hz2] at f2 hneg;rw[hz3] at f3;have HNG:Hid (¬0<=b (2*g)):=hid (by rw[<-EG.out.1,hz2];exact hneg);clear hz2 hz3 q3' q4' hS3;go_wp2_with fail;go_quiet (fail);have G4:=hid (G3.out.aj (Kp.drewN [] w3 nq));obtain⟨w4,hw4⟩:∃w4,w4=w3.drewN nq:=⟨_,rfl⟩;rw[<-hw4] at G4 ⊢;clear hw4 t0 t1 f2 f3 G3 B3;go_wp2_with fail;go_round
    case rel=>
     refine⟨k1,a,_,rfl,rfl,by omega,hap,G4,hid ?_,hid ?_,hid (fun a' g' h=>?_)⟩
     .rw[<-HE.out,show k1=k+1 by omega,QW hkn];have:=(List.getElem?_eq_some_iff.1 hag).2;rw[this,jF,HPP1.out,Qw (by have:=HNG.out;omega)];simp[QJ]
     .rw[Qy];have:=HY.out;rw[show k1=k+1 by omega,QY];omega
     .exact HO.out k a g a' g' hag (by rw[<-show k1=k+1 by omega];exact h)
    case measure=>simp[intOf];omega
  .have e:k=dr.length:=by omega
   subst e;have zp:=ay plain;have c1:=GR.out.cell HC1.out n1;obtain⟨P1,hP1⟩:∃P1,P1=plain.drop d:=⟨_,rfl⟩;have x1:(ba plain).extract d plain.length=ba P1:=by rw[fu,hP1,Rq]
   have lP1:P1.length<=2000:=by rw[hP1,QZ];omega
   have zP1:=ay P1;have HPP:=hid hP1;clear hP1;go_wp2_with (at_builtin;refine oY rfl _ _ 49 9 rfl lo 5 i0 Tryz.underlying49 Tryz.underlying9 HI.out.1 HI.out.2.1 HI.out.2.2.1 HI.out.2.2.2 u0 ys.length (Lib.byteCells ys) rfl GR.out.row (ba P1) rfl (by rw[zP1];have:=HY.out;have:=QN 10000 (show dr.length<=2000 by omega);omega) GR.out.lo ?_;intro v5 w5 ho5 hg5 hl5;rw[ay,eN] at ho5)
   have G5:=hid (GR.out.more ho5 hg5 hl5);go_ret;refine⟨v5,rfl,?_⟩;have he:=HE.out;rw[Sy,jF,<-HPP.out] at he;rw[<-he];exact G5.out
end
