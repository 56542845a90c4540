import Derived.Test.YtnfglkdkmcocnaaGreatDoorR39
set_option maxRecDepth 100000
set_option maxHeartbeats 16000000
set_option linter.all false
namespace Go.Proofs.YtnfglkdkmcocnaaGreatDoor
open Go.RowKit
section
variable {w0 w w' w1:World} {B b q:Nat} {src:ByteArray} {k g:Nat} {bad:Int} {v v' v1:Value} {N:List Nw}
theorem fBrF_len:∀ (l:List Fm) (n d e:Nat),(∀ f∈l,∀ n d,(f.2 n d).length=f.1)→(fBrF l n d e).length=fLen l+2 * l.length
 | [],n,d,e,_=>rfl
 | p::l,n,d,e,h=>by
  have ih:=fBrF_len l (n+p.1+2) d e fun f hf=>h f (by simp [hf])
  have e1:fLen (p::l)=p.1+fLen l:=by simp [fLen]
  show (_::(_++(_::fBrF l (n+p.1+2) d e)):List In).length=_
  rw [List.length_cons,List.length_append,List.length_cons,ih,h p (by simp),e1,List.length_cons];omega
def brP (fs:List Fm) (t n d e:Nat):List In:=if t < fs.length then fBrF (fs.take t) n d e else fBrs fs n d e
theorem steps_brs {i d:Nat} {p:Nw} {ov:Value} {ss:List Sv} (hP:Ps w0 B b q src k g bad v N) (k0:Kp [] w0 w) (hi:N[i]? = some p) (hN:N.length≤1000) (o:Os w w0.heap.size ov ss) {fs:List Fm} (hk:p.1.kind=6) (hl:p.1.kids.length=fs.length) (hl0:0 < fs.length) (hl1:fs.length≤1000) (hKid:∀ (t j:Nat) (f:Fm),p.1.kids[t]? = some j→fs[t]? = some f→StC w0 q j f) (hll:ss.length+(fLen fs+2 * (fs.length - 1))≤100000) (hd:d+fLen fs≤100000) :
  Calls Tryz.prog 70 #[.pointer (some ⟨q,0,none⟩),ov,.int .i64 (i:Nat),.int .i64 (d:Nat)] w (StO w w0.heap.size ov ss (fBrs fs ss.length d (ss.length+(fLen fs+2 * (fs.length - 1))))):=by
 have hPw:=hP.keep k0
 obtain ⟨gb,cg,hv,hlt,hcg,hcell⟩:=hPw.nodes hi
 obtain ⟨cn,hcn⟩:∃ cn,cn=ndC p.1 p.2:=⟨_,rfl⟩
 have hcl:cn.length=262:=by rw [hcn];exact ndC_len _ _
 have hc1:∀ u∈cn,u.oneCell'=true:=by rw [hcn];exact ndC_one _ (hPw.kd p (List.mem_of_getElem? hi)).one
 have RG:Hid (w.rangeAt gb (i * 262) cn):=hid (fun j u hu=>hcell j u (by rw [←hcl];exact (List.getElem?_eq_some_iff.1 hu).1) (by rw [←hcn];exact hu))
 have q0:=hPw.q0
 rw [hv] at q0
 have qi:(i:Int) < (N.length:Int):=by omega
 have qi0:(0:Int)≤(i:Int):=by omega
 have hA:=ndC_at p.1 p.2
 rw [←hcn] at hA
 obtain ⟨ka,kc,hkf,hkc⟩:=hP.kids hi
 rw [hkf] at hA
 have HA:=hid hA
 have HK:=hid hkc
 obtain ⟨xb,hxb⟩:∃ xb,xb=w.heap.size:=⟨_,rfl⟩
 obtain ⟨oa,oc,hof⟩:=o.form
 have HO:=hid (And.intro o (And.intro k0 (fun g (hg:ov.ownBlock=some g)=>o.lt g hg)))
 subst hof
 clear hkc hkf
 have HKid:=hid hKid
 have HLN:Hid (∀ f∈fs,∀ n d,(f.2 n d).length=f.1):=hid (fun f hf=>by
  obtain ⟨t,ht⟩:=List.getElem?_of_mem hf
  exact (hKid t _ f (List.getElem?_eq_getElem (by rw [hl];exact (List.getElem?_eq_some_iff.1 ht).1)) ht).1)
 clear hKid
 rw [hl] at HA
 obtain ⟨ee,hee⟩:∃ ee,ee=ss.length+(fLen fs+2 * (fs.length - 1)):=⟨_,rfl⟩
 rw [←hee]
 have HEE:=hid hee
 rw [←hee] at hll
 clear hee
 clear hcell hP hPw hi hv hA hcn o
 go_enter Tryz.func70,Tryz.ntmps70
 go_upto_region 2 with (first | (show wpList _ _ _ (⟨_,.load 192 _,_,_,_,_⟩::_) _ _;refine wpList_load_mid rfl 192 (.tmp 25) rfl gb (i * 262) rfl cn _ RG.out Tryz.underlying192 rfl (by rw [hcl];exact Tryz.szNodeR) ?_) | (show wpList _ _ _ (⟨_,.store 192 _ _,_,_,_,_⟩::_) _ _;refine newVarR (w1:=w) rfl 192 (.tmp 9) (.tmp 26) rfl Tryz.zeroCells192.toList 192 cn rfl rfl (by rw [hcl];kernel_rfl) (by rw [hcl];exact Tryz.szNodeR) hc1 ?_;intro wA bA kA))
 rw [←hxb] at bA ⊢
 have HX:Hid (Hx w0 w wA (.slice oa ss.length oc) xb cn):=hid ⟨bA,kA,HO.out.2.1,hxb,HO.out.2.2⟩
 have G0:=hid (HX.out.start HO.out.1)
 have c0:=bA.at_ 0 _ HA.out.1
 clear bA kA hxb RG q0 qi qi0
 rw [hk] at c0
 go_wp2_with fail
 go_loopw [1,11,12] (fun ox ev kx wr=>∃ (t:Nat) (a:Option Addr) (c:Nat) (s2 ss2:List Sv) (es:List Nat) (ea:Option Addr) (ec:Nat),t≤fs.length∧kx=.int .i64 t∧ox=.slice a s2.length c∧ev=.slice ea es.length ec∧Hid (s2=ss++ss2∧SvE 7 ss.length ee es ss2 (brP fs t ss.length d ee)∧es.length≤t∧Gs wA w0.heap.size (.slice oa ss.length oc) wr (.slice a s2.length c) s2∧En wA.heap.size wr (.slice a s2.length c) (.slice ea es.length ec) es)) (fun _ _ kx _=>2000 - (intOf kx).toNat)
 case atStart=>exact ⟨0,oa,oc,ss,[],[],none,0,Nat.zero_le _,rfl,rfl,rfl,hid ⟨by simp,by rw [brP,if_pos hl0];exact SvE.nil _ _ _,Nat.le_refl _,G0.out,En.nil _ _ _⟩⟩
 case round=>
  obtain ⟨t,a2,c2,s2,ss2,es,ea,ec,ht,rfl,rfl,rfl,HR⟩:=hrel
  have dk:=(HX.out.bl' HR.out.2.2.2.1).at_ 260 _ HA.out.2.2.2.2.2.1
  have hd1:IntKind.i64.wrap ((fs.length:Int) - 1)=(fs.length:Int) - 1:=by rw [IntKind.wrap_i64];omega
  by_cases htl:t < fs.length
  ·have q1:(t:Int) < (fs.length:Int):=by omega
   have q2:(0:Int)≤(t:Int):=by omega
   have hc1':IntKind.i64.wrap ((t:Int)+1)=((t+1:Nat):Int):=wrap_i64_succ t (t+1) rfl (by omega)
   obtain ⟨f,hf⟩:∃ f,fs[t]? = some f:=⟨_,List.getElem?_eq_getElem htl⟩
   obtain ⟨j,hj⟩:∃ j,p.1.kids[t]? = some j:=⟨_,List.getElem?_eq_getElem (by omega)⟩
   obtain ⟨gk,e1,e2,e3⟩:=HK.out t j hj
   have dj:=((HX.out.kp HR.out.2.2.2.1).cell (p:=⟨gk,t,none⟩) e2 (by simp)).trans e3
   rw [e1] at dk
   have hb1:fLen (fs.take t)+f.1≤fLen fs:=by
    have:=fLen_take fs (t+1)
    rw [take_snocJ hf,fLen_snoc] at this
    exact this
   have hln2:s2.length=ss.length+(fLen (fs.take t)+2 * t):=by
    obtain ⟨z1,z2,_⟩:=HR.out
    have:=z2.len
    rw [brP,if_pos htl,fBrF_len _ _ _ _ fun f hf=>HLN.out f (List.mem_of_mem_take hf),List.length_take,Nat.min_eq_left ht] at this
    rw [z1,List.length_append,this]
   have HF:=hid (And.intro hf (And.intro hj (And.intro hln2 (And.intro e1 (And.intro e2 e3)))))
   have l2b:s2.length+f.1+2≤100000+2∧s2.length≤100000:=by have:=HEE.out;omega
   obtain ⟨l2b,l2c⟩:=l2b
   clear hf hj e1 e2 e3 hln2
   by_cases htm:t+1 < fs.length
   ·have q3:(t:Int) < (fs.length:Int) - 1:=by omega
    have l2d:s2.length+f.1+2≤100000:=by have:=HF.out.2.2.1;have:=HEE.out;omega
    obtain ⟨lx,hlx⟩:∃ lx,lx=s2.length+1:=⟨_,rfl⟩
    have hw1:IntKind.i64.wrap ((s2.length:Int)+1)=(lx:Int):=by rw [hlx];exact wrap_i64_succ s2.length (s2.length+1) rfl (by omega)
    have HBL:Hid (Tryz.prog.built 186 [(0,.int .i64 11),(3,.int .i64 (lx:Int))]=some (svC ⟨11,noBytes,0,lx,0,0⟩).toArray):=hid (built_fork (lx:Int))
    have HLX:=hid hlx
    have GS:=hid HR.out.2.2.2.1.self
    clear hlx
    go_upto_region 25 with (show wpList _ _ _ (⟨_,.build 186 _,_,_,_,_⟩::_) _ _;refine wpList_push rfl rfl rfl [(0,.const (.int .i64 11)),(3,.tmp 114)] rfl (.tmp 115) rfl (.tmp 112) (.tmp 116) rfl _ ⟨11,noBytes,0,lx,0,0⟩ rfl HBL.out (fun _=>rfl) (fun _ _=>rfl) (fun _ _=>rfl) GS.out (by omega) ?_)
    intro gb3 c3 s3 w3 cc hs3 G3
    have HS3:Hid (s3=s2++[⟨11,noBytes,0,lx,0,0⟩]∧s3.length=s2.length+1∧Gs wr w0.heap.size (.slice a2 s2.length c2) w3 (.slice (some ⟨gb3,0,none⟩) s3.length c3) s3∧Gs wA w0.heap.size (.slice oa ss.length oc) w3 (.slice (some ⟨gb3,0,none⟩) s3.length c3) s3):=hid ⟨hs3,by rw [hs3,List.length_append];rfl,G3,HR.out.2.2.2.1.trans G3⟩
    have dk:=(HX.out.bl' HS3.out.2.2.2).at_ 260 _ HA.out.2.2.2.2.2.1
    have dj:=((HX.out.kp HS3.out.2.2.2).cell (p:=⟨gk,t,none⟩) HF.out.2.2.2.2.1 (by simp)).trans HF.out.2.2.2.2.2
    rw [HF.out.2.2.2.1] at dk
    clear hs3 G3 hw1
    go_wp2_with fail
    refine ((HKid.out t j f HF.out.2.1 HF.out.1).go2 (HX.out.kp HS3.out.2.2.2) HS3.out.2.2.2 (by have:=HS3.out.2.1;omega) (by omega)).mono ?_
    rintro e w4 ⟨a4,c4,s4,ss4,rfl,hs4,hS4,hl4,G4⟩
    have HS4:=hid (And.intro hs4 (And.intro hS4 (And.intro hl4 (And.intro G4 (HS3.out.2.2.2.trans G4)))))
    have dk:=(HX.out.bl' HS4.out.2.2.2.2).at_ 260 _ HA.out.2.2.2.2.2.1
    have HEN:=hid ((HR.out.2.2.2.2.step HS3.out.2.2.1).step G4)
    have hes:es.length≤1000:=by have:=HR.out.2.2.1;omega
    clear hs4 hS4 hl4 G4 dj
    go_upto_region 28 with (at_builtin;refine wpList_pushI rfl (.tmp 133) (.tmp 136) rfl s4.length rfl rfl HEN.out HS4.out.2.2.2.2 (by omega) ?_)
    intro gb5 c5 es5 w5 hes5 E5 G5
    have HS5:=hid (And.intro hes5 (And.intro E5 G5))
    have GS5:=hid G5.self
    have l4b:s4.length≤100002:=by have:=HS4.out.2.2.1;have:=HS3.out.2.1;omega
    have HB6:Hid (Tryz.prog.built 186 [(0,.int .i64 11)]=some (svC ⟨11,noBytes,0,0,0,0⟩).toArray):=hid built_fork0
    clear hes5 E5 G5 HEN
    go_upto_region 29 with (show wpList _ _ _ (⟨_,.build 186 _,_,_,_,_⟩::_) _ _;refine wpList_push rfl rfl rfl [(0,.const (.int .i64 11))] rfl (.tmp 139) rfl (.tmp 138) (.tmp 140) rfl _ ⟨11,noBytes,0,0,0,0⟩ rfl HB6.out (fun _=>rfl) (fun _ _=>rfl) (fun _ _=>rfl) GS5.out (by omega) ?_)
    intro gb6 c6 s6 w6 cc6 hs6 G6
    have es6:s6=s2++(⟨11,noBytes,0,lx,0,0⟩::(ss4++[⟨11,noBytes,0,0,0,0⟩])):=by rw [hs6,HS4.out.1,HS3.out.1];simp only [List.append_assoc,List.cons_append,List.nil_append]
    have hl6:s6.length=s4.length+1:=by rw [hs6,List.length_append];rfl
    have g6:s6[s2.length]? = some ⟨11,noBytes,0,lx,0,0⟩:=by rw [es6,List.getElem?_append_right (Nat.le_refl _),Nat.sub_self];rfl
    have dy:=G6.cell g6 (svC_at _).2.2.2.2.1
    have fy:=G6.os.frozenAt (s2.length * 261+259)
    have q6:(s2.length:Int) < (s6.length:Int):=by have:=HS4.out.2.2.1;have:=HS3.out.2.1;omega
    have q60:(0:Int)≤(s2.length:Int):=by omega
    obtain ⟨w7,hw7⟩:∃ w7,w7=w6.setCell ⟨gb6,s2.length * 261+259,none⟩ (.int .i64 (s6.length:Nat)):=⟨_,rfl⟩
    have G7:=G6.self.set (i:=s2.length) (j:=259) (s':=⟨11,noBytes,0,lx,s6.length,0⟩) rfl g6 (by decide) (svC_y ⟨11,noBytes,0,lx,0,0⟩ s6.length)
    rw [←hw7] at G7
    have HS7:=hid (And.intro es6 (And.intro hl6 (And.intro G6 G7)))
    clear hs6 es6 hl6 g6 G6 G7
    go_upto_region 21 with fail
    rw [←hw7]
    clear hw7 dy fy
    go_wp2_with fail
    go_roundw
    ·obtain ⟨es6,hl6,G6,G7⟩:=HS7.out
     obtain ⟨hes5,E5,G5⟩:=HS5.out
     obtain ⟨hs4,hS4,hl4,G4,_⟩:=HS4.out
     obtain ⟨hs3,hl3,G3,_⟩:=HS3.out
     obtain ⟨hs2,hS2,hes2,G2,E2⟩:=HR.out
     obtain ⟨hf,hj,hln2,_⟩:=HF.out
     have e7:∀ y,s6.set s2.length ⟨11,noBytes,0,lx,y,0⟩=ss++(((ss2++[⟨11,noBytes,0,lx,y,0⟩])++ss4)++[⟨11,noBytes,0,0,0,0⟩]):=fun y=>by
      rw [es6,set_mid,hs2]
      simp only [List.append_assoc,List.cons_append,List.nil_append]
     have hlen:(s6.set s2.length ⟨11,noBytes,0,lx,s6.length,0⟩).length=s6.length:=List.length_set
     have hz:ss2.length=fLen (fs.take t)+2 * t:=by rw [hs2,List.length_append] at hln2;omega
     refine ⟨t+1,some ⟨gb6,0,none⟩,c6,s6.set s2.length ⟨11,noBytes,0,lx,s6.length,0⟩,_,es5,some ⟨gb5,0,none⟩,c5,by omega,by go_num,by rw [hlen],rfl,hid ⟨e7 _,?_,by rw [hes5,List.length_append];show es.length+1≤_;omega,?_,?_⟩⟩
     ·rw [brP,if_pos htm,take_snocJ hf,fBrF_snoc,List.length_take,Nat.min_eq_left ht,hes5]
      rw [brP,if_pos htl] at hS2
      rw [hl3,hln2] at hS4
      have hx:=HLX.out
      rw [List.append_assoc ss2]
      have hF:SvI ⟨11,noBytes,0,lx,s6.length,0⟩ (noIn 4 (ss.length+(fLen (fs.take t)+2 * t)+1) (ss.length+(fLen (fs.take t)+2 * t)+f.1+2) 0 0):=⟨rfl,by show lx=ss.length+(fLen (fs.take t)+2 * t)+1;omega,by show s6.length=ss.length+(fLen (fs.take t)+2 * t)+f.1+2;omega,rfl⟩
      have hZ:=SvE.late (x:=s4.length) (s:=⟨11,noBytes,0,0,0,0⟩) (i:=noIn 7 ee ee 0 0) (hS2.app ((SvL.one hF).app hS4)) ⟨rfl,rfl,rfl,fun _=>rfl,fun q=>by cases q⟩ (by
       rw [hs4,hs3,hs2];simp only [List.length_append,List.length_cons,List.length_nil];omega)
      rw [List.append_assoc (fBrF _ _ _ _)] at hZ
      exact hZ
     ·rw [hlen];exact (G5.trans G6).trans G7
     ·rw [hlen];exact (E5.step G6).step G7
    ·simp [intOf];omega
   ·have q3:¬ (t:Int) < (fs.length:Int) - 1:=by omega
    have l2d:s2.length+f.1≤100000:=by have:=HF.out.2.2.1;have:=HEE.out;omega
    go_wp2_with fail
    refine ((HKid.out t j f HF.out.2.1 HF.out.1).go2 (HX.out.kp HR.out.2.2.2.1) HR.out.2.2.2.1 (by omega) (by omega)).mono ?_
    rintro e w4 ⟨a4,c4,s4,ss4,rfl,hs4,hS4,hl4,G4⟩
    have HS4:=hid (And.intro hs4 (And.intro hS4 (And.intro hl4 (And.intro G4 (HR.out.2.2.2.1.trans G4)))))
    have dk:=(HX.out.bl' HS4.out.2.2.2.2).at_ 260 _ HA.out.2.2.2.2.2.1
    clear hs4 hS4 hl4 G4 dj
    go_wp2_with fail
    go_roundw
    ·obtain ⟨hs4,hS4,hl4,G4,GT⟩:=HS4.out
     obtain ⟨hs2,hS2,hes2,G2,E2⟩:=HR.out
     obtain ⟨hf,hj,hln2,_⟩:=HF.out
     refine ⟨t+1,a4,c4,s4,ss2++ss4,es,ea,ec,by omega,by go_num,rfl,rfl,hid ⟨by rw [hs4,hs2,List.append_assoc],?_,by omega,GT,E2.step G4⟩⟩
     have efs:fs=fs.take t++[f]:=by rw [←take_snocJ hf,List.take_of_length_le (by omega)]
     have hlt:(fs.take t).length=t:=by rw [List.length_take,Nat.min_eq_left ht]
     have e9:brP fs (t+1) ss.length d ee=fBrF (fs.take t) ss.length d ee++f.2 (ss.length+(fLen (fs.take t)+2 * t)) d:=by
      rw [brP,if_neg htm]
      conv=>lhs;rw [efs]
      rw [fBrs_snoc,hlt]
     rw [e9]
     rw [brP,if_pos htl] at hS2
     rw [hln2] at hS4
     exact hS2.app hS4
    ·simp [intOf];omega
  ·have q1:¬ (t:Int) < (fs.length:Int):=by omega
   have et:t=fs.length:=by omega
   subst et
   obtain ⟨hs2,hS2,hes2,G2,E2⟩:=HR.out
   rw [brP,if_neg (Nat.lt_irrefl _)] at hS2
   have hln:s2.length=ee:=by
    obtain ⟨r,hr⟩:∃ r,fs.length=r+1:=⟨fs.length - 1,by omega⟩
    obtain ⟨f,hf⟩:∃ f,fs[r]? = some f:=⟨_,List.getElem?_eq_getElem (by omega)⟩
    have efs:fs=fs.take r++[f]:=by rw [←take_snocJ hf,List.take_of_length_le (by omega)]
    have hlt:(fs.take r).length=r:=by rw [List.length_take,Nat.min_eq_left (by omega)]
    have h1:=hS2.len
    rw [efs,fBrs_snoc,List.length_append,fBrF_len _ _ _ _ (fun f hf=>HLN.out f (List.mem_of_mem_take hf)),HLN.out f (List.mem_of_getElem? hf),hlt] at h1
    have h2:fLen fs=fLen (fs.take r)+f.1:=by conv=>lhs;rw [efs,fLen_snoc]
    have h3:=HEE.out
    rw [hs2,List.length_append,h1,h3,h2,hr];omega
   have HQ:=hid (And.intro hs2 (And.intro hS2 (And.intro G2 (And.intro E2 hln))))
   have hes:es.length≤1000:=by omega
   clear hs2 hS2 hes2 G2 E2 hln HR
   go_wp2_with fail
   go_loopw [14] (fun kx wr2=>∃ (u:Nat) (s3 ss3:List Sv),u≤es.length∧kx=.int .i64 u∧Hid (s3=ss++ss3∧s3.length=s2.length∧SvE 7 ss.length ee (es.drop u) ss3 (fBrs fs ss.length d ee)∧Gs wA w0.heap.size (.slice oa ss.length oc) wr2 (.slice a2 s2.length c2) s3∧En wA.heap.size wr2 (.slice a2 s2.length c2) (.slice ea es.length ec) es)) (fun kx _=>2000 - (intOf kx).toNat)
   case atStart=>exact ⟨0,s2,ss2,Nat.zero_le _,rfl,hid ⟨HQ.out.1,rfl,HQ.out.2.1,HQ.out.2.2.1,HQ.out.2.2.2.1⟩⟩
   case round=>
    obtain ⟨u,s3,ss3,hu,rfl,HU⟩:=hrel
    by_cases hul:u < es.length
    ·have q2:(u:Int) < (es.length:Int):=by omega
     have q20:(0:Int)≤(u:Int):=by omega
     have hc2':IntKind.i64.wrap ((u:Int)+1)=((u+1:Nat):Int):=wrap_i64_succ u (u+1) rfl (by omega)
     obtain ⟨x,hx⟩:∃ x,es[u]? = some x:=⟨_,List.getElem?_eq_getElem hul⟩
     obtain ⟨hs3,hl3,hS3,G3,E3⟩:=HU.out
     have edr:es.drop u=x::es.drop (u+1):=by rw [List.drop_eq_getElem_cons hul,(List.getElem?_eq_some_iff.1 hx).2]
     rw [edr] at hS3
     have hbx:=hS3.bnd x (by simp)
     obtain ⟨gk,kc2,e1,dx⟩:=E3.at_ hx
     obtain ⟨rfl,rfl⟩:ea=some ⟨gk,0,none⟩∧ec=kc2:=by injection e1 with z1 _ z3;exact ⟨z1,z3⟩
     have hl3':s3.length=ss.length+ss3.length:=by rw [hs3,List.length_append]
     obtain ⟨s,hs⟩:∃ s,s3[x]? = some s:=⟨_,List.getElem?_eq_getElem (by omega)⟩
     have hsr:ss3[x - ss.length]? = some s:=by rw [hs3,List.getElem?_append_right hbx.1] at hs;exact hs
     obtain ⟨gbx,hgb⟩:∃ gb,a2=some ⟨gb,0,none⟩:=by
      rcases G3.os.2 with ⟨_,z2⟩ | ⟨gb,_,_,z1,_⟩
      ·omega
      ·injection z1 with z1;exact ⟨gb,z1⟩
     subst hgb
     have hlx:s2.length=s3.length:=hl3.symm
     have fr:∀ j,wr.frozen? ⟨gbx,j,none⟩=false:=fun j=>by
      have z:=G3.os
      rw [hlx] at z
      exact z.frozenAt j
     have dX:=G3.cell hs (svC_at _).2.2.2.1
     have fX:=fr (x * 261+258)
     have q3:(x:Int) < (s2.length:Int):=by omega
     have q30:(0:Int)≤(x:Int):=by omega
     obtain ⟨w4,hw4⟩:∃ w4,w4=wr.setCell ⟨gbx,x * 261+258,none⟩ (.int .i64 (s2.length:Nat)):=⟨_,rfl⟩
     have G4:=G3.self.set (i:=x) (j:=258) (s':={ s with x:=s2.length }) hlx hs (by decide) (svC_x s s2.length)
     rw [←hw4] at G4
     have g4:(s3.set x { s with x:=s2.length })[x]? = some { s with x:=s2.length }:=List.getElem?_set_self (by omega)
     have hlx4:s2.length=(s3.set x { s with x:=s2.length }).length:=by rw [List.length_set];exact hlx
     have dY:=G4.cell g4 (svC_at _).2.2.2.2.1
     have fY:w4.frozen? ⟨gbx,x * 261+259,none⟩=false:=by rw [hw4];simpa using fr (x * 261+259)
     obtain ⟨w5,hw5⟩:∃ w5,w5=w4.setCell ⟨gbx,x * 261+259,none⟩ (.int .i64 (s2.length:Nat)):=⟨_,rfl⟩
     have G5:=G4.self.set (i:=x) (j:=259) (s':={ s with x:=s2.length,y:=s2.length }) hlx4 g4 (by decide) (svC_y { s with x:=s2.length } s2.length)
     rw [←hw5,List.set_set] at G5
     have E4:=E3.step G4
     obtain ⟨_,_,e2,dx4⟩:=E4.at_ hx
     injection e2 with e2 _ _
     injection e2 with e2
     injection e2 with e2
     rw [←e2] at dx4
     have HZ:=hid (And.intro hs3 (And.intro hS3 (And.intro hbx (And.intro hsr (And.intro (G3.trans G4 |>.trans G5) (E4.step G5))))))
     have HLL:=hid hlx
     clear hs3 hl3 hS3 G3 E3 edr hbx hl3' hs hsr G4 g4 hlx4 G5 E4 e1 e2 fr hx hlx
     go_upto_region 34 with fail
     rw [←hw4]
     clear dX fX hw4 dx
     go_upto_region 32 with fail
     rw [←hw5]
     clear dY fY hw5 dx4
     go_wp2_with fail
     go_roundw
     ·obtain ⟨hs3,hS3,hbx,hsr,G5,E5⟩:=HZ.out
      refine ⟨u+1,s3.set x { s with x:=s2.length,y:=s2.length },ss3.set (x - ss.length) { s with x:=s2.length,y:=s2.length },by omega,by go_num,hid ⟨by rw [hs3,List.set_append_right _ _ hbx.1],by rw [List.length_set];exact HLL.out.symm,hS3.write hsr fun i hi=>?_,G5,E5⟩⟩
      obtain ⟨z1,z2,z3,z4,_⟩:=hi
      have z4:=z4 rfl
      have hee:=HQ.out.2.2.2.2
      refine ⟨?_,z1,z2,z3,fun _=>z4,fun q=>by cases q⟩
      unfold SvI
      rw [z3]
      exact ⟨z1,by show s2.length=i.nx;omega,by show s2.length=i.nx;omega,z2⟩
     ·simp [intOf];omega
    ·have q2:¬ (u:Int) < (es.length:Int):=by omega
     go_wp2_with fail
     go_ret
     obtain ⟨hs3,hl3,hS3,G3,E3⟩:=HU.out
     rw [List.drop_of_length_le (by omega)] at hS3
     rw [hs3] at G3
     exact HX.out.out G3 hS3.done
end
