import Derived.Test.YtnfglkdkmcocnaaGreatDoorR39
set_option maxRecDepth 100000
set_option maxHeartbeats 16000000
set_option linter.all false
namespace Go.Proofs.YtnfglkdkmcocnaaGreatDoor
open Go.RowKit
section
variable {w0 w w' w1:World} {B b q:Nat} {src:ByteArray} {k g:Nat} {bad:Int} {v v' v1:Value} {N:List Nw}
theorem steps_upto {i d:Nat} {p:Nw} {ov:Value} {ss:List Sv} (hP:Ps w0 B b q src k g bad v N) (k0:Kp [] w0 w) (hi:N[i]? = some p) (hN:N.length≤1000) (o:Os w w0.heap.size ov ss) {a j:Nat} {f:Fm} (hk:p.1.kind=7) (ha:p.1.least=(a:Int)) (ha2:a≤20) {m:Nat} (hb:p.1.most=(m:Int)) (ham:a≤m) (hm:m≤20) (hll:ss.length+(a * f.1+(m - a) * (f.1+1))≤100000) (hd:d+(a * f.1+(m - a) * (f.1+1))≤100000) (hks:p.1.kids=[j]) (hKid:StC w0 q j f) :
  Calls Tryz.prog 70 #[.pointer (some ⟨q,0,none⟩),ov,.int .i64 (i:Nat),.int .i64 (d:Nat)] w (StO w w0.heap.size ov ss (fRep f.1 f.2 a (some m) ss.length d)):=by
 have hPw:=hP.keep k0
 obtain ⟨gb,cg,hv,hlt,hcg,hcell⟩:=hPw.nodes hi
 obtain ⟨cn,hcn⟩:∃ cn,cn=ndC p.1 p.2:=⟨_,rfl⟩
 have hcl:cn.length=262:=by rw [hcn];exact ndC_len _ _
 have hc1:∀ u∈cn,u.oneCell'=true:=by rw [hcn];exact ndC_one _ (hPw.kd p (List.mem_of_getElem? hi)).one
 have RG:Hid (w.rangeAt gb (i * 262) cn):=hid (fun j u hu=>hcell j u (by rw [←hcl];exact (List.getElem?_eq_some_iff.1 hu).1) (by rw [←hcn];exact hu))
 have q0:=hPw.q0
 rw [hv] at q0
 have qi:(i:Int) < (N.length:Int):=by omega
 have qi0:(0:Int)≤(i:Int):=by omega
 have hA:=ndC_at p.1 p.2
 rw [←hcn] at hA
 obtain ⟨ka,kc,hkf,hkc⟩:=hP.kids hi
 rw [hkf] at hA
 have HA:=hid hA
 have HK:=hid hkc
 obtain ⟨xb,hxb⟩:∃ xb,xb=w.heap.size:=⟨_,rfl⟩
 obtain ⟨oa,oc,hof⟩:=o.form
 have HO:=hid (And.intro o (And.intro k0 (fun g (hg:ov.ownBlock=some g)=>o.lt g hg)))
 subst hof
 clear hkc hkf
 have HKid:=hid hKid
 clear hKid
 clear hcell hP hPw hi hv hA hcn o
 go_enter Tryz.func70,Tryz.ntmps70
 go_upto_region 2 with (first | (show wpList _ _ _ (⟨_,.load 192 _,_,_,_,_⟩::_) _ _;refine wpList_load_mid rfl 192 (.tmp 25) rfl gb (i * 262) rfl cn _ RG.out Tryz.underlying192 rfl (by rw [hcl];exact Tryz.szNodeR) ?_) | (show wpList _ _ _ (⟨_,.store 192 _ _,_,_,_,_⟩::_) _ _;refine newVarR (w1:=w) rfl 192 (.tmp 9) (.tmp 26) rfl Tryz.zeroCells192.toList 192 cn rfl rfl (by rw [hcl];kernel_rfl) (by rw [hcl];exact Tryz.szNodeR) hc1 ?_;intro wA bA kA))
 rw [←hxb] at bA ⊢
 have HX:Hid (Hx w0 w wA (.slice oa ss.length oc) xb cn):=hid ⟨bA,kA,HO.out.2.1,hxb,HO.out.2.2⟩
 have G0:=hid (HX.out.start HO.out.1)
 have c0:=bA.at_ 0 _ HA.out.1
 clear bA kA hxb RG q0 qi qi0
 rw [hk] at c0
 have dl0:=HX.out.bl.at_ 258 _ HA.out.2.2.2.1
 rw [ha] at dl0
 have hal:∀ t,t < a→(t+1) * f.1≤a * f.1:=fun t ht=>Nat.mul_le_mul_right _ ht
 have HAL:=hid hal
 clear hal
 go_wp2_with fail
 go_loopw [1,15] (fun ox kx wr=>∃ (t:Nat) (a1:Option Addr) (c:Nat) (s2 ss2:List Sv),t≤a∧kx=.int .i64 t∧ox=.slice a1 s2.length c∧Hid (s2=ss++ss2∧SvL ss2 (fTimes f.1 f.2 t ss.length d)∧s2.length=ss.length+t * f.1∧Gs wA w0.heap.size (.slice oa ss.length oc) wr (.slice a1 s2.length c) s2)) (fun _ kx _=>2000 - (intOf kx).toNat)
 case atStart=>exact ⟨0,oa,oc,ss,[],Nat.zero_le _,rfl,rfl,hid ⟨by simp,SvL.nil,by simp,G0.out⟩⟩
 case round=>
  obtain ⟨t,a2,c2,s2,ss2,ht,rfl,rfl,HR⟩:=hrel
  have dl:=(HX.out.bl' HR.out.2.2.2).at_ 258 _ HA.out.2.2.2.1
  rw [ha] at dl
  by_cases htl:t < a
  ·have q1:(t:Int) < (a:Int):=by omega
   have q2:(0:Int)≤(t:Int):=by omega
   have hc1':IntKind.i64.wrap ((t:Int)+1)=((t+1:Nat):Int):=wrap_i64_succ t (t+1) rfl (by omega)
   have dk:=(HX.out.bl' HR.out.2.2.2).at_ 260 _ HA.out.2.2.2.2.2.1
   obtain ⟨gk,e1,e2,e3⟩:=HK.out 0 j (by rw [hks];rfl)
   have dj:=((HX.out.kp HR.out.2.2.2).cell (p:=⟨gk,0,none⟩) e2 (by simp)).trans e3
   rw [e1,hks] at dk
   have dk:wr.cell? ⟨xb,260,none⟩=some (.slice (some ⟨gk,0,none⟩) 1 kc):=dk
   have hb1:(t+1) * f.1≤a * f.1:=HAL.out t htl
   have hb2:t * f.1+f.1≤a * f.1:=by rw [Nat.add_mul] at hb1;omega
   clear e1 e2 e3 hb1
   go_wp2_with fail
   refine (HKid.out.go HX.out HR.out.2.2.2 (by have:=HR.out.2.2.1;omega) (by omega)).mono ?_
   rintro e w3 ⟨a3,c3,s3,ss3,rfl,hs3,hS3,hl3,G3⟩
   have H3:=hid (And.intro hs3 (And.intro hS3 (And.intro hl3 G3)))
   clear hs3 hS3 hl3 G3 dk dj dl
   go_wp2_with fail
   go_roundw
   ·obtain ⟨hs3,hS3,hl3,G3⟩:=H3.out
    obtain ⟨hs2,hS2,hl2,G2⟩:=HR.out
    rw [hl2] at hS3
    refine ⟨t+1,a3,c3,s3,ss2++ss3,by omega,by go_num,rfl,hid ⟨by rw [hs3,hs2,List.append_assoc],?_,by rw [Nat.add_mul];omega,G3⟩⟩
    rw [fTimes_snoc]
    exact hS2.app hS3
   ·simp [intOf];omega
  ·have q1:¬ (t:Int) < (a:Int):=by omega
   have et:t=a:=by omega
   subst et
   have dm:=(HX.out.bl' HR.out.2.2.2).at_ 259 _ HA.out.2.2.2.2.1
   rw [hb] at dm
   have hm0:¬ (m:Int) < 0:=by omega
   obtain ⟨n0,hn0⟩:∃ n0,n0=ss.length+t * f.1:=⟨_,rfl⟩
   obtain ⟨ee,hee⟩:∃ ee,ee=ss.length+(t * f.1+(m - t) * (f.1+1)):=⟨_,rfl⟩
   have HEE:=hid (And.intro hn0 hee)
   have hlle:ee≤100000:=by omega
   clear hn0 hee
   go_wp2_with fail
   go_loopw [1,17,18] (fun ox ev kx wr2=>∃ (u:Nat) (a1:Option Addr) (c:Nat) (s3 ss3:List Sv) (es:List Nat) (ea:Option Addr) (ec:Nat),t+u≤m∧kx=.int .i64 ((t+u:Nat):Int)∧ox=.slice a1 s3.length c∧ev=.slice ea es.length ec∧Hid (s3=s2++ss3∧SvE 4 n0 ee es ss3 (fUpTo f.1 f.2 u n0 d ee)∧es.length≤u∧s3.length=n0+u * (f.1+1)∧Gs wA w0.heap.size (.slice oa ss.length oc) wr2 (.slice a1 s3.length c) s3∧En wA.heap.size wr2 (.slice a1 s3.length c) (.slice ea es.length ec) es)) (fun _ _ kx _=>2000 - (intOf kx).toNat)
   case atStart=>exact ⟨0,a2,c2,s2,[],[],none,0,ham,rfl,rfl,rfl,hid ⟨by simp,SvE.nil _ _ _,Nat.le_refl _,by rw [HR.out.2.2.1,HEE.out.1];omega,HR.out.2.2.2,En.nil _ _ _⟩⟩
   case round=>
    obtain ⟨u,a3,c3,s3,ss3,es,ea,ec,hu,rfl,rfl,rfl,HU⟩:=hrel
    have dm:=(HX.out.bl' HU.out.2.2.2.2.1).at_ 259 _ HA.out.2.2.2.2.1
    rw [hb] at dm
    by_cases hul:t+u < m
    ·have q1:((t+u:Nat):Int) < (m:Int):=by omega
     have hc1':IntKind.i64.wrap (((t+u:Nat):Int)+1)=((t+u+1:Nat):Int):=wrap_i64_succ (t+u) (t+u+1) rfl (by omega)
     have hub:u * (f.1+1)+(f.1+1)≤(m - t) * (f.1+1):=by
      have:=Nat.mul_le_mul_right (f.1+1) (show u+1≤m - t by omega)
      rw [Nat.add_mul u 1] at this;omega
     obtain ⟨tu,htu⟩:∃ tu,tu=t+u:=⟨_,rfl⟩
     rw [←htu] at q1 hc1' ⊢
     have l3b:s3.length+f.1+1≤100000:=by have:=HU.out.2.2.2.1;have:=HEE.out;omega
     have hdb:d+f.1≤100000:=by omega
     have hes:es.length≤1000:=by have:=HU.out.2.2.1;omega
     have HEN:=hid HU.out.2.2.2.2.2
     have HTU:=hid htu
     clear htu
     obtain ⟨lx,hlx⟩:∃ lx,lx=s3.length+1:=⟨_,rfl⟩
     have hw1:IntKind.i64.wrap ((s3.length:Int)+1)=(lx:Int):=by rw [hlx];exact wrap_i64_succ s3.length (s3.length+1) rfl (by omega)
     have HBL:Hid (Tryz.prog.built 186 [(0,.int .i64 11),(3,.int .i64 (lx:Int))]=some (svC ⟨11,noBytes,0,lx,0,0⟩).toArray):=hid (built_fork (lx:Int))
     have HLX:=hid hlx
     clear hlx
     go_upto_region 52 with (at_builtin;refine wpList_pushI rfl (.tmp 229) (.tmp 232) rfl s3.length rfl rfl HEN.out HU.out.2.2.2.2.1 (by omega) ?_)
     intro gb5 c5 es5 w5 hes5 E5 G5
     have HS5:=hid (And.intro hes5 (And.intro E5 G5))
     have GS5:=hid G5.self
     clear hes5 E5 G5
     go_upto_region 53 with (show wpList _ _ _ (⟨_,.build 186 _,_,_,_,_⟩::_) _ _;refine wpList_push rfl rfl rfl [(0,.const (.int .i64 11)),(3,.tmp 237)] rfl (.tmp 238) rfl (.tmp 234) (.tmp 239) rfl _ ⟨11,noBytes,0,lx,0,0⟩ rfl HBL.out (fun _=>rfl) (fun _ _=>rfl) (fun _ _=>rfl) GS5.out (by omega) ?_)
     intro gb6 c6 s6 w6 cc6 hs6 G6
     have HS6:Hid (s6=s3++[⟨11,noBytes,0,lx,0,0⟩]∧s6.length=s3.length+1∧Gs w5 w0.heap.size (.slice a3 s3.length c3) w6 (.slice (some ⟨gb6,0,none⟩) s6.length c6) s6∧Gs wA w0.heap.size (.slice oa ss.length oc) w6 (.slice (some ⟨gb6,0,none⟩) s6.length c6) s6):=hid ⟨hs6,by rw [hs6,List.length_append];rfl,G6,HS5.out.2.2.trans G6⟩
     have dk:=(HX.out.bl' HS6.out.2.2.2).at_ 260 _ HA.out.2.2.2.2.2.1
     obtain ⟨gk,e1,e2,e3⟩:=HK.out 0 j (by rw [hks];rfl)
     have dj:=((HX.out.kp HS6.out.2.2.2).cell (p:=⟨gk,0,none⟩) e2 (by simp)).trans e3
     rw [e1,hks] at dk
     have dk:w6.cell? ⟨xb,260,none⟩=some (.slice (some ⟨gk,0,none⟩) 1 kc):=dk
     clear hs6 G6 hw1 e1 e2 e3
     go_wp2_with fail
     refine (HKid.out.go2 (HX.out.kp HS6.out.2.2.2) HS6.out.2.2.2 (by have:=HS6.out.2.1;omega) hdb).mono ?_
     rintro e w7 ⟨a7,c7,s7,ss7,rfl,hs7,hS7,hl7,G7⟩
     have HS7:=hid (And.intro hs7 (And.intro hS7 (And.intro hl7 G7)))
     clear hs7 hS7 hl7 G7 dk dj
     go_wp2_with fail
     go_roundw
     ·obtain ⟨hs7,hS7,hl7,G7⟩:=HS7.out
      obtain ⟨hs6,hl6,G6,GT⟩:=HS6.out
      obtain ⟨hes5,E5,G5⟩:=HS5.out
      obtain ⟨hs3,hS3,hesu,hl3,G3,E3⟩:=HU.out
      have hx:=HLX.out
      have htu:=HTU.out
      have hl2:=HR.out.2.2.1
      have hn0:=HEE.out.1
      have hl33:s3.length=s2.length+ss3.length:=by rw [hs3,List.length_append]
      refine ⟨u+1,a7,c7,s7,(ss3++[⟨11,noBytes,0,lx,0,0⟩])++ss7,es5,some ⟨gb5,0,none⟩,c5,by omega,by rw [htu];go_num,rfl,rfl,hid ⟨by rw [hs7,hs6,hs3];simp only [List.append_assoc],?_,by rw [hes5,List.length_append];show es.length+1≤_;omega,by rw [Nat.add_mul u 1];omega,GT.trans G7,(E5.step G6).step G7⟩⟩
      rw [hl6,hl3] at hS7
      rw [fUpTo_snoc,hes5,show ∀ (i:In) (l r:List In),l++i::r=(l++[i])++r from fun i l r=>by simp]
      exact (hS3.late (x:=s3.length) (s:=⟨11,noBytes,0,lx,0,0⟩) (i:=noIn 4 (n0+u * (f.1+1)+1) ee 0 0) ⟨rfl,rfl,rfl,(fun q=>by cases q),fun _=>⟨by show lx=n0+u * (f.1+1)+1;omega,rfl⟩⟩ (by omega)).app hS7
     ·simp [intOf];have:=HTU.out;omega
    ·have q1:¬ ((t+u:Nat):Int) < (m:Int):=by omega
     obtain ⟨hs3,hS3,hesu,hl3,G3,E3⟩:=HU.out
     have eu:u=m - t:=by omega
     have hln:s3.length=ee:=by rw [hl3,HEE.out.2,HEE.out.1,eu];omega
     have HQ:=hid (And.intro hs3 (And.intro hS3 (And.intro G3 (And.intro E3 (And.intro hln eu)))))
     have hes:es.length≤1000:=by omega
     clear hs3 hS3 hesu hl3 G3 E3 eu hln HU
     go_wp2_with fail
     go_loopw [19] (fun kx wr3=>∃ (y:Nat) (s4 ss4:List Sv),y≤es.length∧kx=.int .i64 y∧Hid (s4=s2++ss4∧s4.length=s3.length∧SvE 4 n0 ee (es.drop y) ss4 (fUpTo f.1 f.2 u n0 d ee)∧Gs wA w0.heap.size (.slice oa ss.length oc) wr3 (.slice a3 s3.length c3) s4∧En wA.heap.size wr3 (.slice a3 s3.length c3) (.slice ea es.length ec) es)) (fun kx _=>2000 - (intOf kx).toNat)
     case atStart=>exact ⟨0,s3,ss3,Nat.zero_le _,rfl,hid ⟨HQ.out.1,rfl,HQ.out.2.1,HQ.out.2.2.1,HQ.out.2.2.2.1⟩⟩
     case round=>
      obtain ⟨y,s4,ss4,hy,rfl,HY⟩:=hrel
      by_cases hyl:y < es.length
      ·have q2:(y:Int) < (es.length:Int):=by omega
       have q20:(0:Int)≤(y:Int):=by omega
       have hc2':IntKind.i64.wrap ((y:Int)+1)=((y+1:Nat):Int):=wrap_i64_succ y (y+1) rfl (by omega)
       obtain ⟨x,hx⟩:∃ x,es[y]? = some x:=⟨_,List.getElem?_eq_getElem hyl⟩
       obtain ⟨hs4,hl4,hS4,G4,E4⟩:=HY.out
       have edr:es.drop y=x::es.drop (y+1):=by rw [List.drop_eq_getElem_cons hyl,(List.getElem?_eq_some_iff.1 hx).2]
       rw [edr] at hS4
       have hbx:=hS4.bnd x (by simp)
       have hl2:s2.length=n0:=by rw [HR.out.2.2.1,HEE.out.1]
       obtain ⟨gk,kc2,e1,dx⟩:=E4.at_ hx
       obtain ⟨rfl,rfl⟩:ea=some ⟨gk,0,none⟩∧ec=kc2:=by injection e1 with z1 _ z3;exact ⟨z1,z3⟩
       have hl4':s4.length=s2.length+ss4.length:=by rw [hs4,List.length_append]
       obtain ⟨s,hs⟩:∃ s,s4[x]? = some s:=⟨_,List.getElem?_eq_getElem (by omega)⟩
       have hsr:ss4[x - n0]? = some s:=by rw [hs4,List.getElem?_append_right (by omega),hl2] at hs;exact hs
       obtain ⟨gbx,hgb⟩:∃ gb,a3=some ⟨gb,0,none⟩:=by
        rcases G4.os.2 with ⟨_,z2⟩ | ⟨gb,_,_,z1,_⟩
        ·omega
        ·injection z1 with z1;exact ⟨gb,z1⟩
       subst hgb
       have hlx:s3.length=s4.length:=hl4.symm
       have fY:wr.frozen? ⟨gbx,x * 261+259,none⟩=false:=by
        have z:=G4.os
        rw [hlx] at z
        exact z.frozenAt _
       have dY:=G4.cell hs (svC_at _).2.2.2.2.1
       have q3:(x:Int) < (s3.length:Int):=by omega
       have q30:(0:Int)≤(x:Int):=by omega
       obtain ⟨w5,hw5⟩:∃ w5,w5=wr.setCell ⟨gbx,x * 261+259,none⟩ (.int .i64 (s3.length:Nat)):=⟨_,rfl⟩
       have G5:=G4.self.set (i:=x) (j:=259) (s':={ s with y:=s3.length }) hlx hs (by decide) (svC_y s s3.length)
       rw [←hw5] at G5
       have HZ:=hid (And.intro hs4 (And.intro hS4 (And.intro hbx (And.intro hsr (And.intro (G4.trans G5) (And.intro (E4.step G5) (And.intro hlx hl2)))))))
       clear hs4 hl4 hS4 G4 E4 edr hbx hl4' hs hsr G5 e1 hx hlx hl2
       go_upto_region 56 with fail
       rw [←hw5]
       clear dY fY hw5 dx
       go_wp2_with fail
       go_roundw
       ·obtain ⟨hs4,hS4,hbx,hsr,G5,E5,hlx,hl2⟩:=HZ.out
        refine ⟨y+1,s4.set x { s with y:=s3.length },ss4.set (x - n0) { s with y:=s3.length },by omega,by go_num,hid ⟨by rw [hs4,List.set_append_right _ _ (by omega),hl2],by rw [List.length_set];exact hlx.symm,hS4.write hsr fun i hi=>?_,G5,E5⟩⟩
        obtain ⟨z1,z2,z3,_,z4⟩:=hi
        obtain ⟨z4,z5⟩:=z4 rfl
        have hee:=HQ.out.2.2.2.2.1
        refine ⟨?_,z1,z2,z3,(fun q=>by cases q),fun _=>⟨z4,z5⟩⟩
        unfold SvI
        rw [z3]
        exact ⟨z1,z4,by show s3.length=i.ot;omega,z2⟩
       ·simp [intOf];omega
      ·have q2:¬ (y:Int) < (es.length:Int):=by omega
       go_wp2_with fail
       go_ret
       obtain ⟨hs4,hl4,hS4,G4,E4⟩:=HY.out
       rw [List.drop_of_length_le (by omega)] at hS4
       obtain ⟨hs2,hS2,hl2,_⟩:=HR.out
       rw [hs4,hs2,List.append_assoc] at G4
       refine HX.out.out G4 ?_
       have hS4:=hS4.done
       rw [HQ.out.2.2.2.2.2,HEE.out.1,HEE.out.2] at hS4
       exact hS2.app hS4
end
def outC (a:Nat) (z:Nat×Zt) (G:Nat):List Value:=.int .i64 (a:Nat)::.int .i64 (z.1:Nat)::(List.range G).flatMap fun g=>[.int .i64 (z.2 (2 * (g+1))),.int .i64 (z.2 (2 * (g+1)+1))]
theorem outC_step (a:Nat) (z:Nat×Zt) (G:Nat):outC a z (G+1)=outC a z G++[.int .i64 (z.2 (2 * (G+1))),.int .i64 (z.2 (2 * (G+1)+1))]:=by
 simp [outC,List.range_succ]
def lgr (b r:Nat×Zt):Nat×Zt:=if b.1 < r.1 then r else b
theorem bst_fold (p:Nat×Zt) (l:List (Nat×Zt)):bstT (p::l)=some ((p::l).foldl lgr p):=by
 show some (l.foldl _ p)=some (l.foldl lgr (lgr p p))
 have e:lgr p p=p:=by unfold lgr;rw [if_neg (by omega)]
 rw [e];rfl
theorem findT_nil {T:Rt} {k i:Nat} (h:T i=[]):findT T (k+1) i=findT T k (i+1):=by rw [findT,h];rfl
theorem findT_cons {T:Rt} {k i:Nat} {p:Nat×Zt} {l:List (Nat×Zt)} (h:T i=p::l):findT T (k+1) i=some (i,(p::l).foldl lgr p):=by rw [findT,h,bst_fold]
def FndO (w:World) (G:Nat) (r:Option (Nat×Nat×Zt)) (e:Ending) (w':World):Prop:=match r with
 | none=>e=.returned (.slice none 0 0)∧Kp [] w w'
 | some (a,z)=>∃ q c,e=.returned (.slice (some ⟨q,0,none⟩) (2+2 * G) c)∧w'.ownsRow w.heap.size 3 1 (.slice (some ⟨q,0,none⟩) (2+2 * G) c) (2+2 * G) (outC a z G)∧Kp [] w w'
section
variable {w w' w1:World} {m n:Nat}
theorem Tryz.infoIntF:(Tryz.prog.info? 3).map (fun i=>(i.zero,i.size,i.bytes))=some (some (.int .i64 0),1,8):=by kernel_rfl
theorem own_two (w:World) {B:Nat} (hB:B≤w.heap.size) (x y:Value):(w.alloc (.cells #[x,y] 3)).ownsRow B 3 1 (.slice (some ⟨w.heap.size,0,none⟩) 2 2) 2 [x,y]:=
 ⟨rfl,.inr ⟨w.heap.size,2,#[x,y],rfl,hB,World.alloc_heap_new w _,Nat.le_refl _,by unfold maxLen;omega,rfl,rfl⟩⟩
theorem findR_any {tv:Value} {T:Nat→List (Nat×Zt)} {G:Nat} (hT:Tw w m tv n T) (hm:m≤w.heap.size) (hn:n≤900) (hl:∀ a,a≤n→(T a).length≤1000) (hG:G≤9) :
  Calls Tryz.prog 40 #[tv,.int .i64 0,.int .i64 (G:Nat)] w (FndO w G (findT T (n+1) 0)):=by
 obtain ⟨i0,hi,hz0,hz1,hz2⟩:=info_parts Tryz.infoIntF
 have HI:=hid (And.intro hi (And.intro hz0 (And.intro hz1 hz2)))
 clear hi hz0 hz1 hz2
 obtain ⟨tb,ct,rfl,hct,htb,hTc⟩:=hT
 have HT:=hid (And.intro hTc hl)
 clear hTc hl
 go_enter Tryz.func40,Tryz.ntmps40
 go_wp2_with fail
 go_loopw [7] (fun iv wr=>∃ a:Nat,a≤n+1∧iv=.int .i64 a∧Kp [] w wr∧Hid (findT T (n+1) 0=findT T (n+1 - a) a)) (fun iv _=>2000 - (intOf iv).toNat)
 case atStart=>exact ⟨0,Nat.zero_le _,rfl,Kp.refl _ _,hid rfl⟩
 case round=>
  obtain ⟨a,ha,rfl,kr,hf⟩:=hrel
  by_cases han:a≤n
  ·have q1:(a:Int) < ((n+1:Nat):Int):=by omega
   have q1b:(a:Int) < (n:Int)+1:=by omega
   have q2:(0:Int)≤(a:Int):=by omega
   have hc1:IntKind.i64.wrap ((a:Int)+1)=((a+1:Nat):Int):=wrap_i64_succ a (a+1) rfl (by omega)
   obtain ⟨la,hla,hLa⟩:=HT.out.1 a han
   have hlL:=HT.out.2 a han
   obtain ⟨L,hL⟩:∃ L,T a=L:=⟨_,rfl⟩
   rw [hL] at hLa hlL
   obtain ⟨aa,ac,hform⟩:∃ aa ac,la=.slice aa L.length ac:=by
    rcases hLa with ⟨z1,z2⟩ | ⟨gb,c,z1,_⟩
    ·exact ⟨none,0,by rw [z1,z2];rfl⟩
    ·exact ⟨_,c,z1⟩
   subst hform
   have d0:=(kr.cell (p:=⟨tb,a,none⟩) (by show tb < _;omega) (by simp)).trans hla
   by_cases hLc:L=[]
   ·have ef:findT T (n+1 - a) a=findT T (n+1 - (a+1)) (a+1):=by
     rw [show n+1 - a=(n+1 - (a+1))+1 by omega];exact findT_nil (by rw [hL,hLc])
    have HK:=hid (And.intro kr (And.intro hf.out ef))
    have q3:((L.length:Int) == 0)=true:=by rw [hLc];rfl
    clear hf ef hla hLa kr
    go_wp2_with fail
    go_roundw
    ·exact ⟨a+1,by omega,by go_num,HK.out.1,hid (HK.out.2.1.trans HK.out.2.2)⟩
    ·simp [intOf];omega
   ·obtain ⟨p0,l,hLp⟩:∃ p0 l,L=p0::l:=by
     cases hx:L with
     | nil=>exact absurd hx hLc
     | cons p0 l=>exact ⟨p0,l,rfl⟩
    have h0:L[0]? = some p0:=by rw [hLp];rfl
    have hpos:0 < L.length:=by rw [hLp];simp
    have efs:findT T (n+1) 0=some (a,L.foldl lgr p0):=by
     rw [hf.out,show n+1 - a=(n+1 - (a+1))+1 by omega,findT_cons (hL.trans hLp),hLp]
    have q3:((L.length:Int) == 0)=false:=by rw [beq_eq_false_iff_ne];omega
    have q4:(0:Int) < (L.length:Int):=by omega
    obtain ⟨gb,c2,e1,e2,_,e4⟩:=(hLa.keep (m':=m) kr hm (by simp) (Nat.le_refl _)).way h0
    obtain ⟨rfl,_,rfl⟩:aa=some ⟨gb,0,none⟩∧True∧ac=c2:=by injection e1 with e1 _ e3;exact ⟨e1,trivial,e3⟩
    rw [Nat.zero_mul] at e4
    have RG:=hid e4
    have HK:=hid (And.intro kr (And.intro efs (And.intro hla hLa)))
    clear e1 e2 e4 hf efs hLp hLc h0 hla hLa kr
    go_upto_region 6 with (first | (show wpList _ _ _ (⟨_,.load 197 _,_,_,_,_⟩::_) _ _;refine wpList_load_mid rfl 197 (.tmp 29) rfl gb 0 rfl (wyC p0) _ RG.out Tryz.underlying197 rfl (by rw [wyC_len];exact Tryz.szWayR) ?_) | (show wpList _ _ _ (⟨_,.store 197 _ _,_,_,_,_⟩::_) _ _;refine newVarR (w1:=wr) rfl 197 (.tmp 8) (.tmp 30) rfl _ _ _ rfl rfl (by rw [wyC_len];rfl) (by rw [wyC_len];exact Tryz.szWayR) (wyC_one p0) ?_;intro w2 b2 k2))
    have b2:Wb w2 wr.heap.size p0:=b2
    obtain ⟨vb,hvb⟩:∃ vb,vb=wr.heap.size:=⟨_,rfl⟩
    rw [←hvb] at b2 ⊢
    obtain ⟨kr,efs,hla,hLa⟩:=HK.out
    have hvw:w.heap.size≤vb:=by rw [hvb];exact kr.size
    have H2:=hid (And.intro b2 (And.intro (kr.trans k2) hvw))
    clear kr efs hla hLa b2 k2 hvb d0 hvw
    go_wp2_with fail
    go_loopw [9] (fun jx wr=>∃ j:Nat,j≤L.length∧jx=.int .i64 j∧Wb wr vb ((L.take j).foldl lgr p0)∧Kp [] w wr) (fun jx _=>2000 - (intOf jx).toNat)
    case atStart=>exact ⟨0,Nat.zero_le _,rfl,H2.out.1,H2.out.2.1⟩
    case round=>
     obtain ⟨j,hj,rfl,b3,k3⟩:=hrel
     have d0:=(k3.cell (p:=⟨tb,a,none⟩) (by show tb < _;omega) (by simp)).trans HK.out.2.2.1
     obtain ⟨z,hz⟩:∃ z,(L.take j).foldl lgr p0=z:=⟨_,rfl⟩
     rw [hz] at b3
     by_cases hjt:j < L.length
     ·have hgj:L[j]? = some L[j]:=List.getElem?_eq_getElem hjt
      obtain ⟨r,hr⟩:∃ r,L[j]=r:=⟨_,rfl⟩
      rw [hr] at hgj
      obtain ⟨gc,c3,z1,_,_,s4⟩:=(HK.out.2.2.2.keep (m':=m) k3 hm (by simp) (Nat.le_refl _)).way hgj
      obtain ⟨rfl,_⟩:gb=gc∧True:=by injection z1 with z1 _ _;injection z1 with z1;injection z1 with z1 _ _;exact ⟨z1,trivial⟩
      have d1:=s4 0 _ (wyC_at r).1
      rw [Nat.add_zero] at d1
      have d2:=b3.at_ 0 _ (wyC_at z).1
      have q5:(j:Int) < (L.length:Int):=by omega
      have q6:(0:Int)≤(j:Int):=by omega
      have hc2:IntKind.i64.wrap ((j:Int)+1)=((j+1:Nat):Int):=wrap_i64_succ j (j+1) rfl (by omega)
      have eS:(L.take (j+1)).foldl lgr p0=lgr z r:=by rw [take_snoc hgj,List.foldl_append,hz];rfl
      have H3:=hid (And.intro b3 (And.intro k3 (And.intro eS s4)))
      clear b3 k3 eS z1 hr s4 hgj hz
      by_cases hlt:z.1 < r.1
      ·have q7:(z.1:Int) < (r.1:Int):=by omega
       have q7b:decide ((z.1:Int) < (r.1:Int))=true:=by simpa using hlt
       go_wp2_with fail
       go_quiet (fail)
       have RG2:=hid (rangeAt_keep H3.out.2.2.2 (Kp.drewN [] wr nq) (by simp))
       have RB2:=hid (H3.out.1.keep (Kp.drewN [] wr nq) (by simp))
       have d0':=(Kp.drewN [] wr nq).cell (World.block_lt_of_cell? _ _ d0) (by simp) |>.trans d0
       go_wp2_with (first | (show wpList _ _ _ (⟨_,.load 197 _,_,_,_,_⟩::_) _ _;refine wpList_load_mid rfl 197 (.tmp 56) rfl gb (j * 21) rfl (wyC r) _ RG2.out Tryz.underlying197 rfl (by rw [wyC_len];exact Tryz.szWayR) ?_) | (show wpList _ _ _ (⟨_,.store 197 _ _,_,_,_,_⟩::_) _ _;refine storeBl rfl 197 (.tmp 8) (.tmp 57) rfl rfl rfl RB2.out (by rw [wyC_len,wyC_len]) (by rw [wyC_len];exact Tryz.szWayR) (wyC_one _) ?_;intro w4 b4 k4))
       go_roundw
       ·refine ⟨j+1,by omega,by go_num,?_,((((H3.out.2.1.trans (Kp.drewN [] wr nq)).mono (T:=[vb]) (by simp)).trans k4)).news (fun y hy=>by rw [List.mem_singleton.1 hy];exact H2.out.2.2)⟩
        rw [H3.out.2.2.1];unfold lgr;rw [if_pos hlt];exact b4
       ·simp [intOf];omega
      ·have q7:¬ (z.1:Int) < (r.1:Int):=by omega
       have q7b:decide ((z.1:Int) < (r.1:Int))=false:=by simpa using hlt
       go_wp2_with fail
       go_quiet (fail)
       go_wp2_with fail
       go_roundw
       ·refine ⟨j+1,by omega,by go_num,?_,H3.out.2.1.trans (Kp.drewN [] wr _)⟩
        rw [H3.out.2.2.1];unfold lgr;rw [if_neg hlt];exact H3.out.1.keep (Kp.drewN [] wr _) (by simp)
       ·simp [intOf];omega
     ·have q5:¬ (j:Int) < (L.length:Int):=by omega
      have ez:L.foldl lgr p0=z:=by rw [←hz,List.take_of_length_le (by omega)]
      have d2:=b3.at_ 0 _ (wyC_at z).1
      have H3:=hid (And.intro b3 (And.intro k3 ez))
      clear b3 k3 ez hz
      go_upto_region 12 with fail
      have O0:=own_two wr (B:=w.heap.size) H3.out.2.1.size (.int .i64 (a:Nat)) (.int .i64 (z.1:Nat))
      obtain ⟨wo,hwo⟩:∃ wo,wo=wr.alloc (.cells #[.int .i64 (a:Nat),.int .i64 (z.1:Nat)] 3):=⟨_,rfl⟩
      have ko:Kp [] wr wo:=by rw [hwo];exact Kp.alloc _ _ _
      rw [←hwo] at O0 ⊢
      have hvr:=H3.out.1.lt
      obtain ⟨ob,hob⟩:∃ ob,ob=wr.heap.size:=⟨_,rfl⟩
      rw [←hob] at O0 ⊢
      have H4:=hid (And.intro O0 (And.intro (H3.out.2.1.trans ko) (And.intro (H3.out.1.keep ko (by simp)) (show ob≠vb by omega))))
      clear O0 ko hwo d0 d2 hob hvr
      go_wp2_with fail
      go_loopw [10,11] (fun ov gx wr=>∃ gi:Nat,1≤gi∧gi≤G+1∧gx=.int .i64 gi∧wr.ownsRow w.heap.size 3 1 ov (2 * gi) (outC a z (gi - 1))∧Kp [] w wr∧Wb wr vb z∧∀ x,ov.ownBlock=some x→x≠vb) (fun _ gx _=>20 - (intOf gx).toNat)
      case atStart=>exact ⟨1,by omega,by omega,rfl,H4.out.1,H4.out.2.1,H4.out.2.2.1,fun x hx=>by have e:ob=x:=Option.some.inj hx;rw [←e];exact H4.out.2.2.2⟩
      case round=>
       obtain ⟨gi,hg1,hg2,rfl,o1,o3,o4,o5⟩:=hrel
       by_cases hgG:gi≤G
       ·have q6:(gi:Int)≤(G:Int):=by omega
        have q7:(gi:Int) < 10:=by omega
        have q8:(0:Int)≤(gi:Int):=by omega
        have hc3:IntKind.i64.wrap ((gi:Int)+1)=((gi+1:Nat):Int):=wrap_i64_succ gi (gi+1) rfl (by omega)
        obtain ⟨s0,_,s3,_⟩:=Wb.get o4 (show gi < 10 by omega)
        have ka0:=(Kp.drew [] wr).trans (Kp.alloc [] wr.drew (.cells #[.int .i64 (z.2 (2 * gi)),.int .i64 (z.2 (2 * gi+1))] 3))
        have HO:=hid (And.intro (own_kp o1 ka0 (by simp)) (And.intro (Nat.le_trans o3.size ka0.size) (And.intro o3 (And.intro o4 o5))))
        clear o1 o3 o4 o5 ka0
        go_upto_region 15 with fail
        have hS:(fun w':World=>w'.cell? ⟨vb,1+gi,none⟩=some (.int .i64 (z.2 (2 * gi)))∧w'.cell? ⟨vb,11+gi,none⟩=some (.int .i64 (z.2 (2 * gi+1)))) wr.drew:=⟨s0,s3⟩
        refine wp_region_T (fun w':World=>w'.cell? ⟨vb,1+gi,none⟩=some (.int .i64 (z.2 (2 * gi)))∧w'.cell? ⟨vb,11+gi,none⟩=some (.int .i64 (z.2 (2 * gi+1)))) 11 (by kernel_rfl) ?_
        refine tk1 0 (v:=?_) rfl (by kernel_rfl) (fun _ _ _ h=>h) ⟨rfl,fun w hSw=>?_⟩ hS ?_;rotate_left;· ((try dsimp only at hSw);go_simp;(try with_reducible rfl))
        (try simp only [List.getElem_toArray,List.getElem_cons_succ,List.getElem_cons_zero,Act.put,List.setIfInBounds_toArray,List.set_cons_zero,List.set_cons_succ])
        refine tk1 1 (v:=?_) rfl (by kernel_rfl) (fun _ _ _ h=>h) ⟨rfl,fun w hSw=>?_⟩ hS ?_;rotate_left;· ((try dsimp only at hSw);go_simp;(try with_reducible rfl))
        (try simp only [List.getElem_toArray,List.getElem_cons_succ,List.getElem_cons_zero,Act.put,List.setIfInBounds_toArray,List.set_cons_zero,List.set_cons_succ])
        refine tk1 2 (v:=?_) rfl (by kernel_rfl) (fun _ _ _ h=>h) ⟨rfl,fun w hSw=>?_⟩ hS ?_;rotate_left;· ((try dsimp only at hSw);go_simp;(try with_reducible rfl))
        (try simp only [List.getElem_toArray,List.getElem_cons_succ,List.getElem_cons_zero,Act.put,List.setIfInBounds_toArray,List.set_cons_zero,List.set_cons_succ])
        refine tk1 3 (v:=?_) rfl (by kernel_rfl) (fun _ _ _ h=>h) ⟨rfl,fun w hSw=>?_⟩ hS ?_;rotate_left;· ((try dsimp only at hSw);go_simp;(try with_reducible rfl))
        (try simp only [List.getElem_toArray,List.getElem_cons_succ,List.getElem_cons_zero,Act.put,List.setIfInBounds_toArray,List.set_cons_zero,List.set_cons_succ])
        refine tk1 4 (v:=?_) rfl (by kernel_rfl) (fun _ _ _ h=>h) ⟨rfl,fun w hSw=>?_⟩ hS ?_;rotate_left;· ((try dsimp only at hSw);go_simp;(try with_reducible rfl))
        (try simp only [List.getElem_toArray,List.getElem_cons_succ,List.getElem_cons_zero,Act.put,List.setIfInBounds_toArray,List.set_cons_zero,List.set_cons_succ])
        refine tk1 5 (v:=?_) rfl (by kernel_rfl) (fun _ _ _ h=>h) ⟨rfl,fun w hSw=>?_⟩ hS ?_;rotate_left;· ((try dsimp only at hSw);go_simp;(try with_reducible rfl))
        (try simp only [List.getElem_toArray,List.getElem_cons_succ,List.getElem_cons_zero,Act.put,List.setIfInBounds_toArray,List.set_cons_zero,List.set_cons_succ])
        refine tk1 6 (v:=?_) rfl (by kernel_rfl) (fun _ _ _ h=>h) ⟨rfl,fun w hSw=>?_⟩ hS ?_;rotate_left;· ((try dsimp only at hSw);go_simp;(try with_reducible rfl))
        (try simp only [List.getElem_toArray,List.getElem_cons_succ,List.getElem_cons_zero,Act.put,List.setIfInBounds_toArray,List.set_cons_zero,List.set_cons_succ])
        refine tk1 7 (v:=?_) rfl (by kernel_rfl) (fun _ _ _ h=>h) ⟨rfl,fun w hSw=>?_⟩ hS ?_;rotate_left;· ((try dsimp only at hSw);go_simp;(try with_reducible rfl))
        (try simp only [List.getElem_toArray,List.getElem_cons_succ,List.getElem_cons_zero,Act.put,List.setIfInBounds_toArray,List.set_cons_zero,List.set_cons_succ])
        refine tk1 8 (v:=?_) rfl (by kernel_rfl) (fun _ _ _ h=>h) ⟨rfl,fun w hSw=>?_⟩ hS ?_;rotate_left;· ((try dsimp only at hSw);go_simp;(try with_reducible rfl))
        (try simp only [List.getElem_toArray,List.getElem_cons_succ,List.getElem_cons_zero,Act.put,List.setIfInBounds_toArray,List.set_cons_zero,List.set_cons_succ])
        refine wpAnyT_one (i:=9) (by kernel_rfl) rfl (fun K hK=>?_)
        go_simp
        have hS9:(fun w':World=>w'.cell? ⟨vb,1+gi,none⟩=some (.int .i64 (z.2 (2 * gi)))∧w'.cell? ⟨vb,11+gi,none⟩=some (.int .i64 (z.2 (2 * gi+1)))) (wr.drew.alloc (.cells #[.int .i64 (z.2 (2 * gi)),.int .i64 (z.2 (2 * gi+1))] 3)):=⟨((Kp.alloc [] wr.drew _).cell (World.block_lt_of_cell? _ _ hS.1) (by simp)).trans hS.1,((Kp.alloc [] wr.drew _).cell (World.block_lt_of_cell? _ _ hS.2) (by simp)).trans hS.2⟩
        refine hK.out _ _ (.inr hS9) ?_
        clear hK K
        refine wpAnyT_one (i:=10) (by kernel_rfl) rfl (fun K hK=>?_)
        refine step_append2 (by rfl) (.tmp 67) (.tmp 76) 60 (by rfl) w.heap.size 3 i0 (.int .i64 0) 1 8 Tryz.underlying60 HI.out.1 HI.out.2.1 HI.out.2.2.1 HI.out.2.2.2 rfl (by decide) u10 (2 * gi) (outC a z (gi - 1)) (by rfl) HO.out.1 ⟨wr.heap.size,0,none⟩ 2 2 [.int .i64 (z.2 (2 * gi)),.int .i64 (z.2 (2 * gi+1))] (by rfl) rfl (fun j u hu=>by rw [Addr.add_mid,Nat.zero_add];exact (Bl.alloc wr.drew [.int .i64 (z.2 (2 * gi)),.int .i64 (z.2 (2 * gi+1))] 3).at_ j u hu) (fun u hu=>by simp at hu;rcases hu with rfl | rfl <;> rfl) (by unfold maxLen;omega) (by omega) HO.out.2.1 (by omega) ?_
        intro gb2 cap w9 ho9 hg9 hor9
        have k9:Kp u10.ownBlock.toList (wr.drew.alloc (.cells #[.int .i64 (z.2 (2 * gi)),.int .i64 (z.2 (2 * gi+1))] 3)) w9:=kp_grownR hg9 (by simp)
        have hnv:vb∉u10.ownBlock.toList:=fun hx=>HO.out.2.2.2.2 vb (by simpa using hx) rfl
        have hS10:(fun w':World=>w'.cell? ⟨vb,1+gi,none⟩=some (.int .i64 (z.2 (2 * gi)))∧w'.cell? ⟨vb,11+gi,none⟩=some (.int .i64 (z.2 (2 * gi+1)))) w9:=⟨(k9.cell (World.block_lt_of_cell? _ _ hS9.1) hnv).trans hS9.1,(k9.cell (World.block_lt_of_cell? _ _ hS9.2) hnv).trans hS9.2⟩
        have H9:=hid (And.intro ho9 (And.intro k9 (And.intro hor9 hnv)))
        refine hK.out _ _ (.inr hS10) ?_
        clear hK K ho9 hg9 hor9 k9 hS hS9 s0 s3 hnv
        refine wpAnyT_one (i:=11) (by kernel_rfl) rfl (fun K hK=>?_)
        go_simp
        refine hK.out _ _ (.inl rfl) ?_
        clear hK K
        refine wpAnyT_done (by kernel_rfl) ?_ _
        go_wp2_with fail
        go_roundw
        ·obtain ⟨ho9,k9,hor9,hnv⟩:=H9.out
         obtain ⟨o1,o2,o3,o4,o5⟩:=HO.out
         have ka:=(Kp.drew [] wr).trans (Kp.alloc [] wr.drew (.cells #[.int .i64 (z.2 (2 * gi)),.int .i64 (z.2 (2 * gi+1))] 3))
         refine ⟨gi+1,by omega,by omega,by go_num,?_,((o3.mono (by simp)).trans ((ka.mono (by simp)).trans k9)).news (fun y hy=>(o1.lt y (by simpa using hy)).1),(o4.keep ka (by simp)).keep k9 hnv,fun x hx e=>?_⟩
         ·rw [show 2 * (gi+1)=2 * gi+2 by omega,show gi+1 - 1=(gi - 1)+1 by omega,outC_step,show gi - 1+1=gi by omega]
          exact ho9
         ·have e1:gb2=x:=Option.some.inj hx
          rcases hor9 with y | y
          ·exact o5 gb2 y (by rw [e1];exact e)
          ·have y2:wr.heap.size≤gb2:=Nat.le_trans ka.size y
           have:=o4.lt;omega
        ·simp [intOf];omega
       ·have q6:¬ (gi:Int)≤(G:Int):=by omega
        have eg:gi=G+1:=by omega
        subst eg
        rcases o1.2 with ⟨_,z2⟩ | ⟨qb,cc,cur,z1,_⟩
        ·omega
        ·have H5:=hid (And.intro o1 (And.intro o3 z1))
         clear o1 o3 o4 o5
         go_wp2_with fail
         go_ret
         obtain ⟨o1,o3,z1⟩:=H5.out
         rw [HK.out.2.1,H3.out.2.2]
         rw [z1] at o1
         have e2:2 * (G+1)=2+2 * G:=by omega
         refine ⟨qb,cc,?_,by rw [e2] at o1;exact o1,o3⟩
         show Ending.returned (Value.slice (some ⟨qb,0,none⟩) (2 * (G+1)) cc)=_
         rw [e2]
  ·have q1:¬ (a:Int) < ((n+1:Nat):Int):=by omega
   have q1b:¬ (a:Int) < (n:Int)+1:=by omega
   have HK:=hid (And.intro kr hf.out)
   clear kr hf
   go_wp2_with fail
   go_ret
   rw [HK.out.2,show n+1 - a=0 by omega]
   exact ⟨rfl,HK.out.1⟩
end
