import Derived.Test.YtnfglkdkmcocnaaGreatDoorR34
set_option maxRecDepth 100000
set_option maxHeartbeats 16000000
set_option linter.all false
namespace Go.Proofs.YtnfglkdkmcocnaaGreatDoor
open Go.RowKit
section
variable {w w' w1:World} {B b q:Nat} {src:ByteArray} {k g:Nat} {bad:Int} {v v' v1:Value} {N:List Nw}
theorem brace_open {l g':Nat} {x:Pn} (hx:notEdge x) (hraw:x.raw≤400000000000000000) (h123:saw src l 123=true) (hA:Calls Tryz.prog 210 #[.pointer (some ⟨b,0,none⟩)] w (RpO src B b q k v N 0 1 w (.ok (l,g',x)))) (hn:N.length+6 * (src.size - k)≤90000) (hOk:∀ l2 g2 y,pcR src (.ok (l,g',x))=.ok (l2,g2,y)→y.Ok) {l14 a':Nat} (hN:numP src (l+1)=.ok (l14,a')) (h44:saw src l14 44=true) (hs:saw src (l14+1) 125=true) :
  Calls Tryz.prog 167 #[.pointer (some ⟨b,0,none⟩)] w (RpO src B b q k v N 0 1 w (pcR src (.ok (l,g',x)))):=by
 have HP:=hid hN
 clear hN
 have HE:=hid (show pcR src (.ok (l,g',x))=.ok (l14+2,g',.rep x a' none) from pcR_rep hx (r:=some (a',none)) (rep_e4 h123 HP.out h44 hs))
 have hls:=saw_lt h123
 have h42:=saw_not (y:=42) h123 (by omega)
 have h43:=saw_not (y:=43) h123 (by omega)
 have h63:=saw_not (y:=63) h123 (by omega)
 have HA:=hid hA
 have HOk:=hid hOk
 clear hA hOk
 go_enter Tryz.func167,Tryz.ntmps167
 go_wp2_with fail
 refine HA.out.mono ?_
 rintro e w6 ⟨i,v6,M,rfl,k6,hf,hi,p6,hr,hl⟩
 obtain ⟨NM,hNM⟩:∃ NM,NM=N++M:=⟨_,rfl⟩
 have HM:=hid (And.intro k6 (And.intro hi (And.intro p6 (And.intro hr (And.intro hl hNM)))))
 rw [←hNM] at p6 hr
 have hnn:NM.length≤100000:=by have:=hl.1;rw [hNM,List.length_append];omega
 obtain ⟨p,hp,hsz,hkd⟩:=hr.kind hx
 obtain ⟨gb,c,hv6,hlt,hcn,hcell⟩:=p6.nodes hp
 have hc0:=hcell 0 _ (by omega) (ndC_at p.1 p.2).1
 rw [Nat.add_zero] at hc0
 obtain ⟨kd,hkk⟩:∃ kd,p.1.kind=kd:=⟨_,rfl⟩
 rw [hkk] at hc0 hkd
 have e2:((kd:Int) == 2)=false:=by rw [beq_eq_false_iff_ne];omega
 have e3:((kd:Int) == 3)=false:=by rw [beq_eq_false_iff_ne];omega
 have c3:=p6.pr.c3
 have q0:=p6.q0
 rw [hv6] at q0
 obtain ⟨sz,hsz'⟩:∃ sz,x.raw=sz:=⟨_,rfl⟩
 rw [hsz'] at hsz hraw
 have P7:=p6.keep (Kp.alloc [] w6 (.cells #[.int .i64 (i:Nat)] 3))
 have F7:=Kd.fresh w6 (j:=i) p6.hB p6.vlt
 obtain ⟨w7,hw7⟩:∃ w7,w7=w6.alloc (.cells #[.int .i64 (i:Nat)] 3):=⟨_,rfl⟩
 have k7:Pk b q v6 v6 w6 w7:=by rw [hw7];exact Pk.of_kp (S:=[]) (Kp.alloc _ _ _) (by simp)
 rw [←hw7] at P7 F7
 obtain ⟨hs6,hhs⟩:∃ hs6,hs6=w6.heap.size:=⟨_,rfl⟩
 rw [←hhs] at F7
 have HS:=hid (And.intro hp (And.intro hsz (And.intro hnn (And.intro hsz' (And.intro P7 (And.intro F7 k7))))))
 have HW:=hid (And.intro hw7 hhs)
 have HFr:=hid (And.intro hf (show ∀ z,(Value.slice (some ⟨hs6,0,none⟩) 1 1).ownBlock=some z→w.heap.size≤z from fun z hz=>by have e:hs6=z:=Option.some.inj hz;have:=k6.kp.size;omega))
 clear k6 hf hi hr hl hNM hcell hp hkd hv6 hsz hnn hsz' F7 k7 hw7 hhs hkk P7
 go_wp2_with fail
 refine (okR_any p6.pr (v:=true) (by simp)).mono ?_
 rintro e w8 ⟨rfl,rfl⟩
 go_wp2_with fail
 refine (sizeOf_any p6 HS.out.1 HS.out.2.2.1).mono ?_
 rw [HS.out.2.1]
 rintro e w8 ⟨rfl,rfl⟩
 clear p6 c3 q0 hc0
 go_upto_region 6 with fail
 rw [←HW.out.1,←HW.out.2]
 have pk0:∀ (r:Except Nat (Nat×Nat×Pn)),pcR src (.ok (l,g',x))=r→∀ e wx,((∀ l2 g2 y,r=.ok (l2,g2,y)→y.Ok)→RpO src B b q k v N 0 1 w r e wx)→RpO src B b q k v N 0 1 w (pcR src (.ok (l,g',x))) e wx:=fun r h e wx hr=>by rw [h];exact hr fun l2 g2 y e2=>HOk.out _ _ _ (h.trans e2)
 have HQ:=hid pk0
 clear pk0
 have P8:=HS.out.2.2.2.2.1
 have F8:=HS.out.2.2.2.2.2.1
 have K8:=HS.out.2.2.2.2.2.2
 go_wp2_with fail
 refine (takeR_any 42 P8.pr h42).mono ?_
 rintro e w9 ⟨rfl,pp,kk⟩
 have P9:=P8.move kk (by simp) pp
 have F9:=F8.keep kk (fun y hy=>by rw [List.mem_singleton.1 hy];exact P8.hb)
 have K9:=K8.trans (Pk.of_kp (v:=v6) (q:=q) kk (by simp))
 clear pp kk P8 F8 K8
 have P9:Ps w9 B b q src (l) g' (-1) v6 NM:=P9
 go_wp2_with fail
 refine (takeR_any 43 P9.pr h43).mono ?_
 rintro e w10 ⟨rfl,pp,kk⟩
 have P10:=P9.move kk (by simp) pp
 have F10:=F9.keep kk (fun y hy=>by rw [List.mem_singleton.1 hy];exact P9.hb)
 have K10:=K9.trans (Pk.of_kp (v:=v6) (q:=q) kk (by simp))
 clear pp kk P9 F9 K9
 have P10:Ps w10 B b q src (l) g' (-1) v6 NM:=P10
 go_wp2_with fail
 refine (takeR_any 63 P10.pr h63).mono ?_
 rintro e w11 ⟨rfl,pp,kk⟩
 have P11:=P10.move kk (by simp) pp
 have F11:=F10.keep kk (fun y hy=>by rw [List.mem_singleton.1 hy];exact P10.hb)
 have K11:=K10.trans (Pk.of_kp (v:=v6) (q:=q) kk (by simp))
 clear pp kk P10 F10 K10
 have P11:Ps w11 B b q src (l) g' (-1) v6 NM:=P11
 go_wp2_with fail
 refine (takeR_any 123 P11.pr h123).mono ?_
 rintro e w12 ⟨rfl,pp,kk⟩
 have P12:=P11.move kk (by simp) pp
 have F12:=F11.keep kk (fun y hy=>by rw [List.mem_singleton.1 hy];exact P11.hb)
 have K12:=K11.trans (Pk.of_kp (v:=v6) (q:=q) kk (by simp))
 clear pp kk P11 F11 K11
 have P12':Ps w12 B b q src (l+1) g' (-1) v6 NM:=P12
 have H12:=hid (And.intro P12' (And.intro F12 K12))
 clear F12 K12 P12
 go_wp2_with fail
 refine (number_r P12'.pr (by omega) 0 (by omega)).mono ?_
 rintro e w13 ⟨a,l13,bd,rfl,ha,hl13,p13,k13,hnum⟩
 have P13:=P12'.move k13 (by simp) p13
 have F13:=H12.out.2.1.keep k13 (fun y hy=>by rw [List.mem_singleton.1 hy];exact P12'.hb)
 have K13:=H12.out.2.2.trans (Pk.of_kp (v:=v6) (q:=q) k13 (by simp))
 obtain ⟨z0,wz0⟩:∃ z,IntKind.i64.wrap ((a:Int) * (sz:Int))=z:=⟨_,rfl⟩
 have HN:=hid (And.intro hnum (And.intro F13 K13))
 clear hnum F13 K13 p13 k13 P12'
 obtain ⟨e1,e2,e3⟩:a=a'∧l13=l14∧bd = -1:=by
  have:=HN.out.1;rw [HP.out] at this
  exact ⟨this.1,this.2.1,by rw [this.2.2,if_neg (by omega)]⟩
 subst e1 e2 e3
 have F13:=HN.out.2.1
 have K13:=HN.out.2.2
 clear HN
 have hl13':=saw_lt h44
 go_wp2_with fail
 refine (okR_any P13.pr (v:=true) (by simp)).mono ?_
 rintro e w41 ⟨rfl,rfl⟩
 go_wp2_with fail
 refine (takeR_any 44 P13.pr h44).mono ?_
 rintro e w42 ⟨rfl,pp,kk⟩
 have P14:=P13.move kk (by simp) pp
 have F14:=F13.keep kk (fun y hy=>by rw [List.mem_singleton.1 hy];exact P13.hb)
 have K14:=K13.trans (Pk.of_kp (v:=v6) (q:=q) kk (by simp))
 clear pp kk P13 F13 K13
 have Q14:Ps w42 B b q src (l13+1) g' (-1) v6 NM:=P14
 clear P14
 obtain ⟨z1,wz1⟩:∃ z,IntKind.i64.wrap (((a:Int)+1) * (sz:Int))=z:=⟨_,rfl⟩
 obtain ⟨z2,wz2⟩:∃ z,IntKind.i64.wrap (z1+1)=z:=⟨_,rfl⟩
 have wa1:IntKind.i64.wrap ((a:Int)+1)=((a+1:Nat):Int):=wrap_i64_succ a (a+1) rfl (by omega)
 have HZ1:=hid (And.intro wz1 wz2)
 have hz125:pk src (l13+1)=125:=pk_of (c:=125) hs
 go_wp2_with fail
 refine (peekR_v Q14.pr hz125).mono ?_
 rintro e w30 ⟨rfl,n30,rfl⟩
 have Q15:=Q14.keep (Kp.drewN [] _ n30)
 have F15:=F14.keep (Kp.drewN [] _ n30) (by simp)
 have K15:=K14.trans (Pk.of_kp (v:=v6) (q:=q) (Kp.drewN [] _ n30) (by simp))
 obtain ⟨w31,hw31⟩:∃ w31,w31=World.drewN w42 n30:=⟨_,rfl⟩
 rw [←hw31] at Q15 F15 K15 ⊢
 clear Q14 F14 K14 hw31 wz0 wz1 wz2 wa1
 go_wp2_with fail
 refine (okR_any Q15.pr (v:=true) (by simp)).mono ?_
 rintro e w43 ⟨rfl,rfl⟩
 go_wp2_with fail
 refine (takeR_any 125 Q15.pr hs).mono ?_
 rintro e w44 ⟨rfl,pp,kk⟩
 have P16:=Q15.move kk (by simp) pp
 have F16:=F15.keep kk (fun y hy=>by rw [List.mem_singleton.1 hy];exact Q15.hb)
 have K16:=K15.trans (Pk.of_kp (v:=v6) (q:=q) kk (by simp))
 clear pp kk Q15 F15 K15
 have Q16:Ps w44 B b q src (l13+2) g' (-1) v6 NM:=P16
 clear P16
 have HZ2:=hid (z_open (num_ok HP.out) hraw HZ1.out.1 HZ1.out.2)
 clear HZ1
 have en:=rep_node hs6 (a:Int) (-1) z2 [i]
 have H9:=hid (And.intro Q16 (And.intro F16 K16))
 clear Q16 F16 K16
 go_wp2_with fail
 refine (node_push H9.out.1 ⟨7,noBytes,0,(a:Int),(-1),[i],z2⟩ H9.out.2.1 HS.out.2.2.1).mono ?_
 rintro e w10 ⟨rfl,v10,p10,k10⟩
 have H10:=hid (And.intro p10 k10)
 clear p10 k10
 go_wp2_with fail
 go_ret
 obtain ⟨hp,hsz,hnn,hsz',_⟩:=HS.out
 obtain ⟨k6,hi,p6,hr,hl,hNM⟩:=HM.out
 subst hNM
 refine HQ.out _ HE.out _ _ (fun hok=>?_)
 have hl14':=num_next HP.out
 have hl15':=saw_lt hs
 exact rep_fin (hok _ _ _ rfl) HFr.out.1 HFr.out.2 (Nat.lt_of_succ_le (Nat.le_of_eq hi)) hr hl ⟨by omega,by omega⟩ H10.out.1 rfl rfl (by rw [Pn.raw,hsz'];exact HZ2.out) (k6.trans (H9.out.2.2.trans H10.out.2))
theorem brace_two0 {l g':Nat} {x:Pn} (hx:notEdge x) (hraw:x.raw≤400000000000000000) (h123:saw src l 123=true) (hA:Calls Tryz.prog 210 #[.pointer (some ⟨b,0,none⟩)] w (RpO src B b q k v N 0 1 w (.ok (l,g',x)))) (hn:N.length+6 * (src.size - k)≤90000) (hOk:∀ l2 g2 y,pcR src (.ok (l,g',x))=.ok (l2,g2,y)→y.Ok) {l14 a':Nat} (hN:numP src (l+1)=.ok (l14,a')) (h44:saw src l14 44=true) (hs:saw src (l14+1) 125=false) {pl:Nat} (hN2:numP src (l14+1)=.error pl) :
  Calls Tryz.prog 167 #[.pointer (some ⟨b,0,none⟩)] w (RpO src B b q k v N 0 1 w (pcR src (.ok (l,g',x)))):=by
 obtain ⟨zp,hzp⟩:∃ z,pk src (l14+1)=z:=⟨_,rfl⟩
 have zpn:=hid (show (zp != 125)=true by rw [←hzp];exact pk_not hs)
 have HP:=hid hN
 clear hN
 have HB:=hid hN2
 clear hN2
 have HE:=hid (show pcR src (.ok (l,g',x))=.error pl from pcR_bad hx (rep_e5 h123 HP.out h44 hs HB.out))
 have hls:=saw_lt h123
 have h42:=saw_not (y:=42) h123 (by omega)
 have h43:=saw_not (y:=43) h123 (by omega)
 have h63:=saw_not (y:=63) h123 (by omega)
 have HA:=hid hA
 have HOk:=hid hOk
 clear hA hOk
 go_enter Tryz.func167,Tryz.ntmps167
 go_wp2_with fail
 refine HA.out.mono ?_
 rintro e w6 ⟨i,v6,M,rfl,k6,hf,hi,p6,hr,hl⟩
 obtain ⟨NM,hNM⟩:∃ NM,NM=N++M:=⟨_,rfl⟩
 have HM:=hid (And.intro k6 (And.intro hi (And.intro p6 (And.intro hr (And.intro hl hNM)))))
 rw [←hNM] at p6 hr
 have hnn:NM.length≤100000:=by have:=hl.1;rw [hNM,List.length_append];omega
 obtain ⟨p,hp,hsz,hkd⟩:=hr.kind hx
 obtain ⟨gb,c,hv6,hlt,hcn,hcell⟩:=p6.nodes hp
 have hc0:=hcell 0 _ (by omega) (ndC_at p.1 p.2).1
 rw [Nat.add_zero] at hc0
 obtain ⟨kd,hkk⟩:∃ kd,p.1.kind=kd:=⟨_,rfl⟩
 rw [hkk] at hc0 hkd
 have e2:((kd:Int) == 2)=false:=by rw [beq_eq_false_iff_ne];omega
 have e3:((kd:Int) == 3)=false:=by rw [beq_eq_false_iff_ne];omega
 have c3:=p6.pr.c3
 have q0:=p6.q0
 rw [hv6] at q0
 obtain ⟨sz,hsz'⟩:∃ sz,x.raw=sz:=⟨_,rfl⟩
 rw [hsz'] at hsz hraw
 have P7:=p6.keep (Kp.alloc [] w6 (.cells #[.int .i64 (i:Nat)] 3))
 have F7:=Kd.fresh w6 (j:=i) p6.hB p6.vlt
 obtain ⟨w7,hw7⟩:∃ w7,w7=w6.alloc (.cells #[.int .i64 (i:Nat)] 3):=⟨_,rfl⟩
 have k7:Pk b q v6 v6 w6 w7:=by rw [hw7];exact Pk.of_kp (S:=[]) (Kp.alloc _ _ _) (by simp)
 rw [←hw7] at P7 F7
 obtain ⟨hs6,hhs⟩:∃ hs6,hs6=w6.heap.size:=⟨_,rfl⟩
 rw [←hhs] at F7
 have HS:=hid (And.intro hp (And.intro hsz (And.intro hnn (And.intro hsz' (And.intro P7 (And.intro F7 k7))))))
 have HW:=hid (And.intro hw7 hhs)
 have HFr:=hid (And.intro hf (show ∀ z,(Value.slice (some ⟨hs6,0,none⟩) 1 1).ownBlock=some z→w.heap.size≤z from fun z hz=>by have e:hs6=z:=Option.some.inj hz;have:=k6.kp.size;omega))
 clear k6 hf hi hr hl hNM hcell hp hkd hv6 hsz hnn hsz' F7 k7 hw7 hhs hkk P7
 go_wp2_with fail
 refine (okR_any p6.pr (v:=true) (by simp)).mono ?_
 rintro e w8 ⟨rfl,rfl⟩
 go_wp2_with fail
 refine (sizeOf_any p6 HS.out.1 HS.out.2.2.1).mono ?_
 rw [HS.out.2.1]
 rintro e w8 ⟨rfl,rfl⟩
 clear p6 c3 q0 hc0
 go_upto_region 6 with fail
 rw [←HW.out.1,←HW.out.2]
 have pk0:∀ (r:Except Nat (Nat×Nat×Pn)),pcR src (.ok (l,g',x))=r→∀ e wx,((∀ l2 g2 y,r=.ok (l2,g2,y)→y.Ok)→RpO src B b q k v N 0 1 w r e wx)→RpO src B b q k v N 0 1 w (pcR src (.ok (l,g',x))) e wx:=fun r h e wx hr=>by rw [h];exact hr fun l2 g2 y e2=>HOk.out _ _ _ (h.trans e2)
 have HQ:=hid pk0
 clear pk0
 have P8:=HS.out.2.2.2.2.1
 have F8:=HS.out.2.2.2.2.2.1
 have K8:=HS.out.2.2.2.2.2.2
 go_wp2_with fail
 refine (takeR_any 42 P8.pr h42).mono ?_
 rintro e w9 ⟨rfl,pp,kk⟩
 have P9:=P8.move kk (by simp) pp
 have F9:=F8.keep kk (fun y hy=>by rw [List.mem_singleton.1 hy];exact P8.hb)
 have K9:=K8.trans (Pk.of_kp (v:=v6) (q:=q) kk (by simp))
 clear pp kk P8 F8 K8
 have P9:Ps w9 B b q src (l) g' (-1) v6 NM:=P9
 go_wp2_with fail
 refine (takeR_any 43 P9.pr h43).mono ?_
 rintro e w10 ⟨rfl,pp,kk⟩
 have P10:=P9.move kk (by simp) pp
 have F10:=F9.keep kk (fun y hy=>by rw [List.mem_singleton.1 hy];exact P9.hb)
 have K10:=K9.trans (Pk.of_kp (v:=v6) (q:=q) kk (by simp))
 clear pp kk P9 F9 K9
 have P10:Ps w10 B b q src (l) g' (-1) v6 NM:=P10
 go_wp2_with fail
 refine (takeR_any 63 P10.pr h63).mono ?_
 rintro e w11 ⟨rfl,pp,kk⟩
 have P11:=P10.move kk (by simp) pp
 have F11:=F10.keep kk (fun y hy=>by rw [List.mem_singleton.1 hy];exact P10.hb)
 have K11:=K10.trans (Pk.of_kp (v:=v6) (q:=q) kk (by simp))
 clear pp kk P10 F10 K10
 have P11:Ps w11 B b q src (l) g' (-1) v6 NM:=P11
 go_wp2_with fail
 refine (takeR_any 123 P11.pr h123).mono ?_
 rintro e w12 ⟨rfl,pp,kk⟩
 have P12:=P11.move kk (by simp) pp
 have F12:=F11.keep kk (fun y hy=>by rw [List.mem_singleton.1 hy];exact P11.hb)
 have K12:=K11.trans (Pk.of_kp (v:=v6) (q:=q) kk (by simp))
 clear pp kk P11 F11 K11
 have P12':Ps w12 B b q src (l+1) g' (-1) v6 NM:=P12
 have H12:=hid (And.intro P12' (And.intro F12 K12))
 clear F12 K12 P12
 go_wp2_with fail
 refine (number_r P12'.pr (by omega) 0 (by omega)).mono ?_
 rintro e w13 ⟨a,l13,bd,rfl,ha,hl13,p13,k13,hnum⟩
 have P13:=P12'.move k13 (by simp) p13
 have F13:=H12.out.2.1.keep k13 (fun y hy=>by rw [List.mem_singleton.1 hy];exact P12'.hb)
 have K13:=H12.out.2.2.trans (Pk.of_kp (v:=v6) (q:=q) k13 (by simp))
 obtain ⟨z0,wz0⟩:∃ z,IntKind.i64.wrap ((a:Int) * (sz:Int))=z:=⟨_,rfl⟩
 have HN:=hid (And.intro hnum (And.intro F13 K13))
 clear hnum F13 K13 p13 k13 P12'
 obtain ⟨e1,e2,e3⟩:a=a'∧l13=l14∧bd = -1:=by
  have:=HN.out.1;rw [HP.out] at this
  exact ⟨this.1,this.2.1,by rw [this.2.2,if_neg (by omega)]⟩
 subst e1 e2 e3
 have F13:=HN.out.2.1
 have K13:=HN.out.2.2
 clear HN
 have hl13':=saw_lt h44
 go_wp2_with fail
 refine (okR_any P13.pr (v:=true) (by simp)).mono ?_
 rintro e w41 ⟨rfl,rfl⟩
 go_wp2_with fail
 refine (takeR_any 44 P13.pr h44).mono ?_
 rintro e w42 ⟨rfl,pp,kk⟩
 have P14:=P13.move kk (by simp) pp
 have F14:=F13.keep kk (fun y hy=>by rw [List.mem_singleton.1 hy];exact P13.hb)
 have K14:=K13.trans (Pk.of_kp (v:=v6) (q:=q) kk (by simp))
 clear pp kk P13 F13 K13
 have Q14:Ps w42 B b q src (l13+1) g' (-1) v6 NM:=P14
 clear P14
 obtain ⟨z1,wz1⟩:∃ z,IntKind.i64.wrap (((a:Int)+1) * (sz:Int))=z:=⟨_,rfl⟩
 obtain ⟨z2,wz2⟩:∃ z,IntKind.i64.wrap (z1+1)=z:=⟨_,rfl⟩
 have wa1:IntKind.i64.wrap ((a:Int)+1)=((a+1:Nat):Int):=wrap_i64_succ a (a+1) rfl (by omega)
 have HZ1:=hid (And.intro wz1 wz2)
 go_wp2_with fail
 refine (peekR_v Q14.pr hzp).mono ?_
 rintro e w30 ⟨rfl,n30,rfl⟩
 have Q15:=Q14.keep (Kp.drewN [] _ n30)
 have F15:=F14.keep (Kp.drewN [] _ n30) (by simp)
 have K15:=K14.trans (Pk.of_kp (v:=v6) (q:=q) (Kp.drewN [] _ n30) (by simp))
 obtain ⟨w31,hw31⟩:∃ w31,w31=World.drewN w42 n30:=⟨_,rfl⟩
 rw [←hw31] at Q15 F15 K15 ⊢
 clear Q14 F14 K14 hw31 wz0 wz1 wz2 wa1
 clear HZ1 hzp
 have qn:(zp != 125)=true:=zpn.out
 go_wp2_with fail
 refine (number_r Q15.pr (by omega) a (by omega)).mono ?_
 rintro e w32 ⟨a2,l16,bd2,rfl,ha2,hl16,pp,kk,hnum2⟩
 have P16:=Q15.move kk (by simp) pp
 have F16:=F15.keep kk (fun y hy=>by rw [List.mem_singleton.1 hy];exact Q15.hb)
 have K16:=K15.trans (Pk.of_kp (v:=v6) (q:=q) kk (by simp))
 have HN2:=hid hnum2
 clear pp kk Q15 F15 K15 hnum2
 obtain ⟨z3,wz3⟩:∃ z,IntKind.i64.wrap ((a2:Int) * (sz:Int))=z:=⟨_,rfl⟩
 obtain ⟨z4,wz4⟩:∃ z,IntKind.i64.wrap (z3+(a2:Int))=z:=⟨_,rfl⟩
 obtain ⟨z5,wz5⟩:∃ z,IntKind.i64.wrap (z4 - (a:Int))=z:=⟨_,rfl⟩
 have HZ3:=hid (And.intro wz3 (And.intro wz4 wz5))
 have hbd:bd2=(pl:Nat):=by have:=HN2.out;rw [HB.out] at this;exact this
 subst hbd
 clear HN2
 go_wp2_with fail
 refine (okR_any P16.pr (v:=false) (by simp)).mono ?_
 rintro e w43 ⟨rfl,rfl⟩
 have c1:=P16.pr.c1
 go_wp2_with fail
 refine (failR_late P16.pr _ (by omega)).mono ?_
 rintro e w44 ⟨rfl,rfl⟩
 clear c1
 have en:=rep_node hs6 (a:Int) (a2:Int) z5 [i]
 have H9:=hid (And.intro P16 (And.intro F16 K16))
 clear P16 F16 K16
 go_wp2_with fail
 refine (node_push H9.out.1 ⟨7,noBytes,0,(a:Int),(a2:Int),[i],z5⟩ H9.out.2.1 HS.out.2.2.1).mono ?_
 rintro e w10 ⟨rfl,v10,p10,k10⟩
 have H10:=hid (And.intro p10 k10)
 clear p10 k10
 go_wp2_with fail
 go_ret
 obtain ⟨hp,hsz,hnn,hsz',_⟩:=HS.out
 obtain ⟨k6,hi,p6,hr,hl,hNM⟩:=HM.out
 subst hNM
 refine HQ.out _ HE.out _ _ (fun hok=>?_)
 exact rep_bad HFr.out.1 HFr.out.2 (by have:=hl.1;omega) H10.out.1 (k6.trans (H9.out.2.2.trans H10.out.2))
end
