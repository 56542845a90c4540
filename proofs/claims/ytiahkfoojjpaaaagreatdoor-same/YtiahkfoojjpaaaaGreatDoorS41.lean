import Derived.Test.YtiahkfoojjpaaaaGreatDoorS36
set_option maxRecDepth 100000
set_option maxHeartbeats 16000000
set_option linter.all false
namespace Go.Proofs.YtiahkfoojjpaaaaGreatDoor
open Go.RowKit
theorem PR(mb db:Nat)(r:Mrw)(v:Value)(l:List ByteArray):maB mb db { r with vb:=v,br:=l}=fun j=>if j=5 then v.ownBlock else maB mb db r j:=by
 funext i
 rcases i with _|_|_|_|_|_|i<;>simp[maB]
section
variable {w0 w w' w2 w1:World}{mb sb db lo hi:Nat}{s s':Mst}{u:Ust}{σ:Sst}{ca co:Nat}{cv:List Value}
theorem Mac.pushBr{v':Value}{x:ByteArray}(h:Mac w0 w mb sb db s)(k1:Kp s.r.vb.ownBlock.toList w w1)(row:w1.ownsRow w0.heap.size 9 1 v' (s.r.br.length+1) (s.r.br.map .string++[.string x]))(hat:∀g,v'.ownBlock=some g->s.r.vb.ownBlock=some g\/w.heap.size<=g):Mac w0 (w1.setCell ⟨mb,16,none⟩ v') mb sb db { s with r:={ s.r with vb:=v',br:=s.r.br++[x]}} /\
   Gr mb db w s.r (w1.setCell ⟨mb,16,none⟩ v') { s.r with vb:=v',br:=s.r.br++[x]}:=by
 have mlt:=h.b.lt;have hS:∀x∈mb::s.r.vb.ownBlock.toList,∃i,maB mb db s.r i=some x:=fun x hx=>by
  rcases List.mem_cons.1 hx with q|q
  .exact⟨0,by rw[q];rfl⟩
  .exact⟨5,by simpa[maB] using q⟩
 have nmb:mb∉s.r.vb.ownBlock.toList:=fun e=>h.JD 5 (by omega) (by simpa[maB] using e);have ks:Kp [mb] w1 (w1.setCell ⟨mb,16,none⟩ v'):=Kp.setCell _ _ (by simp);have kk:Kp (mb::s.r.vb.ownBlock.toList) w (w1.setCell ⟨mb,16,none⟩ v'):=(k1.mono (by simp_all)).trans (ks.mono (by simp))
 have hh:∀i p,i≠0->i≠5->maB mb db s.r i=some p->(w1.setCell ⟨mb,16,none⟩ v').heap[p]? = w.heap[p]?:=fun i p h0 h2 hp=>kk.block p (h.r.bk.hi i p hp) (fun e=>by
  rcases List.mem_cons.1 e with q|q
  .exact h0 (h.r.bk.ne i 0 p hp (by rw[q];rfl))
  .exact h2 (h.r.bk.ne i 5 p hp (by simpa[maB] using q)))
 have vne:v'.ownBlock≠some mb:=fun e=>by
  rcases hat mb e with q|q
  .have:=h.r.bk.ne 5 0 mb q rfl;omega
  .omega
 have B1:Bl w1 mb (Fy sb db s):=h.b.aj k1 nmb;have lo0:=h.r.kp.size;have bk':Bk.ok w0.heap.size (w1.setCell ⟨mb,16,none⟩ v').heap.size (maB mb db { s.r with vb:=v',br:=s.r.br++[x]}):=by
  rw[PR]
  cases hv:v'.ownBlock with
  | none=>
   refine⟨fun i p hp=>?_,fun i p hp=>?_,fun i j p hi hj=>?_⟩
   .split at hp
    .cases hp
    .exact h.r.bk.lo i p hp
   .split at hp
    .cases hp
    .exact Qx (h.r.bk.hi i p hp) kk.size
   .split at hi<;>split at hj
    .omega
    .cases hi
    .cases hj
    .exact h.r.bk.ne i j p hi hj
  | some g=>
   refine h.r.bk.upd 5 g kk.size lo0 ?_;rcases hat g hv with q|q
   .exact .inl q
   .exact .inr ⟨q,Qx (aA row hv).2 ks.size⟩
 refine⟨⟨B1.set 16 v' (by show 16<20;omega),⟨?_,ag h.r.o2 (fun p hp=>hh 2 p (by omega) (by omega) hp),ag h.r.o3 (fun p hp=>hh 3 p (by omega) (by omega) hp),fun i v hv=>?_,ag h.r.o4 (fun p hp=>hh 4 p (by omega) (by omega) hp),?_,(hh 1 _ (by omega) (by omega) rfl).trans h.r.md,bk',h.r.fll⟩⟩,⟨kk.size,fun i p hp=>?_,fun p hp hn=>kk.block p hp (fun e=>by obtain⟨i,hi⟩:=hS p e;exact hn i hi)⟩⟩
 .refine⟨kk.os.trans h.r.kp.os,kk.tape.trans h.r.kp.tape,kk.output.trans h.r.kp.output,QC lo0 kk.size,fun j hj _=>(kk.block j (Qx hj lo0) (fun e=>?_)).trans (h.r.kp.block j hj (by simp))⟩;obtain⟨i,hi⟩:=hS j e;have:=h.r.bk.lo i j hi;omega
 .obtain⟨bs,h1,h2⟩:=h.r.ofl i v hv;exact⟨bs,h1,ag h2 (fun p hp=>hh (i+6) p (by omega) (by omega) (show(s.r.fl[i]?).bind Value.ownBlock=some p by rw[hv];exact hp))⟩
 .show World.ownsRow _ _ _ 1 v' (s.r.br++[x]).length ((s.r.br++[x]).map .string);rw[Qy,Q6];exact ag row (fun p hp=>ks.block p (aA row hp).2 (fun e=>vne (by simp at e;rw[<-e];exact hp)))
 .rw[PR] at hp;replace hp:(if i=5 then v'.ownBlock else maB mb db s.r i)=some p:=hp;split at hp
  .rcases hat p hp with q|q
   .exact .inl ⟨5,q⟩
   .exact .inr q
  .exact .inl ⟨i,hp⟩
theorem bring_t{t:List UInt8}(h:Mac w0 w mb sb db s)(hc:Cu w0 ca co cv)(h10:cv[10]? = some (.string (ba t)))(hp:s.p=u.p)(hu:UOk u):Calls Tryz.prog 60 #[.pointer (some ⟨mb,0,none⟩),.pointer (some ⟨ca,co,none⟩)] w (dJ w0 mb sb db w s (.ok { u with br:=u.br++[t]})):=by
 have hbr:s.r.br=u.br.map ba:=congrArg Pst.br hp;have hbl:s.r.br.length<=2001:=by rw[hbr,Q7];exact hu.bl
 obtain⟨A,c,ev,_,_⟩:=aZ h.r.o5;obtain⟨i0,hi,hz0,hz1,hz2⟩:=info_parts Tryz.JQ;have HI:=hid (And.intro hi (And.intro hz0 (And.intro hz1 hz2)));clear hi hz0 hz1 hz2;have k0:=Kp.drew [] w;have m3:=h.aj k0;have c10:=hc.now m3 h10
 have HP:Hid (∀v',({ s with r:={ s.r with vb:=v',br:=s.r.br++[ba t]}}:Mst).p=({ u with br:=u.br++[t]}:Ust).p):=hid (fun v'=>by
  show({ s.p with br:=s.r.br++[ba t]}:Pst)=_;rw[hp,hbr];show _=({ u.p with br:=(u.br++[t]).map ba}:Pst);rw[Q6]
  rfl)
 have G0:Hid (Gr mb db w s.r w.drew s.r):=hid (Gr.dj k0 (fun _ e=>by cases e));have hclt:ca<w.drew.heap.size:=World.block_lt_of_cell? _ _ c10;have hcb:∀p,s.r.vb.ownBlock=some p->ca≠p:=fun p hp e=>by have:=h.r.bk.lo 5 p hp;have:=hc.lt;omega
 clear hbr hp hu h10 h;obtain⟨w3,hw3⟩:∃w3,w3=w.drew:=⟨_,rfl⟩;rw[<-hw3] at m3 c10 G0 hclt;go_enter Tryz.func60,Tryz.ntmps60
 go_upto_region 0 with fail
 refine az (fun w':World=>w'.cell? ⟨mb,16,none⟩=some (.slice A s.r.br.length c)/\w'.cell? ⟨ca,co+10,none⟩=some (.string (ba t))) 14 (by kernel_rfl) ?_;rw[<-hw3];have hS:(fun w':World=>w'.cell? ⟨mb,16,none⟩=some s.r.vb/\w'.cell? ⟨ca,co+10,none⟩=some (.string (ba t))) w3:=⟨m3.b.at_ 16 _ rfl,c10⟩;rw[ev] at hS;clear hw3 k0;iterate 10(refine tkn (v:=?_) rfl (by kernel_rfl) (fun _ _ _ h=>h) ⟨rfl,fun w hSw=>?_⟩ hS ?_;rotate_left;(focus((try dsimp only at hSw);go_simp;(try with_reducible rfl)));(try simp only[Qt,Qs,Qr,Act.put,Qq,Qu,Qv]))
 have ka:=Kp.alloc [] w3 (.cells #[.string (ba t)] 9);have m7:=m3.aj ka;have hS7:(fun w':World=>w'.cell? ⟨mb,16,none⟩=some (.slice A s.r.br.length c)/\w'.cell? ⟨ca,co+10,none⟩=some (.string (ba t))) (w3.alloc (.cells #[.string (ba t)] 9)):=⟨by rw[<-ev];exact m7.b.at_ 16 _ rfl,(ka.cell (p:=⟨ca,co+10,none⟩) hclt (by simp)).trans c10⟩;have BN:=Bl.alloc w3 [.string (ba t)] 9;refine ai (i:=10) (by kernel_rfl) rfl (fun K hK=>?_);go_simp;refine hK.out _ _ (.inr hS7) ?_;clear hK K;refine ai (i:=11) (by kernel_rfl) rfl (fun K hK=>?_);refine jR (by rfl) (.tmp 8) (.tmp 14) 42 (by rfl) w0.heap.size 9 i0 _ 1 16 Tryz.underlying42 HI.out.1 HI.out.2.1 HI.out.2.2.1 HI.out.2.2.2 rfl (by decide) s.r.vb s.r.br.length (s.r.br.map .string) (by rw[ev];rfl) m7.r.o5 ⟨w3.heap.size,0,none⟩ 1 1 [.string (ba t)] (by rfl) rfl (fun j u hu=>by rw[Addr.add_mid,QH];exact BN.at_ j u hu) (fun u hu=>by simp at hu;subst hu;rfl) (by unfold maxLen;omega) (by omega) m7.r.kp.size (by omega) ?_
 intro g cap w8 ho8 hg8 hor8;have kg:Kp s.r.vb.ownBlock.toList w3 w8:=(ka.mono (by simp)).trans (aX (S:=s.r.vb.ownBlock.toList) hg8 (fun p hp=>by rw[hp];simp));have mlt:=m7.b.lt;have hb2:w8.heap[mb]? = (w3.alloc (.cells #[.string (ba t)] 9)).heap[mb]?:=hg8.block mb mlt (fun e=>by have:=m7.r.bk.ne 0 5 mb rfl (by first|exact e|exact e.symm);omega);have hb3:w8.heap[ca]? = (w3.alloc (.cells #[.string (ba t)] 9)).heap[ca]?:=hg8.block ca (Qx hclt ka.size) (fun e=>hcb ca (by first|exact e|exact e.symm) rfl);have hS8:(fun w':World=>w'.cell? ⟨mb,16,none⟩=some (.slice A s.r.br.length c)/\w'.cell? ⟨ca,co+10,none⟩=some (.string (ba t))) w8:=⟨(World.cell?_of_block hb2).trans hS7.1,(World.cell?_of_block hb3).trans hS7.2⟩;have c16:=hS8.1;have f16:w8.frozen? ⟨mb,16,none⟩=false:=(World.frozen?_of_block hb2).trans (m7.b.free 16)
 obtain⟨m9,g9⟩:=m3.pushBr (v':=.slice (some ⟨g,0,none⟩) (s.r.br.length+1) cap) kg ho8 (fun g' hg'=>by
  have e:g=g':=by simpa[Value.ownBlock] using hg'
  subst e;rcases hor8 with q|q
  .exact .inl q
  .exact .inr (QC ka.size q))
 refine hK.out _ _ (.inr hS8) ?_;clear hK K;have G9:Hid (di w0 mb sb db w s (w8.setCell ⟨mb,16,none⟩ (.slice (some ⟨g,0,none⟩) (s.r.br.length+1) cap)) ({ u with br:=u.br++[t]}:Ust).p):=hid ⟨_,HP.out _,m9,G0.out.trans g9⟩;clear m9 g9 ho8 hg8 hor8 kg m3 m7 ka BN hb2 hb3 hS hS7 HP G0;refine ai (i:=12) (by kernel_rfl) rfl (fun K hK=>?_);go_simp;refine hK.out _ _ (.inr hS8) ?_;clear hK K;refine ai (i:=13) (by kernel_rfl) rfl (fun K hK=>?_);go_simp;refine hK.out _ _ (.inr hS8) ?_;clear hK K;refine ai (i:=14) (by kernel_rfl) rfl (fun K hK=>?_);go_simp;refine hK.out _ _ (.inl rfl) ?_;clear hK K;refine ax (by kernel_rfl) ?_ _;go_wp2_with fail;go_end0;exact⟨rfl,G9.out⟩
theorem write_f{t:ByteArray}{i:Nat}(h:Mac w0 w mb sb db s)(hi:i<s.r.fl.length)(hc:200000<s.count+t.size+1)(hb:s.count+t.size+1<=1000000):Calls Tryz.prog 116 #[.pointer (some ⟨mb,5,none⟩),.int .i64 i,.string t] w fun r w'=>r=iG 10 0/\Mac w0 w' mb sb db { s with count:=s.count+t.size+1}/\Gr mb db w s.r w' s.r:=by
 obtain⟨v,hv⟩:∃v,s.r.fl[i]? = some v:=⟨_,QA hi⟩;obtain⟨g,c,hvf,hcell⟩:∃g c,s.r.vf=.slice (some ⟨g,0,none⟩) s.r.fl.length c/\w.cell? ⟨g,i,none⟩=some v:=by
  rcases h.r.o3.2 with⟨_,q⟩|⟨g,cap,cur,q1,_⟩
  .omega
  .refine⟨g,cap,q1,?_⟩;have o:=h.r.o3;rw[q1] at o;rw[o.cellAt i (by omega),hv]
 have c6:=h.b.at_ 6 _ rfl;rw[hvf] at c6;have md:=h.aj (Kp.drew [] w);have H:=hid (add_f (w:=w.drew) (v:=v) (text:=t) (md.b.at_ 7 _ rfl) (md.b.free 7) hc hb);have M:=hid (md.set (s':={ s with count:=s.count+t.size+1}) 7 (.int .i64 ((s.count+t.size+1:Nat):Int)) (by omega) rfl rfl);have G:Hid (Gr mb db w s.r (w.drew.setCell ⟨mb,7,none⟩ (.int .i64 ((s.count+t.size+1:Nat):Int))) s.r):=hid ((Gr.dj (Kp.drew [] w) (fun _ e=>by cases e)).trans (Gr.set _ _ _ _));obtain⟨n,hn⟩:∃n,n=s.r.fl.length:=⟨_,rfl⟩;rw[<-hn] at c6 hi;clear hn md h hvf hv hc hb;go_enter Tryz.func116,Tryz.ntmps116
 go_wp2_with fail;go_region_dies
 all_goals
  refine H.out.mono ?_;rintro r w1 ⟨rfl,rfl⟩;exact⟨rfl,rfl,M.out,G.out⟩
theorem fb_set(l:List (List UInt8))(i:Nat)(t:List UInt8):l.set i ((l[i]?.getD [])++t++[10])=l.modify i (fun x=>x++t++[10]):=by
 apply Ss;intro j;rw[Sk];by_cases hj:i=j
 .subst hj;by_cases hi:i<l.length
  .rw[QI hi,QA hi];simp
  .rw[List.getElem?_eq_none (by simp;omega),List.getElem?_eq_none (by omega)]
   rfl
 .rw[QL hj];simp[hj]
theorem Au{t:List UInt8}{i:Nat}(h:Mac w0 w mb sb db s)(hp:s.p=u.p)(hu:UOk u)(hi:i<u.fb.length)(ht:t.length<=20000):Calls Tryz.prog 116 #[.pointer (some ⟨mb,5,none⟩),.int .i64 i,.string (ba t)] w (dJ w0 mb sb db w s (u.write i t)):=by
 have hc:s.count=u.count:=congrArg Pst.count hp;have hf:s.r.fb=u.fb:=congrArg Pst.fb hp;have hl:i<s.r.fl.length:=by rw[<-h.r.fll,hf];exact hi
 have h1:=hu.ct;unfold Ust.write;by_cases hb:200000<u.count+t.length+1
 .rw[QB hb];refine(write_f h hl (by rw[hc,ay];exact hb) (by rw[hc,ay];omega)).mono ?_;rintro r w1 ⟨rfl,m1,g1⟩;refine⟨rfl,_,?_,m1,g1⟩;show({ s.p with count:=s.count+(ba t).size+1}:Pst)=_;rw[hp,hc,ay]
  rfl
 .rw[Qw hb];obtain⟨bs,hbs⟩:∃bs,s.r.fb[i]? = some bs:=⟨_,QA (by rw[hf];exact hi)⟩;have hbl:bs.length<=s.count:=by
   rw[hc];refine hu.fb bs ?_;rw[<-hf];exact QM hbs
  refine(write_v (text:=ba t) h (QA hl) hbs (by rw[hc,ay];omega) hbl).mono ?_;rintro r w1 ⟨rfl,g⟩;refine⟨rfl,g.oE ?_⟩;unfold Pst.write;rw[hp,ay,eN];show({ u.p with count:=u.count+t.length+1,fb:=u.fb.set i ((u.fb[i]?.getD [])++t++[10])}:Pst)=_;rw[fb_set]
  rfl
theorem xW{i:Nat}(h:Mac w0 w mb sb db s)(hc:Cu w0 ca co cv)(h7:cv[7]? = some (.int .i64 i))(hp:s.p=u.p)(hu:UOk u)(hi:i<u.fb.length):Calls Tryz.prog 79 #[.pointer (some ⟨mb,0,none⟩),.pointer (some ⟨ca,co,none⟩)] w (dJ w0 mb sb db w s (u.write i u.space)):=by
 have c9:=h.b.at_ 9 _ rfl;have e9:s.space=ba u.space:=congrArg Pst.space hp;rw[e9] at c9;have c7:=hc.now h h7;have l9:=hu.sp;have TE:=Au (t:=u.space) (h.aj (Kp.drew [] w)) hp hu hi (by omega);obtain⟨R,hR⟩:∃R,R=u.write i u.space:=⟨_,rfl⟩;rw[<-hR] at TE ⊢;have HT:=hid TE;clear TE hR
 cases R with
 | error q=>
  obtain⟨E,u1⟩:=q;go_enter Tryz.func79,Tryz.ntmps79
  go_wp2_with fail;go_region_dies
  all_goals
   refine HT.out.mono ?_;rintro r w1 ⟨rfl,g1⟩;exact⟨rfl,rfl,g1.pre (Kp.drew [] w)⟩
 | ok u1=>
  go_enter Tryz.func79,Tryz.ntmps79
  go_wp2_with fail;go_region_with (go_at_call 116;refine HT.out.mono ?_;rintro r w1 ⟨rfl,g1⟩)
  all_goals
   go_wp2_with fail;go_end0;exact⟨rfl,g1.pre (Kp.drew [] w)⟩
theorem GO{t:List UInt8}(h:Mac w0 w mb sb db s)(hc:Cu w0 ca co cv)(h10:cv[10]? = some (.string (ba t)))(ht:t.length<=2000){A:Option Addr}{n c:Nat}(h0:cv[0]? = some (.slice A n c))(hn:n≠2)(hn2:n<=2)(hp:s.p=u.p)(hu:UOk u) :
  Calls Tryz.prog 62 #[.pointer (some ⟨mb,0,none⟩),.pointer (some ⟨ca,co,none⟩)] w (dJ w0 mb sb db w s (match u.tell t with
   | .error e=>.error e
   | .ok u1=>u1.aO)):=by
 have c10:=hc.now h h10;have c0:w.cell? ⟨ca,co,none⟩=some _:=hc.now h h0;have q0:((n:Int)==2)=false:=by rw[Qz];omega
 have TE:∀n,Calls Tryz.prog 112 #[.pointer (some ⟨mb,5,none⟩),.string (ba t)] (w.drewN n).drew (dJ w0 mb sb db (w.drewN n).drew s (u.tell t)):=fun n=>js (h.aj ((Kp.drewN [] w n).trans (Kp.drew [] _))) hp hu (by omega);have HU:Hid (∀u1,u.tell t=.ok u1->UOk u1):=hid (fun u1 q=>(hu.tell q).1);obtain⟨R,hR⟩:∃R,R=u.tell t:=⟨_,rfl⟩;rw[<-hR] at TE HU ⊢;have HT:=hid TE;have HH:=hid h;clear TE hR
 cases R with
 | error q=>
  obtain⟨E,u1⟩:=q;clear h hp hu hc;go_enter Tryz.func62,Tryz.ntmps62
  go_wp2_with fail;go_quiet (fail);go_wp2_with fail;go_region_dies
  all_goals
   refine(HT.out _).mono ?_;rintro r w1 ⟨rfl,g1⟩;exact⟨rfl,rfl,g1.pre ((Kp.drewN [] w _).trans (Kp.drew [] _))⟩
 | ok u1=>
  have HU1:=hid (HU.out u1 rfl);dsimp only;obtain⟨R,hR⟩:∃R,R=u1.aO:=⟨_,rfl⟩;rw[<-hR];have HRR:=hid hR;clear h hp hu hc HU hR;go_enter Tryz.func62,Tryz.ntmps62
  go_wp2_with fail;go_quiet (fail);go_wp2_with fail;go_region_with (go_at_call 112;refine(HT.out _).mono ?_;rintro r w1 ⟨rfl,g1⟩)
  go_wp2_with fail;obtain⟨s1,e1,m1,gr1⟩:=g1;have DC:=fq m1 e1 HU1.out;rw[<-HRR.out] at DC;refine DC.mono ?_;intro r w2 hr;have G0:Gr mb db w s.r w1 s1.r:=(Gr.dj ((Kp.drewN [] w _).trans (Kp.drew [] _)) (fun _ e=>by cases e)).trans gr1;replace hr:=dJ.after G0 hr
  cases R with
  | error q=>
   obtain⟨E,u2⟩:=q;obtain⟨rfl,g2⟩:=hr;go_wp2_with fail;exact⟨rfl,rfl,g2⟩
  | ok u2=>
   obtain⟨rfl,g2⟩:=hr;go_wp2_with fail;go_end0;exact⟨rfl,g2⟩
theorem GN{t:List UInt8}(h:Mac w0 w mb sb db s)(hc:Cu w0 ca co cv)(h10:cv[10]? = some (.string (ba t)))(ht:t.length<=2000){A:Option Addr}{c:Nat}(h0:cv[0]? = some (.slice A 2 c))(h2:cv[2]? = some (.bool true))(hp:s.p=u.p)(hu:UOk u) :
  Calls Tryz.prog 62 #[.pointer (some ⟨mb,0,none⟩),.pointer (some ⟨ca,co,none⟩)] w (dJ w0 mb sb db w s (match u.tell t with
   | .error e=>.error e
   | .ok u1=>u1.aO)):=by
 have c10:=hc.now h h10;have c0:w.cell? ⟨ca,co,none⟩=some _:=hc.now h h0;have c2:=hc.now h h2;have TE:∀n,Calls Tryz.prog 112 #[.pointer (some ⟨mb,5,none⟩),.string (ba t)] (w.drewN n).drew (dJ w0 mb sb db (w.drewN n).drew s (u.tell t)):=fun n=>js (h.aj ((Kp.drewN [] w n).trans (Kp.drew [] _))) hp hu (by omega);have HU:Hid (∀u1,u.tell t=.ok u1->UOk u1):=hid (fun u1 q=>(hu.tell q).1);obtain⟨R,hR⟩:∃R,R=u.tell t:=⟨_,rfl⟩;rw[<-hR] at TE HU ⊢;have HT:=hid TE;have HH:=hid h;clear TE hR
 cases R with
 | error q=>
  obtain⟨E,u1⟩:=q;clear h hp hu hc;go_enter Tryz.func62,Tryz.ntmps62
  go_wp2_with fail;go_quiet (fail);go_wp2_with fail;go_region_dies
  all_goals
   refine(HT.out _).mono ?_;rintro r w1 ⟨rfl,g1⟩;exact⟨rfl,rfl,g1.pre ((Kp.drewN [] w _).trans (Kp.drew [] _))⟩
 | ok u1=>
  have HU1:=hid (HU.out u1 rfl);dsimp only;obtain⟨R,hR⟩:∃R,R=u1.aO:=⟨_,rfl⟩;rw[<-hR];have HRR:=hid hR;clear h hp hu hc HU hR;go_enter Tryz.func62,Tryz.ntmps62
  go_wp2_with fail;go_quiet (fail);go_wp2_with fail;go_region_with (go_at_call 112;refine(HT.out _).mono ?_;rintro r w1 ⟨rfl,g1⟩)
  go_wp2_with fail;obtain⟨s1,e1,m1,gr1⟩:=g1;have DC:=fq m1 e1 HU1.out;rw[<-HRR.out] at DC;refine DC.mono ?_;intro r w2 hr;have G0:Gr mb db w s.r w1 s1.r:=(Gr.dj ((Kp.drewN [] w _).trans (Kp.drew [] _)) (fun _ e=>by cases e)).trans gr1;replace hr:=dJ.after G0 hr
  cases R with
  | error q=>
   obtain⟨E,u2⟩:=q;obtain⟨rfl,g2⟩:=hr;go_wp2_with fail;exact⟨rfl,rfl,g2⟩
  | ok u2=>
   obtain⟨rfl,g2⟩:=hr;go_wp2_with fail;go_end0;exact⟨rfl,g2⟩
theorem GK{t:List UInt8}(h:Mac w0 w mb sb db s)(hc:Cu w0 ca co cv)(h10:cv[10]? = some (.string (ba t)))(ht:t.length<=2000){A:Option Addr}{c i:Nat}(h0:cv[0]? = some (.slice A 2 c))(h2:cv[2]? = some (.bool false))(h1:cv[1]? = some (.int .i64 i))(hrg:u.rg[i]? = some false)(hp:s.p=u.p)(hu:UOk u) :
  Calls Tryz.prog 62 #[.pointer (some ⟨mb,0,none⟩),.pointer (some ⟨ca,co,none⟩)] w (dJ w0 mb sb db w s (match u.tell t with
   | .error e=>.error e
   | .ok u1=>u1.aO)):=by
 have c10:=hc.now h h10;have c0:w.cell? ⟨ca,co,none⟩=some _:=hc.now h h0;have c2:=hc.now h h2;have c1:=hc.now h h1;have erg:s.r.rg=u.rg:=congrArg Pst.rg hp;obtain⟨g,cap,hvr⟩:=fY h.r.o4 (by rw[erg];have:=(List.getElem?_eq_some_iff.1 hrg).1;omega);have hil:=(List.getElem?_eq_some_iff.1 hrg).1;have cg:w.cell? ⟨g,i,none⟩=some (.bool false):=by
  have o:=h.r.o4;rw[hvr] at o;rw[o.cellAt i (by rw[erg];omega),QX,erg,hrg]
  rfl
 have c11:=h.b.at_ 11 _ rfl;rw[hvr,erg] at c11;clear erg hvr;have TE:∀n,Calls Tryz.prog 112 #[.pointer (some ⟨mb,5,none⟩),.string (ba t)] (w.drewN n).drew (dJ w0 mb sb db (w.drewN n).drew s (u.tell t)):=fun n=>js (h.aj ((Kp.drewN [] w n).trans (Kp.drew [] _))) hp hu (by omega);have HU:Hid (∀u1,u.tell t=.ok u1->UOk u1):=hid (fun u1 q=>(hu.tell q).1);obtain⟨R,hR⟩:∃R,R=u.tell t:=⟨_,rfl⟩;rw[<-hR] at TE HU ⊢;have HT:=hid TE;have HH:=hid h;clear TE hR
 cases R with
 | error q=>
  obtain⟨E,u1⟩:=q;clear h hp hu hc;go_enter Tryz.func62,Tryz.ntmps62
  go_wp2_with fail;go_quiet (fail);go_wp2_with fail;go_region_dies
  all_goals
   refine(HT.out _).mono ?_;rintro r w1 ⟨rfl,g1⟩;exact⟨rfl,rfl,g1.pre ((Kp.drewN [] w _).trans (Kp.drew [] _))⟩
 | ok u1=>
  have HU1:=hid (HU.out u1 rfl);dsimp only;obtain⟨R,hR⟩:∃R,R=u1.aO:=⟨_,rfl⟩;rw[<-hR];have HRR:=hid hR;clear h hp hu hc HU hR;go_enter Tryz.func62,Tryz.ntmps62
  go_wp2_with fail;go_quiet (fail);go_wp2_with fail;go_region_with (go_at_call 112;refine(HT.out _).mono ?_;rintro r w1 ⟨rfl,g1⟩)
  go_wp2_with fail;obtain⟨s1,e1,m1,gr1⟩:=g1;have DC:=fq m1 e1 HU1.out;rw[<-HRR.out] at DC;refine DC.mono ?_;intro r w2 hr;have G0:Gr mb db w s.r w1 s1.r:=(Gr.dj ((Kp.drewN [] w _).trans (Kp.drew [] _)) (fun _ e=>by cases e)).trans gr1;replace hr:=dJ.after G0 hr
  cases R with
  | error q=>
   obtain⟨E,u2⟩:=q;obtain⟨rfl,g2⟩:=hr;go_wp2_with fail;exact⟨rfl,rfl,g2⟩
  | ok u2=>
   obtain⟨rfl,g2⟩:=hr;go_wp2_with fail;go_end0;exact⟨rfl,g2⟩
theorem KS{t:List UInt8}(h:Mac w0 w mb sb db s)(hc:Cu w0 ca co cv)(h10:cv[10]? = some (.string (ba t)))(ht:t.length<=2000){A:Option Addr}{c i:Nat}(h0:cv[0]? = some (.slice A 2 c))(h2:cv[2]? = some (.bool false))(h1:cv[1]? = some (.int .i64 i))(hrg:u.rg[i]? = some true)(hp:s.p=u.p)(hu:UOk u):Calls Tryz.prog 62 #[.pointer (some ⟨mb,0,none⟩),.pointer (some ⟨ca,co,none⟩)] w (dJ w0 mb sb db w s u.aO):=by
 have c10:=hc.now h h10;have c0:w.cell? ⟨ca,co,none⟩=some _:=hc.now h h0;have c2:=hc.now h h2;have c1:=hc.now h h1;have erg:s.r.rg=u.rg:=congrArg Pst.rg hp;obtain⟨g,cap,hvr⟩:=fY h.r.o4 (by rw[erg];have:=(List.getElem?_eq_some_iff.1 hrg).1;omega);have hil:=(List.getElem?_eq_some_iff.1 hrg).1;have cg:w.cell? ⟨g,i,none⟩=some (.bool true):=by
  have o:=h.r.o4;rw[hvr] at o;rw[o.cellAt i (by rw[erg];omega),QX,erg,hrg]
  rfl
 have c11:=h.b.at_ 11 _ rfl;rw[hvr,erg] at c11;clear erg hvr;have HT:Hid (∀w1,Kp [] w w1->Calls Tryz.prog 113 #[.pointer (some ⟨mb,0,none⟩)] w1 (dJ w0 mb sb db w1 s u.aO)):=hid (fun w1 k1=>fq (h.aj k1) hp hu);obtain⟨R,hR⟩:∃R,R=u.aO:=⟨_,rfl⟩;rw[<-hR] at HT ⊢;clear hR h hp hu hc;go_enter Tryz.func62,Tryz.ntmps62
 go_wp2_with fail;go_quiet (fail);go_wp2_with fail;refine(HT.out _ (Kp.drewN [] w _)).mono ?_;intro r w2 hr;replace hr:=dJ.pre (Kp.drewN [] w _) hr
 cases R with
 | error q=>
  obtain⟨E,u1⟩:=q;obtain⟨rfl,g1⟩:=hr;go_wp2_with fail;exact⟨rfl,rfl,g1⟩
 | ok u1=>
  obtain⟨rfl,g1⟩:=hr;go_wp2_with fail;go_end0;exact⟨rfl,g1⟩
end
