import Derived.Test.YtiahkfoojjpaaaaGreatDoorT24
set_option maxRecDepth 100000
set_option maxHeartbeats 16000000
set_option linter.all false
namespace Go.Proofs.YtiahkfoojjpaaaaGreatDoor
open Go.RowKit Go.MapKept
theorem Tryz.KT:(Tryz.prog.info? 3).map (fun i=>(i.zero,i.size,i.bytes))=some (some (.int .i64 0),1,8):=by kernel_rfl
theorem Tryz.KV:(Tryz.prog.info? 164).map (fun i=>(i.zero,i.size,i.bytes))=some (some (.agg #[.int .i64 0,.int .i64 0]),2,16):=by kernel_rfl
section
variable {w0 w:World} {b k:Nat} {src:ByteArray} {σ:Sst}
theorem fE {base size n:Nat} {e:TypeId} {v:Value} {xs:List Value} (h:w.ownsRow base e size v n xs) (hn:0 < n):∃ g cap,v=.slice (some ⟨g,0,none⟩) n cap:=by
 rcases h.2 with ⟨_,h0⟩ | ⟨g,cap,cur,hv,_⟩
 .omega
 .exact ⟨g,cap,hv⟩
def Opens (σ:Sst) (cv:List Value) (σ':Sst) (cv':List Value):Prop:=(∃ v,σ'={ σ with vb:=v,bs:=σ.bs++[σ.cs.length] })/\cv'=cv
theorem op_open (h8:σ.bs.length < 8) (_:σ.cs.length<=2000):Ct w0 92 b src k k σ Opens:=by
 intro w cb cv hs hb hl _ hf _;have hne:cb≠b:=fun e=>hf.bk 0 (by rw [e];rfl);obtain ⟨A,c,ev,_,_⟩:=dh hs.r.o8;obtain ⟨A4,c4',ev4,_,_⟩:=dh hs.r.o4;have c8:=hs.c.c8;rw [ev] at c8;have q8:((σ.bs.length:Int) == 8)=false:=by rw [Nz];omega
 obtain ⟨i0,hi,hz0,hz1,hz2⟩:=info_parts Tryz.KT;have HI:=hid (And.intro hi (And.intro hz0 (And.intro hz1 hz2)));clear hi hz0 hz1 hz2;go_enter Tryz.func92,Tryz.ntmps92
 go_upto_region 2 with fail
 refine az (fun w':World=>w'.cell? ⟨b,8,none⟩=some σ.vb/\w'.cell? ⟨b,4,none⟩=some (.slice A4 σ.cs.length c4')) 15 (by kernel_rfl) ?_;have s3:=hs.aj (Kp.drew [] w);have b3:=hb.aj (Kp.drew [] w) (by simp);obtain ⟨w3,hw3⟩:∃ w3,w3=w.drew:=⟨_,rfl⟩;rw [<-hw3] at s3 b3 ⊢;clear hw3 hs hb c8;have hS:(fun w':World=>w'.cell? ⟨b,8,none⟩=some σ.vb/\w'.cell? ⟨b,4,none⟩=some (.slice A4 σ.cs.length c4')) w3:=⟨s3.c.c8,by rw [<-ev4];exact s3.c.c4⟩;refine tk1 0 (v:=?_) rfl (by kernel_rfl) (fun _ _ _ h=>h) ⟨rfl,fun w hSw=>?_⟩ hS ?_;rotate_left;· ((try dsimp only at hSw);go_simp;(try with_reducible rfl))
 (try simp only [Nn,Nk,Nj,Act.put,Ni,Np,Nq])
 refine tk1 1 (v:=?_) rfl (by kernel_rfl) (fun _ _ _ h=>h) ⟨rfl,fun w hSw=>?_⟩ hS ?_;rotate_left;· ((try dsimp only at hSw);go_simp;(try with_reducible rfl))
 (try simp only [Nn,Nk,Nj,Act.put,Ni,Np,Nq])
 refine tk1 2 (v:=?_) rfl (by kernel_rfl) (fun _ _ _ h=>h) ⟨rfl,fun w hSw=>?_⟩ hS ?_;rotate_left;· ((try dsimp only at hSw);go_simp;(try with_reducible rfl))
 (try simp only [Nn,Nk,Nj,Act.put,Ni,Np,Nq])
 refine tk1 3 (v:=?_) rfl (by kernel_rfl) (fun _ _ _ h=>h) ⟨rfl,fun w hSw=>?_⟩ hS ?_;rotate_left;· ((try dsimp only at hSw);go_simp;(try with_reducible rfl))
 (try simp only [Nn,Nk,Nj,Act.put,Ni,Np,Nq])
 refine tk1 4 (v:=?_) rfl (by kernel_rfl) (fun _ _ _ h=>h) ⟨rfl,fun w hSw=>?_⟩ hS ?_;rotate_left;· ((try dsimp only at hSw);go_simp;(try with_reducible rfl))
 (try simp only [Nn,Nk,Nj,Act.put,Ni,Np,Nq])
 refine tk1 5 (v:=?_) rfl (by kernel_rfl) (fun _ _ _ h=>h) ⟨rfl,fun w hSw=>?_⟩ hS ?_;rotate_left;· ((try dsimp only at hSw);go_simp;(try with_reducible rfl))
 (try simp only [Nn,Nk,Nj,Act.put,Ni,Np,Nq])
 refine tk1 6 (v:=?_) rfl (by kernel_rfl) (fun _ _ _ h=>h) ⟨rfl,fun w hSw=>?_⟩ hS ?_;rotate_left;· ((try dsimp only at hSw);go_simp;(try with_reducible rfl))
 (try simp only [Nn,Nk,Nj,Act.put,Ni,Np,Nq])
 refine tk1 7 (v:=?_) rfl (by kernel_rfl) (fun _ _ _ h=>h) ⟨rfl,fun w hSw=>?_⟩ hS ?_;rotate_left;· ((try dsimp only at hSw);go_simp;(try with_reducible rfl))
 (try simp only [Nn,Nk,Nj,Act.put,Ni,Np,Nq])
 refine tk1 8 (v:=?_) rfl (by kernel_rfl) (fun _ _ _ h=>h) ⟨rfl,fun w hSw=>?_⟩ hS ?_;rotate_left;· ((try dsimp only at hSw);go_simp;(try with_reducible rfl))
 (try simp only [Nn,Nk,Nj,Act.put,Ni,Np,Nq])
 refine tk1 9 (v:=?_) rfl (by kernel_rfl) (fun _ _ _ h=>h) ⟨rfl,fun w hSw=>?_⟩ hS ?_;rotate_left;· ((try dsimp only at hSw);go_simp;(try with_reducible rfl))
 (try simp only [Nn,Nk,Nj,Act.put,Ni,Np,Nq])
 refine tk1 10 (v:=?_) rfl (by kernel_rfl) (fun _ _ _ h=>h) ⟨rfl,fun w hSw=>?_⟩ hS ?_;rotate_left;· ((try dsimp only at hSw);go_simp;(try with_reducible rfl))
 (try simp only [Nn,Nk,Nj,Act.put,Ni,Np,Nq])
 have ka:=Kp.alloc [] w3 (.cells #[.int .i64 (σ.cs.length:Int)] 3);have s7:=s3.aj ka;have b7:=b3.aj ka (by simp);have hS7:(fun w':World=>w'.cell? ⟨b,8,none⟩=some σ.vb/\w'.cell? ⟨b,4,none⟩=some (.slice A4 σ.cs.length c4')) (w3.alloc (.cells #[.int .i64 (σ.cs.length:Int)] 3)):=⟨s7.c.c8,by rw [<-ev4];exact s7.c.c4⟩;have BN:=Bl.alloc w3 [.int .i64 (σ.cs.length:Int)] 3;refine ag (i:=11) (by kernel_rfl) rfl (fun K hK=>?_);go_simp;refine hK.out _ _ (.inr hS7) ?_;clear hK K;refine ag (i:=12) (by kernel_rfl) rfl (fun K hK=>?_);refine jm (by rfl) (.tmp 22) (.tmp 29) 35 (by rfl) w0.heap.size 3 i0 _ 1 8 Tryz.underlying35 HI.out.1 HI.out.2.1 HI.out.2.2.1 HI.out.2.2.2 rfl (by decide) σ.vb σ.bs.length (σ.bs.map fun n:Nat=>Value.int .i64 (n:Int)) (by rw [ev];rfl) s7.r.o8 ⟨w3.heap.size,0,none⟩ 1 1 [.int .i64 (σ.cs.length:Int)] (by rfl) rfl (fun j u hu=>by rw [Addr.add_mid,NJ];exact BN.at_ j u hu) (fun u hu=>by simp at hu;subst hu;rfl) (by unfold maxLen;omega) (by omega) s7.r.kp.size (by omega) ?_
 intro g cap w8 ho8 hg8 hor8;have blt:=s7.cur.lt;have hb2:w8.heap[b]? = (w3.alloc (.cells #[.int .i64 (σ.cs.length:Int)] 3)).heap[b]?:=hg8.block b blt (fun e=>by have:=s7.r.bk.ne 0 6 b rfl (by first | exact e | exact e.symm);omega);have hS8:(fun w':World=>w'.cell? ⟨b,8,none⟩=some σ.vb/\w'.cell? ⟨b,4,none⟩=some (.slice A4 σ.cs.length c4')) w8:=⟨(World.cell?_of_block hb2).trans hS7.1,(World.cell?_of_block hb2).trans hS7.2⟩;have c8:=hS8.1;have f8:w8.frozen? ⟨b,8,none⟩=false:=(World.frozen?_of_block hb2).trans (s7.cur.free 8);have s9:=s3.Gk (x:=σ.cs.length) ka ho8 hg8 hor8;have b8:Bl w8 cb cv:=b7.aj (aV (S:=σ.vb.ownBlock.toList) hg8 (fun p hp=>by rw [hp];simp)) (fun hm=>hf.bk 6 (show σ.vb.ownBlock=some cb by simpa using hm));have b9:=b8.aj (Kp.setCell (S:=[b]) (p:=⟨b,8,none⟩) w8 (.slice (some ⟨g,0,none⟩) (σ.bs.length+1) cap) (by simp)) (by simpa using hne);have gfar:cb≠g:=fun e=>by
  rcases hor8 with q | q
  .exact hf.bk 6 (show σ.vb.ownBlock=some cb by rw [e];exact q)
  .have:=b7.lt;omega
 refine hK.out _ _ (.inr hS8) ?_;clear hK K;have S9:=hid s9;have B9:=hid b9;clear s9 b9 ho8 hg8 hor8 s3 b3 b7 b8 ka BN hb2 hS hS7 s7;refine ag (i:=13) (by kernel_rfl) rfl (fun K hK=>?_);go_simp;refine hK.out _ _ (.inr hS8) ?_;clear hK K;refine ag (i:=14) (by kernel_rfl) rfl (fun K hK=>?_);go_simp;refine hK.out _ _ (.inr hS8) ?_;clear hK K;refine ag (i:=15) (by kernel_rfl) rfl (fun K hK=>?_);go_simp;refine hK.out _ _ (.inl rfl) ?_;clear hK K;refine ay (by kernel_rfl) ?_ _;have far':Sr.Far w0 b { σ with vb:=.slice (some ⟨g,0,none⟩) (σ.bs.length+1) cap,bs:=σ.bs++[σ.cs.length] } cb:=by
  refine ⟨hf.lo,fun i=>?_,hf.fx⟩;rw [jn b σ ⟨g,0,none⟩ (σ.bs.length+1) cap (σ.bs++[σ.cs.length])];show (if i=6 then some g else srB b σ i)≠_;split
  .intro e;injection e with e;exact gfar e.symm
  .exact hf.bk i
 go_wp2_with fail;go_end0;exact ⟨rfl,_,S9.out,cv,B9.out,hl,far',⟨_,rfl⟩,rfl⟩
def Shuts (σ:Sst) (cv:List Value) (σ':Sst) (cv':List Value):Prop:=∃ l i c v,σ.bs=l++[i]/\σ.cs[i]? = some c/\σ'={ σ with vb:=v,bs:=l,cs:=σ.cs.set i (c.set 5 (.int .i64 (σ.cs.length:Int))) }/\cv'=cv
theorem op_shut {l:List Nat} {i:Nat} {c:List Value} (hbs:σ.bs=l++[i]) (hc:σ.cs[i]? = some c) (hcs:σ.cs.length<=2000) (hls:l.length<=8):Ct w0 93 b src k k σ Shuts:=by
 intro w cb cv hs hb hl _ hf _;have hne:cb≠b:=fun e=>hf.bk 0 (by rw [e];rfl);obtain ⟨n,hn⟩:∃ n,n=l.length:=⟨_,rfl⟩;have hbl:σ.bs.length=n+1:=by rw [hbs,Nu,hn];rfl
 obtain ⟨gb,c8',ev⟩:=fE hs.r.o8 (by omega);have hilt:i < σ.cs.length:=(List.getElem?_eq_some_iff.1 hc).1;obtain ⟨g4,c4',ev4⟩:=fE hs.r.o4 (by omega);have o8:=hs.r.o8;rw [hbl] at ev o8;rw [ev] at o8;have hcap:n<=c8':=by
  rcases o8.2 with ⟨q,_⟩ | ⟨_,_,_,q,_,_,q4,_⟩
  .cases q
  .injection q with _ _ e3;omega
 have d8:w.cell? ⟨gb,n,none⟩=some (.int .i64 (i:Int)):=by
  rw [o8.cellAt n (by omega),hbs,N8,NR (by simp [hn]),hn];simp
 have o4:=hs.r.o4;rw [ev4] at o4;obtain ⟨u5,d5⟩:∃ u,w.cell? ⟨g4,i * 23+5,none⟩=some u:=by
  have hlt:i * 23+5 < σ.cs.flatten.length:=by rw [o4.1];omega
  exact ⟨_,(o4.cellAt (i * 23+5) (by omega)).trans (Nv hlt)⟩
 have f5:=o4.frozenAt (i * 23+5);have wn:=aa n (by omega);obtain ⟨n1,hn1⟩:∃ n1,n1=n+1:=⟨_,rfl⟩;have en:(n1:Int) - 1=(n:Int):=by omega
 rw [<-hn1] at ev;have hnn:n < n1:=by omega
 have hn0:¬ (n:Int) < 0:=by omega
 have c8:=hs.c.c8;rw [ev] at c8;have HS:=hid hs;have HB:=hid hb;have HO:=hid (And.intro ev ev4);have HN1:=hid (And.intro hn hn1);clear hs hb o8 o4 ev ev4 hn hn1 hbl;go_enter Tryz.func93,Tryz.ntmps93
 go_upto_region 3 with fail
 refine az (fun w':World=>w'.cell? ⟨b,8,none⟩=some (.slice (some ⟨gb,0,none⟩) n1 c8')/\w'.cell? ⟨b,4,none⟩=some (.slice (some ⟨g4,0,none⟩) σ.cs.length c4')/\w'.cell? ⟨gb,n,none⟩=some (.int .i64 (i:Int))) 20 (by kernel_rfl) ?_;have s3:=hid (HS.out.aj (Kp.drew [] w));have b3:=hid (HB.out.aj (Kp.drew [] w) (by simp));have hS:(fun w':World=>w'.cell? ⟨b,8,none⟩=some (.slice (some ⟨gb,0,none⟩) n1 c8')/\w'.cell? ⟨b,4,none⟩=some (.slice (some ⟨g4,0,none⟩) σ.cs.length c4')/\w'.cell? ⟨gb,n,none⟩=some (.int .i64 (i:Int))) w.drew:=⟨c8,by have:=HS.out.c.c4;rw [HO.out.2] at this;exact this,d8⟩;have d5:w.drew.cell? ⟨g4,i * 23+5,none⟩=some u5:=d5;have f5:w.drew.frozen? ⟨g4,i * 23+5,none⟩=false:=f5;obtain ⟨w3,hw3⟩:∃ w3,w3=w.drew:=⟨_,rfl⟩;rw [<-hw3] at s3 b3 hS d5 f5 ⊢;clear hw3 HS HB c8 d8;refine tk1 0 (v:=?_) rfl (by kernel_rfl) (fun _ _ _ h=>h) ⟨rfl,fun w hSw=>?_⟩ hS ?_;rotate_left;· ((try dsimp only at hSw);go_simp;(try with_reducible rfl))
 (try simp only [Nn,Nk,Nj,Act.put,Ni,Np,Nq])
 refine tk1 1 (v:=?_) rfl (by kernel_rfl) (fun _ _ _ h=>h) ⟨rfl,fun w hSw=>?_⟩ hS ?_;rotate_left;· ((try dsimp only at hSw);go_simp;(try with_reducible rfl))
 (try simp only [Nn,Nk,Nj,Act.put,Ni,Np,Nq])
 refine tk1 2 (v:=?_) rfl (by kernel_rfl) (fun _ _ _ h=>h) ⟨rfl,fun w hSw=>?_⟩ hS ?_;rotate_left;· ((try dsimp only at hSw);go_simp;(try with_reducible rfl))
 (try simp only [Nn,Nk,Nj,Act.put,Ni,Np,Nq])
 refine tk1 3 (v:=?_) rfl (by kernel_rfl) (fun _ _ _ h=>h) ⟨rfl,fun w hSw=>?_⟩ hS ?_;rotate_left;· ((try dsimp only at hSw);go_simp;(try with_reducible rfl))
 (try simp only [Nn,Nk,Nj,Act.put,Ni,Np,Nq])
 refine tk1 4 (v:=?_) rfl (by kernel_rfl) (fun _ _ _ h=>h) ⟨rfl,fun w hSw=>?_⟩ hS ?_;rotate_left;· ((try dsimp only at hSw);go_simp;(try with_reducible rfl))
 (try simp only [Nn,Nk,Nj,Act.put,Ni,Np,Nq])
 refine tk1 5 (v:=?_) rfl (by kernel_rfl) (fun _ _ _ h=>h) ⟨rfl,fun w hSw=>?_⟩ hS ?_;rotate_left;· ((try dsimp only at hSw);go_simp;(try with_reducible rfl))
 (try simp only [Nn,Nk,Nj,Act.put,Ni,Np,Nq])
 refine tk1 6 (v:=?_) rfl (by kernel_rfl) (fun _ _ _ h=>h) ⟨rfl,fun w hSw=>?_⟩ hS ?_;rotate_left;· ((try dsimp only at hSw);go_simp;(try with_reducible rfl))
 (try simp only [Nn,Nk,Nj,Act.put,Ni,Np,Nq])
 refine tk1 7 (v:=?_) rfl (by kernel_rfl) (fun _ _ _ h=>h) ⟨rfl,fun w hSw=>?_⟩ hS ?_;rotate_left;· ((try dsimp only at hSw);go_simp;(try with_reducible rfl))
 (try simp only [Nn,Nk,Nj,Act.put,Ni,Np,Nq])
 refine tk1 8 (v:=?_) rfl (by kernel_rfl) (fun _ _ _ h=>h) ⟨rfl,fun w hSw=>?_⟩ hS ?_;rotate_left;· ((try dsimp only at hSw);go_simp;(try with_reducible rfl))
 (try simp only [Nn,Nk,Nj,Act.put,Ni,Np,Nq])
 refine tk1 9 (v:=?_) rfl (by kernel_rfl) (fun _ _ _ h=>h) ⟨rfl,fun w hSw=>?_⟩ hS ?_;rotate_left;· ((try dsimp only at hSw);go_simp;(try with_reducible rfl))
 (try simp only [Nn,Nk,Nj,Act.put,Ni,Np,Nq])
 refine tk1 10 (v:=?_) rfl (by kernel_rfl) (fun _ _ _ h=>h) ⟨rfl,fun w hSw=>?_⟩ hS ?_;rotate_left;· ((try dsimp only at hSw);go_simp;(try with_reducible rfl))
 (try simp only [Nn,Nk,Nj,Act.put,Ni,Np,Nq])
 refine tk1 11 (v:=?_) rfl (by kernel_rfl) (fun _ _ _ h=>h) ⟨rfl,fun w hSw=>?_⟩ hS ?_;rotate_left;· ((try dsimp only at hSw);go_simp;(try with_reducible rfl))
 (try simp only [Nn,Nk,Nj,Act.put,Ni,Np,Nq])
 refine tk1 12 (v:=?_) rfl (by kernel_rfl) (fun _ _ _ h=>h) ⟨rfl,fun w hSw=>?_⟩ hS ?_;rotate_left;· ((try dsimp only at hSw);go_simp;(try with_reducible rfl))
 (try simp only [Nn,Nk,Nj,Act.put,Ni,Np,Nq])
 refine tk1 13 (v:=?_) rfl (by kernel_rfl) (fun _ _ _ h=>h) ⟨rfl,fun w hSw=>?_⟩ hS ?_;rotate_left;· ((try dsimp only at hSw);go_simp;(try with_reducible rfl))
 (try simp only [Nn,Nk,Nj,Act.put,Ni,Np,Nq])
 refine tk1 14 (v:=?_) rfl (by kernel_rfl) (fun _ _ _ h=>h) ⟨rfl,fun w hSw=>?_⟩ hS ?_;rotate_left;· ((try dsimp only at hSw);go_simp;(try with_reducible rfl))
 (try simp only [Nn,Nk,Nj,Act.put,Ni,Np,Nq])
 refine tk1 15 (v:=?_) rfl (by kernel_rfl) (fun _ _ _ h=>h) ⟨rfl,fun w hSw=>?_⟩ hS ?_;rotate_left;· ((try dsimp only at hSw);go_simp;(try with_reducible rfl))
 (try simp only [Nn,Nk,Nj,Act.put,Ni,Np,Nq])
 refine tk1 16 (v:=?_) rfl (by kernel_rfl) (fun _ _ _ h=>h) ⟨rfl,fun w hSw=>?_⟩ hS ?_;rotate_left;· ((try dsimp only at hSw);go_simp;(try with_reducible rfl))
 (try simp only [Nn,Nk,Nj,Act.put,Ni,Np,Nq])
 refine tk1 17 (v:=?_) rfl (by kernel_rfl) (fun _ _ _ h=>h) ⟨rfl,fun w hSw=>?_⟩ hS ?_;rotate_left;· ((try dsimp only at hSw);go_simp;(try with_reducible rfl))
 (try simp only [Nn,Nk,Nj,Act.put,Ni,Np,Nq])
 refine ag (i:=18) (by kernel_rfl) rfl (fun K hK=>?_);go_simp;refine hK.out _ _ (.inr hS) ?_;clear hK K;refine ag (i:=19) (by kernel_rfl) rfl (fun K hK=>?_);go_simp;refine hK.out _ _ (.inr hS) ?_;clear hK K;have s4:=s3.out.Fk (i:=i) (j:=5) (v:=.int .i64 (σ.cs.length:Int)) HO.out.2 hc (by omega) rfl;have k4:Kp [g4] w3 (w3.setCell ⟨g4,i * 23+5,none⟩ (.int .i64 (σ.cs.length:Int))):=Kp.setCell _ _ (by simp);have g4k:srB b σ 4=some g4:=by show σ.vc.ownBlock=some g4;rw [HO.out.2];rfl
 have b4:=b3.out.aj k4 (by have:=hf.bk 4;rw [g4k] at this;simpa using fun e=>this (by rw [e]));have S4:=hid s4;have B4:=hid b4;clear s4 b4 k4;refine ag (i:=20) (by kernel_rfl) rfl (fun K hK=>?_);go_simp;refine hK.out _ _ (.inl rfl) ?_;clear hK K;refine ay (by kernel_rfl) ?_ _;obtain ⟨w4,hw4⟩:∃ w4,w4=w3.setCell ⟨g4,i * 23+5,none⟩ (.int .i64 (σ.cs.length:Int)):=⟨_,rfl⟩;rw [<-hw4] at S4 B4 ⊢;clear hw4 hS d5 f5 s3 b3;have e8:w4.cell? ⟨b,8,none⟩=some σ.vb:=S4.out.c.c8;rw [HO.out.1] at e8;have f8:=S4.out.cur.free 8;have S5:=hid (S4.out.J7 (A:=some ⟨gb,0,none⟩) (c:=c8') (m:=n) (l:=l) (x:=i) (by show σ.vb=_;rw [HO.out.1,HN1.out.2]) hbs HN1.out.1.symm);have B5:=hid (B4.out.aj (Kp.setCell (S:=[b]) (p:=⟨b,8,none⟩) w4 (.slice (some ⟨gb,0,none⟩) n c8') (by simp)) (by simpa using hne))
 have far':Hid (Sr.Far w0 b { σ with vb:=.slice (some ⟨gb,0,none⟩) n c8',bs:=l,cs:=σ.cs.set i (c.set 5 (.int .i64 (σ.cs.length:Int))) } cb):=hid (by
  refine ⟨hf.lo,fun q=>?_,hf.fx⟩;have:=hf.bk q
  rw [show srB b { σ with vb:=.slice (some ⟨gb,0,none⟩) n c8',bs:=l,cs:=σ.cs.set i (c.set 5 (.int .i64 (σ.cs.length:Int))) }=srB b σ from (yv b { σ with cs:=σ.cs.set i (c.set 5 (.int .i64 (σ.cs.length:Int))) } (some ⟨gb,0,none⟩) n1 c8' n l HO.out.1).trans (by
   funext q
   rcases q with _ | _ | _ | _ | _ | _ | _ | _ | q <;> rfl)]
  exact this)
 go_wp2_with fail;go_end0;exact ⟨rfl,_,S5.out,cv,B5.out,hl,far'.out,l,i,c,_,hbs,hc,rfl,rfl⟩
def Labels (x:ByteArray) (σ:Sst) (cv:List Value) (σ':Sst) (cv':List Value):Prop:=σ'={ σ with ls:=σ.ls++[(x,σ.cs.length)] }/\cv'=cv.set 4 (.string x)
theorem Kd {n e:Nat} {x:ByteArray} (h:wdN src (blk src k) n (blk src k)=some e) (hx:src.extract (blk src k) e=x) (hfi:Instr.findNow .string (.string x) (strE 0 σ.ls) 0=some none) (_:σ.cs.length<=2000):Ct w0 94 b src k e σ (Labels x):=by
 intro w cb cv hs hb hl _ hf _;have hne:cb≠b:=fun e=>hf.bk 0 (by rw [e];rfl);obtain ⟨A4,c4',ev4,_,_⟩:=dh hs.r.o4;have H:=hid h;have HX:=hid hx;have HFI:=hid hfi;clear h hx hfi;go_enter Tryz.func94,Tryz.ntmps94
 go_wp2_with fail;refine (AG hs.cur H.out).mono ?_;rintro r w1 ⟨rfl,h1,m1⟩;rw [HX.out];have s1:=hs.move m1 h1;have b1:=hb.aj m1.kp (by simpa using hne);have e4:=b1.at_ 4 _ (Nv (show 4 < cv.length by rw [hl.len];omega));have f4:=b1.free 4;clear hs hb m1 h1 H HX;go_upto_region 1 with fail
 have k2:Kp [cb] w1 (w1.setCell ⟨cb,4,none⟩ (.string x)):=Kp.setCell _ _ (by simp);have s2:=s1.other k2 (fun y hy=>by simp at hy;rw [hy];exact hf);have b2:=b1.set 4 (.string x) (by rw [hl.len];omega);have l2:Cv (cv.set 4 (.string x)):=hl.set 4 rfl;obtain ⟨w2,hw2⟩:∃ w2,w2=w1.setCell ⟨cb,4,none⟩ (.string x):=⟨_,rfl⟩;rw [<-hw2] at s2 b2 ⊢;clear hw2 k2 s1 b1 e4 f4 w1;have c9:=s2.c.c9;have e4:=b2.at_ 4 (.string x) (NK (by rw [hl.len];omega));have hlk:∀ m,(Instr.lookup 124 (.map (some σ.lb)) (.string x) true).run Tryz.prog (w2.drewN m)=.ok (.tuple #[.int .i64 0,.bool false]) (w2.drewN m):=fun m=>
  nW Tryz.underlying124 Tryz.underlying9 (rj _) (((Kp.drewN [] w2 m).block _ (s2.r.bk.hi 2 _ rfl) (by simp)).trans s2.r.m9) HFI.out
 go_quiet (fail);have s3:=s2.aj (Kp.drewN [] w2 nq);have b3:=b2.aj (Kp.drewN [] w2 nq) (by simp);obtain ⟨w3,hw3⟩:∃ w3,w3=w2.drewN nq:=⟨_,rfl⟩;rw [<-hw3] at s3 b3 ⊢;clear hw3 hlk c9 e4 s2 b2;go_upto_region 4 with fail
 refine az (fun w':World=>w'.cell? ⟨b,9,none⟩=some (.map (some σ.lb))/\w'.cell? ⟨cb,4,none⟩=some (.string x)/\w'.cell? ⟨b,4,none⟩=some (.slice A4 σ.cs.length c4')) 14 (by kernel_rfl) ?_;have s4:=s3.aj (Kp.drew [] w3);have b4:=b3.aj (Kp.drew [] w3) (by simp);have hS:(fun w':World=>w'.cell? ⟨b,9,none⟩=some (.map (some σ.lb))/\w'.cell? ⟨cb,4,none⟩=some (.string x)/\w'.cell? ⟨b,4,none⟩=some (.slice A4 σ.cs.length c4')) w3.drew:=⟨s4.c.c9,b4.at_ 4 (.string x) (NK (by rw [hl.len];omega)),by rw [<-ev4];exact s4.c.c4⟩;obtain ⟨w4,hw4⟩:∃ w4,w4=w3.drew:=⟨_,rfl⟩;rw [<-hw4] at s4 b4 hS ⊢;clear hw4 s3 b3;refine tk1 0 (v:=?_) rfl (by kernel_rfl) (fun _ _ _ h=>h) ⟨rfl,fun w hSw=>?_⟩ hS ?_;rotate_left;· ((try dsimp only at hSw);go_simp;(try with_reducible rfl))
 (try simp only [Nn,Nk,Nj,Act.put,Ni,Np,Nq])
 refine tk1 1 (v:=?_) rfl (by kernel_rfl) (fun _ _ _ h=>h) ⟨rfl,fun w hSw=>?_⟩ hS ?_;rotate_left;· ((try dsimp only at hSw);go_simp;(try with_reducible rfl))
 (try simp only [Nn,Nk,Nj,Act.put,Ni,Np,Nq])
 refine tk1 2 (v:=?_) rfl (by kernel_rfl) (fun _ _ _ h=>h) ⟨rfl,fun w hSw=>?_⟩ hS ?_;rotate_left;· ((try dsimp only at hSw);go_simp;(try with_reducible rfl))
 (try simp only [Nn,Nk,Nj,Act.put,Ni,Np,Nq])
 refine tk1 3 (v:=?_) rfl (by kernel_rfl) (fun _ _ _ h=>h) ⟨rfl,fun w hSw=>?_⟩ hS ?_;rotate_left;· ((try dsimp only at hSw);go_simp;(try with_reducible rfl))
 (try simp only [Nn,Nk,Nj,Act.put,Ni,Np,Nq])
 refine tk1 4 (v:=?_) rfl (by kernel_rfl) (fun _ _ _ h=>h) ⟨rfl,fun w hSw=>?_⟩ hS ?_;rotate_left;· ((try dsimp only at hSw);go_simp;(try with_reducible rfl))
 (try simp only [Nn,Nk,Nj,Act.put,Ni,Np,Nq])
 refine tk1 5 (v:=?_) rfl (by kernel_rfl) (fun _ _ _ h=>h) ⟨rfl,fun w hSw=>?_⟩ hS ?_;rotate_left;· ((try dsimp only at hSw);go_simp;(try with_reducible rfl))
 (try simp only [Nn,Nk,Nj,Act.put,Ni,Np,Nq])
 refine tk1 6 (v:=?_) rfl (by kernel_rfl) (fun _ _ _ h=>h) ⟨rfl,fun w hSw=>?_⟩ hS ?_;rotate_left;· ((try dsimp only at hSw);go_simp;(try with_reducible rfl))
 (try simp only [Nn,Nk,Nj,Act.put,Ni,Np,Nq])
 refine tk1 7 (v:=?_) rfl (by kernel_rfl) (fun _ _ _ h=>h) ⟨rfl,fun w hSw=>?_⟩ hS ?_;rotate_left;· ((try dsimp only at hSw);go_simp;(try with_reducible rfl))
 (try simp only [Nn,Nk,Nj,Act.put,Ni,Np,Nq])
 refine tk1 8 (v:=?_) rfl (by kernel_rfl) (fun _ _ _ h=>h) ⟨rfl,fun w hSw=>?_⟩ hS ?_;rotate_left;· ((try dsimp only at hSw);go_simp;(try with_reducible rfl))
 (try simp only [Nn,Nk,Nj,Act.put,Ni,Np,Nq])
 refine tk1 9 (v:=?_) rfl (by kernel_rfl) (fun _ _ _ h=>h) ⟨rfl,fun w hSw=>?_⟩ hS ?_;rotate_left;· ((try dsimp only at hSw);go_simp;(try with_reducible rfl))
 (try simp only [Nn,Nk,Nj,Act.put,Ni,Np,Nq])
 refine tk1 10 (v:=?_) rfl (by kernel_rfl) (fun _ _ _ h=>h) ⟨rfl,fun w hSw=>?_⟩ hS ?_;rotate_left;· ((try dsimp only at hSw);go_simp;(try with_reducible rfl))
 (try simp only [Nn,Nk,Nj,Act.put,Ni,Np,Nq])
 refine tk1 11 (v:=?_) rfl (by kernel_rfl) (fun _ _ _ h=>h) ⟨rfl,fun w hSw=>?_⟩ hS ?_;rotate_left;· ((try dsimp only at hSw);go_simp;(try with_reducible rfl))
 (try simp only [Nn,Nk,Nj,Act.put,Ni,Np,Nq])
 refine tk1 12 (v:=?_) rfl (by kernel_rfl) (fun _ _ _ h=>h) ⟨rfl,fun w hSw=>?_⟩ hS ?_;rotate_left;· ((try dsimp only at hSw);go_simp;(try with_reducible rfl))
 (try simp only [Nn,Nk,Nj,Act.put,Ni,Np,Nq])
 refine tk1 13 (v:=?_) rfl (by kernel_rfl) (fun _ _ _ h=>h) ⟨rfl,fun w hSw=>?_⟩ hS ?_;rotate_left;· ((try dsimp only at hSw);go_simp;(try with_reducible rfl))
 (try simp only [Nn,Nk,Nj,Act.put,Ni,Np,Nq])
 have hput:=Ba (v:=.int .i64 (σ.cs.length:Int)) Tryz.underlying124 Tryz.underlying9 s4.r.m9 HFI.out;have kput:=Kp.setBlock w4 σ.lb (.map ((strE 0 σ.ls).toArray.push ⟨.string x,.int .i64 (σ.cs.length:Int),σ.ls.length⟩) (σ.ls.length+1));have hm5:(ChangeMaps.setBlock w4 σ.lb (.map ((strE 0 σ.ls).toArray.push ⟨.string x,.int .i64 (σ.cs.length:Int),σ.ls.length⟩) (σ.ls.length+1))).heap[σ.lb]? = some (Mw (σ.ls++[(x,σ.cs.length)])):=by
  rw [AU];have:=s4.r.bk.hi 2 σ.lb rfl;simp [ChangeMaps.setBlock,this]
 have s5:=s4.J0 σ.cs.length kput hm5;have nbc:cb≠σ.lb:=fun e=>hf.bk 2 (by rw [e];rfl);have b5:=b4.aj kput (by simpa using nbc);obtain ⟨w5,hw5⟩:∃ w5,w5=ChangeMaps.setBlock w4 σ.lb (.map ((strE 0 σ.ls).toArray.push ⟨.string x,.int .i64 (σ.cs.length:Int),σ.ls.length⟩) (σ.ls.length+1)):=⟨_,rfl⟩;rw [<-hw5] at hput s5 b5;clear hw5 hm5 kput;refine ag (i:=14) (by kernel_rfl) rfl (fun K hK=>?_);go_simp;refine hK.out _ _ (.inl rfl) ?_;clear hK K;refine ay (by kernel_rfl) ?_ _;clear hput hS s4 b4;go_wp2_with fail;go_end0;exact ⟨_,_,rfl,s5,b5,l2,⟨hf.lo,fun i=>by rw [Fa];exact hf.bk i,hf.fx⟩,rfl,rfl⟩
def Jn (x:ByteArray) (pl:Nat) (σ:Sst) (cv:List Value) (σ':Sst) (cv':List Value):Prop:=(∃ v,σ'={ σ with vg:=v,gs:=σ.gs++[(σ.cs.length,pl)] })/\cv'=cv.set 4 (.string x)
end
