import Derived.Test.YtiahkfoojjpaaaaGreatDoorS42
import Derived.Test.YtiahkfoojjpaaaaGreatDoorS39
set_option maxRecDepth 100000
set_option maxHeartbeats 16000000
set_option linter.all false
namespace Go.Proofs.YtiahkfoojjpaaaaGreatDoor
open Go.RowKit Go.Shelf
attribute [local go_sem] Oper.semAt_some
def r1R(c:aH)(sp:List UInt8)(b:Nat->Int)(r:Rst):Rst:=⟨r.cnt+1,r.acc++(sp.take (b 0).toNat).drop r.done++jF c.new.plain sp b 0 c.dr,(b 1).toNat,true⟩
section
variable {c:aH}{sp:List UInt8}{bb:Nat->Int}{l:List (Nat->Int)}{rs:Rst}
theorem rP(h:rs.cnt+1<c.number):fX c sp (bb::l) rs=fX c sp l { rs with cnt:=rs.cnt+1}:=by
 rw[fX,QB h]
theorem rO(h:¬rs.cnt+1<c.number)(hb:c.all=false\/4000<(r1R c sp bb rs).acc.length):fX c sp (bb::l) rs=r1R c sp bb rs:=by
 rw[fX,Qw h];exact QB hb
theorem Dd(h:¬rs.cnt+1<c.number)(hb:¬(c.all=false\/4000<(r1R c sp bb rs).acc.length)):fX c sp (bb::l) rs=fX c sp l (r1R c sp bb rs):=by
 rw[fX,Qw h];exact Qw hb
end
theorem qz(plain sp:List UInt8)(b:Nat->Int):∀(hs:List (Nat×Nat)) (d:Nat),(jF plain sp b d hs).length<=(plain.length+sp.length)*(hs.length+1)
 | [],d=>by
  unfold jF;rw[QZ];simp;omega
 | (a,g)::hs,d=>by
  unfold jF;have:=qz plain sp b hs a;rw[Qy,Qy,QF];have h1:((plain.take a).drop d).length<=plain.length:=by rw[QZ,Re];omega
  have h2:(if 0<=b (2*g) then (sp.take (b (2*g+1)).toNat).drop (b (2*g)).toNat else []).length<=sp.length:=by
   split
   .rw[QZ,Re];omega
   .simp
  rw[Nat.mul_succ (plain.length+sp.length) (hs.length+1)];omega
theorem pw_succ{H:List (Nat×Nat)}(h:H.Pairwise (fun a b=>a.1<=b.1)){i a g a' g':Nat}(h1:H[i]? = some (a,g))(h2:H[i+1]? = some (a',g')):a<=a':=by
 obtain⟨l1,e1⟩:=List.getElem?_eq_some_iff.1 h1;obtain⟨l2,e2⟩:=List.getElem?_eq_some_iff.1 h2;have:=List.pairwise_iff_getElem.1 h i (i+1) l1 l2 (by omega);rw[e1,e2] at this;exact this
structure GdR(c:aH)(sp:List UInt8)(bs:List (Nat->Int))(i:Nat)(rs:Rst):Prop where
 cnt:rs.cnt=i
 acc:rs.acc.length<=4000
 pl:∃fr,rs.done<=fr/\fr<=sp.length/\Plcd (ba sp) fr (bs.drop i)
 eq:fX c sp bs ⟨0,[],0,false⟩=fX c sp (bs.drop i) rs
structure Rp(w:World)(cb co p:Nat)(plain:List UInt8)(dr:List (Nat×Nat))(all:Bool)(num:Nat):Prop where
 c0:w.cell? ⟨cb,co,none⟩=some (.pointer (some ⟨p,0,none⟩))
 c3:w.cell? ⟨cb,co+3,none⟩=some (.string (ba plain))
 c4:∃A hc,w.cell? ⟨cb,co+4,none⟩=some (.slice A dr.length hc)/\∀(i a g:Nat),dr[i]? = some (a,g)->∃hb:Nat,A=some ⟨hb,0,none⟩/\w.cell? ⟨hb,i*2,none⟩=some (.int .i64 a)/\w.cell? ⟨hb,i*2+1,none⟩=some (.int .i64 g)
 c5:w.cell? ⟨cb,co+5,none⟩=some (.bool all)
 c6:w.cell? ⟨cb,co+6,none⟩=some (.int .i64 num)
structure BdyX(W:World)(b l:Nat)(r:Loop)(rs:Rst)(Z:List (Nat×Obj))(W1:World):Prop where
 kp:Kp [b+1+1,b+1+1+1,b+1+1+1+1,b+1+1+1+1+1,l] W W1
 lp:W1.heap[l]? = some (.loop r)
 s2:Bl W1 (b+1+1) [.bool rs.ok]
 row:∃v,Bl W1 (b+1+1+1) [v]/\W1.ownsRow W.heap.size 5 1 v rs.acc.length (Lib.byteCells rs.acc)/\∀g,v.ownBlock=some g->∃o,(g,o)∈Z
 s4:Bl W1 (b+1+1+1+1) [.int .i64 rs.cnt]
 s5:Bl W1 (b+1+1+1+1+1) [.int .i64 rs.done]
 zs:∀e∈Z,W1.heap[e.1]? = some e.2
theorem Bl.tL{w w':World}{b:Nat}{cv:List Value}(h:Bl w b cv)(e:w'.heap[b]? = w.heap[b]?):Bl w' b cv:=
 ⟨lt_of_block (e.trans (QR h.lt)),fun j u hu=>(World.cell?_of_block e).trans (h.at_ j u hu),fun j=>(World.frozen?_of_block e).trans (h.free j)⟩
theorem BdyX.aj{W:World}{b l:Nat}{r:Loop}{rs:Rst}{Z:List (Nat×Obj)}{W1 W2:World}(h:BdyX W b l r rs Z W1)(hb:b+6<=W.heap.size)(hl:l<W.heap.size)(k:∀j,j<W.heap.size->W2.heap[j]? = W1.heap[j]?)(kz:∀e∈Z,W2.heap[e.1]? = some e.2)(e1:W2.os=W1.os)(e2:W2.tape=W1.tape)(e3:W2.output=W1.output):BdyX W b l r rs Z W2:=by
 have hz:W.heap.size<=W2.heap.size:=by
  have h1:=k (W.heap.size-1) (by omega);have h2:=h.kp.size;rw[QR (show W.heap.size-1<W1.heap.size by omega)] at h1;have:=(Array.getElem?_eq_some_iff.1 h1).1;omega
 obtain⟨v,v1,v2,v3⟩:=h.row;refine⟨⟨e1.trans h.kp.os,e2.trans h.kp.tape,e3.trans h.kp.output,hz,fun j hj hn=>(k j hj).trans (h.kp.block j hj hn)⟩,(k l hl).trans h.lp,h.s2.tL (k _ (by omega)),⟨v,v1.tL (k _ (by omega)),ag v2 (fun p hp=>?_),v3⟩,h.s4.tL (k _ (by omega)),h.s5.tL (k _ (by omega)),kz⟩;obtain⟨o,ho⟩:=v3 p hp;exact(kz _ ho).trans (h.zs _ ho).symm
structure tS(n0:Nat)(Ws:World)(T:List Nat)(b l:Nat)(rb:Loop)(sp:List UInt8)(cb co:Nat)(v:Value)(ok:Bool)(cnt dn:Nat)(W1:World):Prop where
 kp:Kp T Ws W1
 lo:n0<=Ws.heap.size
 bl:b+6<=n0
 ll:l<n0
 lb:b+6<=l
 ts:b+1+1∈T/\b+1+1+1∈T/\b+1+1+1+1∈T/\b+1+1+1+1+1∈T
 lp:W1.heap[l]? = some (.loop rb)
 s0:Bl W1 b [.string (ba sp)]
 s1:Bl W1 (b+1) [.pointer (some ⟨cb,co,none⟩)]
 s2:Bl W1 (b+1+1) [.bool ok]
 s3:Bl W1 (b+1+1+1) [v]
 s4:Bl W1 (b+1+1+1+1) [.int .i64 cnt]
 s5:Bl W1 (b+1+1+1+1+1) [.int .i64 dn]
section
variable {n0:Nat}{Ws:World}{T:List Nat}{b l:Nat}{rb:Loop}{sp:List UInt8}{cb co:Nat}{v:Value}{ok:Bool}{cnt dn:Nat}{W1 W2:World}
theorem tS.aj{S:List Nat}(h:tS n0 Ws T b l rb sp cb co v ok cnt dn W1)(k:Kp S W1 W2)(hS:∀x∈S,n0<=x)(hT:∀x∈S,x∈T\/Ws.heap.size<=x):tS n0 Ws T b l rb sp cb co v ok cnt dn W2:=by
 have hb:=h.bl;have hl:=h.ll;have n:∀j,j<n0->j∉S:=fun j hj m=>by have:=hS j m;omega
 have q:=QC h.lo h.kp.size;exact⟨h.kp.past k hT,h.lo,h.bl,h.ll,h.lb,h.ts,(k.block l (by omega) (n l hl)).trans h.lp,h.s0.aj k (n _ (by omega)),h.s1.aj k (n _ (by omega)),h.s2.aj k (n _ (by omega)),h.s3.aj k (n _ (by omega)),h.s4.aj k (n _ (by omega)),h.s5.aj k (n _ (by omega))⟩
theorem tS.set2(h:tS n0 Ws T b l rb sp cb co v ok cnt dn W1)(x:Bool):tS n0 Ws T b l rb sp cb co v x cnt dn (W1.setCell ⟨b+1+1,0,none⟩ (.bool x)):=by
 have k:=Kp.setCell (S:=[b+1+1]) W1 (p:=⟨b+1+1,0,none⟩) (.bool x) (by simp);have:=h.lb;have hl:=h.ll;have q:=QC h.lo h.kp.size;exact⟨h.kp.trans (k.mono (by simp[h.ts.1])),h.lo,h.bl,h.ll,h.lb,h.ts,(k.block l (by omega) (by simp;omega)).trans h.lp,h.s0.aj k (by rw[QE];omega),h.s1.aj k (by rw[QE];omega),h.s2.set 0 _ (by simp),h.s3.aj k (by rw[QE];omega),h.s4.aj k (by rw[QE];omega),h.s5.aj k (by rw[QE];omega)⟩
theorem tS.set3(h:tS n0 Ws T b l rb sp cb co v ok cnt dn W1)(x:Value):tS n0 Ws T b l rb sp cb co x ok cnt dn (W1.setCell ⟨b+1+1+1,0,none⟩ x):=by
 have k:=Kp.setCell (S:=[b+1+1+1]) W1 (p:=⟨b+1+1+1,0,none⟩) x (by simp);have:=h.lb;have hl:=h.ll;have q:=QC h.lo h.kp.size;exact⟨h.kp.trans (k.mono (by simp[h.ts.2.1])),h.lo,h.bl,h.ll,h.lb,h.ts,(k.block l (by omega) (by simp;omega)).trans h.lp,h.s0.aj k (by rw[QE];omega),h.s1.aj k (by rw[QE];omega),h.s2.aj k (by rw[QE];omega),h.s3.set 0 _ (by simp),h.s4.aj k (by rw[QE];omega),h.s5.aj k (by rw[QE];omega)⟩
theorem tS.set4(h:tS n0 Ws T b l rb sp cb co v ok cnt dn W1)(x:Nat):tS n0 Ws T b l rb sp cb co v ok x dn (W1.setCell ⟨b+1+1+1+1,0,none⟩ (.int .i64 x)):=by
 have k:=Kp.setCell (S:=[b+1+1+1+1]) W1 (p:=⟨b+1+1+1+1,0,none⟩) (.int .i64 x) (by simp);have:=h.lb;have hl:=h.ll;have q:=QC h.lo h.kp.size;exact⟨h.kp.trans (k.mono (by simp[h.ts.2.2.1])),h.lo,h.bl,h.ll,h.lb,h.ts,(k.block l (by omega) (by simp;omega)).trans h.lp,h.s0.aj k (by rw[QE];omega),h.s1.aj k (by rw[QE];omega),h.s2.aj k (by rw[QE];omega),h.s3.aj k (by rw[QE];omega),h.s4.set 0 _ (by simp),h.s5.aj k (by rw[QE];omega)⟩
theorem tS.set5(h:tS n0 Ws T b l rb sp cb co v ok cnt dn W1)(x:Nat):tS n0 Ws T b l rb sp cb co v ok cnt x (W1.setCell ⟨b+1+1+1+1+1,0,none⟩ (.int .i64 x)):=by
 have k:=Kp.setCell (S:=[b+1+1+1+1+1]) W1 (p:=⟨b+1+1+1+1+1,0,none⟩) (.int .i64 x) (by simp);have:=h.lb;have hl:=h.ll;have q:=QC h.lo h.kp.size;exact⟨h.kp.trans (k.mono (by simp[h.ts.2.2.2])),h.lo,h.bl,h.ll,h.lb,h.ts,(k.block l (by omega) (by simp;omega)).trans h.lp,h.s0.aj k (by rw[QE];omega),h.s1.aj k (by rw[QE];omega),h.s2.aj k (by rw[QE];omega),h.s3.aj k (by rw[QE];omega),h.s4.aj k (by rw[QE];omega),h.s5.set 0 _ (by simp)⟩
theorem Jb{lo n size:Nat}{e:TypeId}{xs:List Value}{u:Value}(h:W1.ownsRow lo e size u n xs):∃Z:List (Nat×Obj),(∀e∈Z,W1.heap[e.1]? = some e.2/\u.ownBlock=some e.1)/\∀g,u.ownBlock=some g->∃o,(g,o)∈Z:=by
 cases hu:u.ownBlock with
 | none=>exact⟨[],fun e he=>(by cases he),fun g hg=>(by cases hg)⟩
 | some g=>
  have hl:=(aA h hu).2;refine⟨[(g,W1.heap[g])],fun e he=>?_,fun g' hg=>?_⟩
  .rw[List.mem_singleton.1 he];exact⟨QR hl,rfl⟩
  .injection hg with hg;subst hg;exact⟨_,List.mem_singleton.2 rfl⟩
theorem nC{lo n size:Nat}{e:TypeId}{xs:List Value}{u:Value}(h:W1.ownsRow lo e size u n xs):∃ad cap,u=.slice ad n cap:=by
 rcases h.2 with⟨h1,h2⟩|⟨g,cap,cur,h1,_⟩
 .exact⟨none,0,by rw[h1,h2]⟩
 .exact⟨_,_,h1⟩
theorem tS.ends{W Wx:World}{u:Value}{acc:List UInt8}{Z:List (Nat×Obj)}{rd:Loop}(h:tS n0 Ws ([b+1+1,b+1+1+1,b+1+1+1+1,b+1+1+1+1+1,l]++u.ownBlock.toList) b l rb sp cb co v ok cnt dn Wx)(hz:W.heap.size=n0)(hk:Kp [b+1+1,b+1+1+1,b+1+1+1+1,b+1+1+1+1+1,l] W Ws)(hr:Wx.ownsRow n0 5 1 v acc.length (Lib.byteCells acc))(hu:∀g,u.ownBlock=some g->n0<=g/\∃o,(g,o)∈Z)(hv:∀g,v.ownBlock=some g->u.ownBlock=some g\/Ws.heap.size<=g):∃(S:List Nat) (Z2:List (Nat×Obj)),Kp S Ws (Wx.putObj l (.loop rd))/\(∀T∈S,T∈[b+1+1,b+1+1+1,b+1+1+1+1,b+1+1+1+1+1,l]\/∃o,(T,o)∈Z)/\(∀e∈Z2,(Wx.putObj l (.loop rd)).heap[e.1]? = some e.2/\((∃o,(e.1,o)∈Z)\/Ws.heap.size<=e.1)) /\ (∀g,v.ownBlock=some g->∃o,(g,o)∈Z2)/\Kp [b+1+1,b+1+1+1,b+1+1+1+1,b+1+1+1+1+1,l] W (Wx.putObj l (.loop rd))/\(Wx.putObj l (.loop rd)).heap[l]? = some (.loop rd)/\Bl (Wx.putObj l (.loop rd)) (b+1+1) [.bool ok]/\Bl (Wx.putObj l (.loop rd)) (b+1+1+1) [v]/\Bl (Wx.putObj l (.loop rd)) (b+1+1+1+1) [.int .i64 cnt]/\Bl (Wx.putObj l (.loop rd)) (b+1+1+1+1+1) [.int .i64 dn] /\ (Wx.putObj l (.loop rd)).ownsRow n0 5 1 v acc.length (Lib.byteCells acc):=by
 have kl:Kp [l] Wx (Wx.putObj l (.loop rd)):=(dX (grownBy_putObj' Wx l _)).mono (by simp);have hlb:=h.lb;have hll:=h.ll;have hlo:=h.lo;have row':(Wx.putObj l (.loop rd)).ownsRow n0 5 1 v acc.length (Lib.byteCells acc):=ag hr (fun x hx=>kl.block x (aA hr hx).2 (by rw[QE];have:=(aA hr hx).1;omega));obtain⟨Z2,z1,z2⟩:=Jb row';have kS:=h.kp.trans (kl.mono (T:=[b+1+1,b+1+1+1,b+1+1+1+1,b+1+1+1+1+1,l]++u.ownBlock.toList) (by simp));refine⟨_,Z2,kS,fun T hT=>?_,fun e he=>⟨(z1 e he).1,?_⟩,z2,hk.past kS (fun x hx=>?_),World.putObj_heap_same (Array.getElem?_eq_some_iff.1 h.lp).1,h.s2.aj kl (by rw[QE];omega),h.s3.aj kl (by rw[QE];omega),h.s4.aj kl (by rw[QE];omega),h.s5.aj kl (by rw[QE];omega),row'⟩
 .rcases List.mem_append.1 hT with e|e
  .exact .inl e
  .exact .inr (hu T (by simpa using e)).2
 .rcases hv e.1 (z1 e he).2 with q|q
  .exact .inl (hu _ q).2
  .exact .inr q
 .rcases List.mem_append.1 hx with e|e
  .exact .inl e
  .have:=(hu x (by simpa using e)).1;exact .inr (by omega)
end
def RepO(w:World)(sp:List UInt8)(rs:Rst)(r:Ending)(w':World):Prop:=
 Kp [] w w'/\r=.returned (.tuple #[.string (ba (if rs.ok then rs.acc++sp.drop rs.done else sp)),.bool rs.ok])
section
variable {w w':World}
theorem E8{cb co p g cc n D bg G:Nat}{cd:Nat->In}{sp:List UInt8}{c:aH}{bs:List (Nat->Int)}(hR:Rp w cb co p c.new.plain c.dr c.all c.number)(hcd:Cd w p g cc n D cd)(p1:w.cell? ⟨p,1,none⟩=some (.int .i64 bg))(p2:w.cell? ⟨p,2,none⟩=some (.int .i64 G))(hbg:bg<n)(hn:n*(D+1)<=9000)(hG:G<=9)(htx:sp.length<=4000)(hIts:ItsG cd n D (ba sp) bg bs 0 mc0)(hPl:Plcd (ba sp) 0 bs)(hho:HoOk c.dr c.new.plain.length G)(hpl:c.new.plain.length<=2000)(hhl:c.dr.length<=2000)(hnum:c.number<=1000000)(hps:bs.length<=100000000):Calls Tryz.prog 114 #[.string (ba sp),.pointer (some ⟨cb,co,none⟩)] w (RepO w sp (fX c sp bs ⟨0,[],0,false⟩)):=by
 obtain⟨RF,hRF⟩:∃RF,RF=fX c sp bs ⟨0,[],0,false⟩:=⟨_,rfl⟩;rw[<-hRF];obtain⟨num,hnu⟩:∃num,num=c.number:=⟨_,rfl⟩;obtain⟨all,hal⟩:∃all,all=c.all:=⟨_,rfl⟩;rw[<-hnu,<-hal] at hR;rw[<-hnu] at hnum;have HNU:=hid (And.intro hnu hal);have HRF:=hid hRF;clear hRF hnu hal;have HCD:=hid hcd;have P1:=hid p1;have P2:=hid p2;have HR:=hid hR;have c0:=hR.c0;clear hcd p1 p2 hR;refine(callsIn_wide (n:=5)).1 ?_;refine callsIn_of_wp_marks Tryz.func114 rfl trivial ?_ rfl;simp only[Tryz.ntmps114,List.size_toArray,QF,Rk,Nat.reduceAdd,Nat.reduceSub,Array.replicate_succ,Array.replicate_zero,List.push_toArray,Sp,Rx,QS]
 gi_wp2_with fail
 obtain⟨W6,hW6⟩:∃W6:World,W6=(((((w.alloc (.cells #[.string (ba sp)] 9)).alloc (.cells #[.pointer (some ⟨cb,co,none⟩)] 172)).alloc (.cells #[.bool false] 4)).alloc (.cells #[.slice none 0 0] 49)).alloc (.cells #[.int .i64 0] 3)).alloc (.cells #[.int .i64 0] 3):=⟨_,rfl⟩;obtain⟨b,hb⟩:∃b,b=w.heap.size:=⟨_,rfl⟩;have k6:Kp [] w W6:=by rw[hW6];exact(Kp.alloc _ _ _).trans ((Kp.alloc _ _ _).trans ((Kp.alloc _ _ _).trans ((Kp.alloc _ _ _).trans ((Kp.alloc _ _ _).trans (Kp.alloc _ _ _)))))
 have z6:W6.heap.size=b+6:=by rw[hW6,hb];simp
 have a0:W6.cell? ⟨b,0,none⟩=some (.string (ba sp)):=by rw[hW6,hb];simp[go_sem]
 have a1:W6.cell? ⟨b+1,0,none⟩=some (.pointer (some ⟨cb,co,none⟩)):=by rw[hW6,hb];simp[go_sem]
 have a2:W6.cell? ⟨b+1+1,0,none⟩=some (.bool false):=by rw[hW6,hb];simp[go_sem]
 have a3:W6.cell? ⟨b+1+1+1,0,none⟩=some (.slice none 0 0):=by rw[hW6,hb];simp[go_sem]
 have a4:W6.cell? ⟨b+1+1+1+1,0,none⟩=some (.int .i64 0):=by rw[hW6,hb];simp[go_sem]
 have a5:W6.cell? ⟨b+1+1+1+1+1,0,none⟩=some (.int .i64 0):=by rw[hW6,hb];simp[go_sem]
 have fz:∀j i,b<=j->j<b+6->W6.frozen? ⟨j,i,none⟩=false:=fun j i h1 h2=>by
  have:j=b\/j=b+1\/j=b+1+1\/j=b+1+1+1\/j=b+1+1+1+1\/j=b+1+1+1+1+1:=by omega
  rcases this with e|e|e|e|e|e<;>(rw[e,hW6,hb];simp[go_sem])
 rw[<-hW6,<-hb];have HB:=hid hb;clear hW6 hb;rename_i K1 hK1;have HK1:=hid hK1;clear hK1;refine wpIn_wide.2 ?_;refine wp_region_noPanic ?_;refine wp_region_held (S:=fun w':World=>w'.cell? ⟨b+1,0,none⟩=some (.pointer (some ⟨cb,co,none⟩))/\w'.cell? ⟨cb,co,none⟩=some (.pointer (some ⟨p,0,none⟩))/\w'.cell? ⟨b,0,none⟩=some (.string (ba sp))) (by kernel_rfl) ?_
 change wpAnyH _ _ _ _ _ _ _ _ W6.drew
 have hS:(fun w':World=>w'.cell? ⟨b+1,0,none⟩=some (.pointer (some ⟨cb,co,none⟩))/\w'.cell? ⟨cb,co,none⟩=some (.pointer (some ⟨p,0,none⟩))/\w'.cell? ⟨b,0,none⟩=some (.string (ba sp))) W6.drew:=⟨a1,(k6.cell (World.block_lt_of_cell? _ _ c0) (by simp)).trans c0,a0⟩;refine wpAnyH_take (i:=0) (v:=?v0) rfl (by kernel_rfl) (by kernel_rfl) (by kernel_rfl) (fun _ _ _ h=>h) (Or.inl ⟨by rfl,?y0⟩) hS ?_
 case y0=>(intro w hSw;(try dsimp only at hSw);go_simp;(try with_reducible rfl))
 simp only[Qt,Qr,Act.put,Qq,Qu,Qv];refine wpAnyH_take (i:=1) (v:=?v1) rfl (by kernel_rfl) (by kernel_rfl) (by kernel_rfl) (fun _ _ _ h=>h) (Or.inl ⟨by rfl,?y1⟩) hS ?_
 case y1=>(intro w hSw;(try dsimp only at hSw);go_simp;(try with_reducible rfl))
 simp only[Qt,Qs,Qr,Act.put,Qq,Qu,Qv];refine wpAnyH_take (i:=2) (v:=?v2) rfl (by kernel_rfl) (by kernel_rfl) (by kernel_rfl) (fun _ _ _ h=>h) (Or.inl ⟨by rfl,?y2⟩) hS ?_
 case y2=>(intro w hSw;(try dsimp only at hSw);go_simp;(try with_reducible rfl))
 simp only[Qt,Qs,Qr,Act.put,Qq,Qu,Qv];refine wpAnyH_take (i:=3) (v:=?v3) rfl (by kernel_rfl) (by kernel_rfl) (by kernel_rfl) (fun _ _ _ h=>h) (Or.inl ⟨by rfl,?y3⟩) hS ?_
 case y3=>(intro w hSw;(try dsimp only at hSw);go_simp;(try with_reducible rfl))
 simp only[Qt,Qs,Qr,Act.put,Qq,Qu,Qv];refine wpAnyH_take (i:=4) (v:=?v4) rfl (by kernel_rfl) (by kernel_rfl) (by kernel_rfl) (fun _ _ _ h=>h) (Or.inl ⟨by rfl,?y4⟩) hS ?_
 case y4=>(intro w hSw;(try dsimp only at hSw);go_simp;(try with_reducible rfl))
 simp only[Qt,Qs,Qr,Act.put,Qq,Qu,Qv];refine wpAnyH_take (i:=5) (v:=?v5) rfl (by kernel_rfl) (by kernel_rfl) (by kernel_rfl) (fun _ _ _ h=>h) (Or.inl ⟨by rfl,?y5⟩) hS ?_
 case y5=>(intro w hSw;(try dsimp only at hSw);go_simp;(try with_reducible rfl))
 simp only[Qt,Qs,Qr,Act.put,Qq,Qu,Qv];refine ry (i:=6) (by kernel_rfl) rfl (fun K hK=>?_);go_simp;refine(rR p (ba sp) W6.drew).mono ?_;rintro e W8 ⟨rfl,hW8⟩;have kd:=Kp.drew [] W6;have k8:Kp [] W6 W8:=by rw[hW8];exact kd.trans ((Kp.alloc _ _ _).trans (Kp.alloc _ _ _))
 have zd:W6.drew.heap.size=b+6:=z6;have z8:W8.heap.size=b+8:=by rw[hW8];simp[z6]
 have a6:W8.cell? ⟨b+6,0,none⟩=some (.pointer (some ⟨p,0,none⟩)):=by rw[hW8,<-zd];simp[go_sem]
 have a7:W8.cell? ⟨b+6+1,0,none⟩=some (.string (ba sp)):=by rw[hW8,<-zd];simp[go_sem]
 rw[zd];dsimp only;refine hK.out _ _ ⟨(k8.cell (p:=⟨b+1,0,none⟩) (by simp;omega) (by simp)).trans a1,(k8.cell (p:=⟨cb,co,none⟩) (Qx (World.block_lt_of_cell? _ _ c0) k6.size) (by simp)).trans hS.2.1,(k8.cell (p:=⟨b,0,none⟩) (by simp;omega) (by simp)).trans a0⟩ ?_;clear hK K;refine wpAnyH_done (by kernel_rfl) ?_ _;refine NoPanic.normal ?_;clear hW8 hS;refine HK1.out _ _ ?_;clear HK1 K1
 gi_wp2_with fail
 rename_i K0 hK0;have HK0:=hid hK0;clear hK0;refine oa rfl (by decide) (gf:=89) (lb:=#[.pointer (some ⟨b+6+1,0,none⟩),.pointer (some ⟨b+6,0,none⟩)]) rfl trivial (enters_of Tryz.func89 (by kernel_rfl) rfl) ?_;rintro r W hfn hst hpd htm hpm has hbd hW;rw[z8];have kW:Kp [] W8 W:=by rw[hW];exact(Kp.alloc _ _ _).trans (Kp.alloc _ _ _)
 have zW:W.heap.size=b+10:=by rw[hW];simp[z8]
 have hl:W.heap[b+8+1]? = some (.loop r):=by
  rw[hW];have:=World.alloc_heap_new (W8.alloc (.deferred (some []))) (.loop r)
  rwa [World.size_alloc,z8] at this
 have hD:W.heap[b+8]? = some (.deferred (some [])):=by
  rw[hW];refine(Below.heap_alloc _ _ _ (by simp;omega)).trans ?_;have:=World.alloc_heap_new W8 (.deferred (some []))
  rwa [z8] at this
 have k6W:Kp [] W6 W:=k8.trans kW;have kw:=k6.trans k6W;have cW:∀j v,b<=j->j<b+6->W6.cell? ⟨j,0,none⟩=some v->Bl W j [v]:=fun j v h1 hj hv=>by
  refine⟨by omega,fun i u hu=>?_,fun i=>?_⟩
  .cases i with
   | zero=>cases hu;exact(k6W.cell (p:=⟨j,0,none⟩) (by simp;omega) (by simp)).trans hv
   | succ i=>cases hu
  .exact(k6W.frozen (p:=⟨j,i,none⟩) (by simp;omega) (by simp)).trans (fz j i h1 hj)
 have b6:=(kW.cell (p:=⟨b+6,0,none⟩) (by simp;omega) (by simp)).trans a6;have b7:=(kW.cell (p:=⟨b+6+1,0,none⟩) (by simp;omega) (by simp)).trans a7;have S0:=cW _ _ (by omega) (by omega) a0;have S1:=cW _ _ (by omega) (by omega) a1;have B0:∃rs,BdyX W b (b+8+1) r rs [] W/\GdR c sp bs 0 rs:=⟨⟨0,[],0,false⟩,⟨Kp.refl _ _,hl,cW _ _ (by omega) (by omega) a2,⟨_,cW _ _ (by omega) (by omega) a3,⟨rfl,.inl ⟨rfl,rfl⟩⟩,fun g e=>(by cases e)⟩,cW _ _ (by omega) (by omega) a4,cW _ _ (by omega) (by omega) a5,fun e he=>(by cases he)⟩,⟨rfl,QG _,⟨0,QD _,QG _,hPl⟩,rfl⟩⟩;have HIts:=hid hIts;have HPS:=hid hps;have HHO:=hid hho;clear hIts hps hho hPl a0 a1 a2 a3 a4 a5 a6 a7 c0 hW
 refine(callsIn_wide.2 (I0 (l:=b+8+1) (bt:=b+6+1) (bp:=b+6) (CV:=[b+1+1,b+1+1+1,b+1+1+1+1,b+1+1+1+1+1,b+8+1]) (bs:=bs) (Bd:=fun i Z W1=>∃rs,BdyX W b (b+8+1) r rs Z W1/\GdR c sp bs i rs)
  (X:=fun W'=>∃(rd:Loop) (v:Value),rd.state≠.busy/\rd.pending=some (.exit 0)/\(RF.acc.length<=20000000/\RF.done<=sp.length)/\W'.heap[b+8+1]? = some (.loop rd)/\Kp [b+1+1,b+1+1+1,b+1+1+1+1,b+1+1+1+1+1,b+8+1] W W'/\Bl W' (b+1+1) [.bool RF.ok]/\Bl W' (b+1+1+1) [v] /\
    W'.ownsRow W.heap.size 5 1 v RF.acc.length (Lib.byteCells RF.acc)/\Bl W' (b+1+1+1+1+1) [.int .i64 RF.done])
  (HCD.out.aj kw) ((kw.cell (p:=⟨p,1,none⟩) HCD.out.hp (by simp)).trans P1.out) ((kw.cell (p:=⟨p,2,none⟩) HCD.out.hp (by simp)).trans P2.out) hbg hn hG (by rw[ay];omega) b7 b6 ?hCV HIts.out ?hkeep B0 ?hY)).mono ?_
 case hCV=>
  have h1:=HCD.out.hp;have h2:=HCD.out.hg;have h3:=HB.out;intro T hT;simp only[Rh,RH,or_false] at hT;omega
 case hkeep=>exact fun i Z W1 W2 h k kz e1 e2 e3=>h.imp fun rs q=>⟨BdyX.aj q.1 (by omega) (by omega) k kz e1 e2 e3,q.2⟩
 case hY=>
  intro W1 f m i bb Z hbi BD0 rng hflo hZf;obtain⟨rs,BD,GD⟩:=BD0;have hibs:i<bs.length:=(List.getElem?_eq_some_iff.1 hbi).1;have hdrop:bs.drop i=bb::bs.drop (i+1):=by
   rw[QW hibs,(List.getElem?_eq_some_iff.1 hbi).2]
  obtain⟨fr,hfr1,hfr2,hPl⟩:=GD.pl;rw[hdrop] at hPl;obtain⟨hbest,hPl2⟩:=hPl;obtain⟨a,ee,hb0,hb1,hfa,hae,hes⟩:=hbest.ends;rw[ay] at hes;have hda:rs.done<=a:=by omega
  have HB0:=hid (And.intro hb0 hb1);have HBN:=hid hbest;have HPL2:=hid hPl2;have HEQ:Hid (RF=fX c sp (bb::bs.drop (i+1)) rs):=hid (by rw[HRF.out,GD.eq,hdrop]);have hcnt:=GD.cnt;have hacc:=GD.acc;have s4':=BD.s4;rw[hcnt] at s4';clear hdrop hbest hPl2 hb0 hb1 GD hbi;have hl1:=BD.lp;refine AN hfn hl1 hst hpd (by rw[hpm];rfl) ?_;rw[has,hbd,hpm,htm];intro rb K hrb hK;have HRB:=hid hrb;clear hrb;have HK:=hid hK;clear hK
  gi_wp2
  refine HK.out _ ?_;clear HK K;obtain⟨W2,hW2⟩:∃W2:World,W1.putObj (b+8+1) (.loop rb)=W2:=⟨_,rfl⟩;have k2:Kp [b+8+1] W1 W2:=by rw[<-hW2];exact(dX (grownBy_putObj' W1 (b+8+1) _)).mono (by simp)
  have hl2:W2.heap[b+8+1]? = some (.loop rb):=by rw[<-hW2];exact World.putObj_heap_same (Array.getElem?_eq_some_iff.1 hl1).1
  obtain⟨v,v1,v2,v3⟩:=BD.row;have zk:=BD.kp.size;have vlo:∀x,v.ownBlock=some x->b+10<=x:=fun x hx=>by have:=(aA v2 hx).1;omega
  obtain⟨T,hT⟩:∃T:List Nat,T=[b+1+1,b+1+1+1,b+1+1+1+1,b+1+1+1+1+1,b+8+1]++v.ownBlock.toList:=⟨_,rfl⟩
  have old:Hid (∀Wx,Kp T W1 Wx->∀q u,w.cell? q=some u->Wx.cell? q=some u):=hid (fun Wx kx q u hq=>by
   have hl:=World.block_lt_of_cell? _ _ hq;have h3:=HB.out;have n1:q.block∉[b+1+1,b+1+1+1,b+1+1+1+1,b+1+1+1+1+1,b+8+1]:=by simp;omega
   have n2:q.block∉T:=by
    rw[hT,List.mem_append];rintro(e|e)
    .exact n1 e
    .have:=vlo q.block (by simpa using e);omega
   exact(kx.cell (p:=q) (by omega) n2).trans ((BD.kp.cell (p:=q) (by omega) n1).trans ((kw.cell (p:=q) hl (by simp)).trans hq)))
  have M2:Hid (tS (b+10) W1 T b (b+8+1) rb sp cb co v rs.ok i rs.done W2):=hid ⟨k2.mono (by rw[hT];simp),by omega,by omega,by omega,by omega,by rw[hT];simp,hl2,
   (S0.aj BD.kp (by simp;omega)).aj k2 (by rw[QE];omega),(S1.aj BD.kp (by simp)).aj k2 (by rw[QE];omega),BD.s2.aj k2 (by rw[QE];omega),v1.aj k2 (by rw[QE];omega),s4'.aj k2 (by rw[QE];omega),BD.s5.aj k2 (by rw[QE];omega)⟩
  have R2:Hid (W2.ownsRow W.heap.size 5 1 v rs.acc.length (Lib.byteCells rs.acc)):=hid (ag v2 (fun x hx=>k2.block x (aA v2 hx).2 (by rw[QE];have:=vlo x hx;omega)));have hi64:i<bs.length:=hibs;have hpsl:=HPS.out;obtain⟨i1,hi1⟩:∃i1:Nat,(i:Int)+1=(i1:Int):=⟨i+1,by omega⟩;have wi:=aa i1 (by omega);have e4:=M2.out.s4.at_ 0 _ rfl;have g4:=M2.out.s4.free 0;rw[hW2];clear hW2
  gi_wp2_with fail
  have M3:=hid (M2.out.set4 i1);have R3:Hid ((W2.setCell ⟨b+1+1+1+1,0,none⟩ (.int .i64 i1)).ownsRow W.heap.size 5 1 v rs.acc.length (Lib.byteCells rs.acc)):=hid (ag R2.out (fun x hx=>Below.heap_setCell _ _ _ _ (by have:=vlo x hx;simp;omega)));generalize W2.setCell ⟨b+1+1+1+1,0,none⟩ (.int .i64 i1)=W3 at *;clear e4 g4;rename_i K2 hK2 K3 hK3;have HK2:=hid hK2;have HK3:=hid hK3;clear hK2 hK3;refine nk (fun w':World=>w'.cell? ⟨b+1+1+1+1,0,none⟩=some (.int .i64 i1)/\w'.cell? ⟨b+1,0,none⟩=some (.pointer (some ⟨cb,co,none⟩))/\w'.cell? ⟨cb,co+6,none⟩=some (.int .i64 num)) (by kernel_rfl) (by kernel_rfl) ?_;have hS:(fun w':World=>w'.cell? ⟨b+1+1+1+1,0,none⟩=some (.int .i64 i1)/\w'.cell? ⟨b+1,0,none⟩=some (.pointer (some ⟨cb,co,none⟩))/\w'.cell? ⟨cb,co+6,none⟩=some (.int .i64 num)) W3.drew:=⟨M3.out.s4.at_ 0 _ rfl,M3.out.s1.at_ 0 _ rfl,old.out W3 M3.out.kp _ _ HR.out.c6⟩;refine wpAnyH_take (i:=0) (v:=?v0b) rfl (by kernel_rfl) (by kernel_rfl) (by kernel_rfl) (fun _ _ _ h=>h) (Or.inl ⟨by rfl,?y0b⟩) hS ?_
  case y0b=>(intro w hSw;(try dsimp only at hSw);go_simp;(try with_reducible rfl))
  simp only[Qt,Qr,Act.put,Qq,Qu,Qv];refine wpAnyH_take (i:=1) (v:=?v1b) rfl (by kernel_rfl) (by kernel_rfl) (by kernel_rfl) (fun _ _ _ h=>h) (Or.inl ⟨by rfl,?y1b⟩) hS ?_
  case y1b=>(intro w hSw;(try dsimp only at hSw);go_simp;(try with_reducible rfl))
  simp only[Qt,Qs,Qr,Act.put,Qq,Qu,Qv];refine wpAnyH_take (i:=2) (v:=?v2b) rfl (by kernel_rfl) (by kernel_rfl) (by kernel_rfl) (fun _ _ _ h=>h) (Or.inl ⟨by rfl,?y2b⟩) hS ?_
  case y2b=>(intro w hSw;(try dsimp only at hSw);go_simp;(try with_reducible rfl))
  simp only[Qt,Qs,Qr,Act.put,Qq,Qu,Qv];refine wpAnyH_take (i:=3) (v:=?v3b) rfl (by kernel_rfl) (by kernel_rfl) (by kernel_rfl) (fun _ _ _ h=>h) (Or.inl ⟨by rfl,?y3b⟩) hS ?_
  case y3b=>(intro w hSw;(try dsimp only at hSw);go_simp;(try with_reducible rfl))
  simp only[Qt,Qs,Qr,Act.put,Qq,Qu,Qv];refine wpAnyH_take (i:=4) (v:=?v4b) rfl (by kernel_rfl) (by kernel_rfl) (by kernel_rfl) (fun _ _ _ h=>h) (Or.inl ⟨by rfl,?y4b⟩) hS ?_
  case y4b=>(intro w hSw;(try dsimp only at hSw);go_simp;(try with_reducible rfl))
  simp only[Qt,Qs,Qr,Act.put,Qq,Qu,Qv];refine wpAnyH_take (i:=5) (v:=?v5b) rfl (by kernel_rfl) (by kernel_rfl) (by kernel_rfl) (fun _ _ _ h=>h) (Or.inl ⟨by rfl,?y5b⟩) hS ?_
  case y5b=>(intro w hSw;(try dsimp only at hSw);go_simp;(try with_reducible rfl))
  simp only[Qt,Qs,Qr,Act.put,Qq,Qu,Qv];refine wpAnyH_done (by kernel_rfl) ?_ _;refine qP.normal ?_;clear hS;refine HK3.out _ _ ?_;clear HK3 K3;have M4:=hid (M3.out.aj (Kp.drew [] W3) (by simp) (by simp));have R4:=hid (ag R3.out (fun x hx=>(Kp.drew [] W3).block x (aA R3.out hx).2 (by simp)));generalize W3.drew=W4 at *;by_cases hlt:i1<num
  .have hd1:decide (i1<num)=true:=by simpa using hlt
   rw[hd1]
   gi_wp2
   have M5:=M4.out;rw[hT] at M5;obtain⟨S,Z2,q1,q2,q3,q4,q5,q6,q7,q8,q9,q10,q11⟩:=M5.ends (rd:={ rb with state:=.ready,pending:=none}) (acc:=rs.acc) zW BD.kp (by rw[<-zW];exact R4.out) (fun g hg=>⟨vlo g hg,v3 g hg⟩) (fun g hg=>.inl hg);have ei:i1=i+1:=by omega
   have gd:GdR c sp bs (i+1) { rs with cnt:=i+1}:=⟨rfl,hacc,⟨ee,by show rs.done<=ee;omega,hes,by have:=HPL2.out;rw[HB0.out.2] at this;exact this⟩,by
    have:=HEQ.out;rw[HRF.out,rP (by rw[hcnt,<-HNU.out.1,<-ei];exact hlt),hcnt] at this
    exact this⟩
   refine⟨_,_,run_endRound none M4.out.lp,S,Z2,q1,q2,q3,.inl ⟨rfl,{ rs with cnt:=i+1},⟨q5,by rw[<-HRB.out];exact q6,q7,⟨v,q8,by rw[zW];exact q11,q4⟩,by have:=q9;rw[ei] at this;exact this,q10,fun e he=>(q3 e he).1⟩,gd⟩⟩
  .have hd1:decide (i1<num)=false:=by simpa using hlt
   rw[hd1]
   gi_wp2_with fail
   refine HK2.out _ _ ?_;clear HK2 K2;obtain⟨i0,hi0,hz0,hz1,hz2⟩:=info_parts Tryz.infoByte;have HI:=hid (And.intro hi0 (And.intro hz0 (And.intro hz1 hz2)));clear hi0 hz0 hz1 hz2;have hfv:v.ownBlock≠some f:=fun e=>by obtain⟨o,ho⟩:=v3 f e;exact hZf _ ho rfl
   have hfl:f<W1.heap.size:=World.block_lt_of_cell? _ _ (rng 0 _ rfl)
   have nts:Hid (∀Wx,Kp T W1 Wx->∀j,j<2+2*G->Wx.cell? ⟨f,8+j,none⟩=some (.int .i64 (bb j))):=hid (fun Wx kx j hj=>by
    have n2:f∉T:=by
     rw[hT,List.mem_append];rintro(e|e)
     .simp only[Rh,RH,or_false] at e;omega
     .exact hfv (by simpa using e)
    rw[kx.cell (p:=⟨f,8+j,none⟩) hfl n2]
    exact rng j _ (oc _ j (by omega)))
   obtain⟨acc,hA⟩:∃acc,acc=rs.acc:=⟨_,rfl⟩;obtain⟨dn,hDn⟩:∃dn,dn=rs.done:=⟨_,rfl⟩;obtain⟨ok0,hOk⟩:∃ok0,ok0=rs.ok:=⟨_,rfl⟩;rw[<-hA] at R4 hacc;rw[<-hDn,<-hOk] at M4;rw[<-hDn] at hda;have HRS0:=hid (And.intro hA hDn);clear hA hDn hOk;obtain⟨P1,hP1⟩:∃P1,P1=(sp.take a).drop dn:=⟨_,rfl⟩;have x1:(ba sp).extract dn a=ba P1:=by rw[fu,hP1]
   have lP1:P1.length<=4000:=by rw[hP1,QZ,Re];omega
   have zP1:=ay P1;have zs:=ay sp;have hasp:a<=sp.length:=by omega
   have hG0:(0:Int)<2+2*(G:Int):=by omega
   have hG1:(1:Int)<2+2*(G:Int):=by omega
   have HPP:=hid hP1;clear hP1 hd1 v1;have HV2:=hid (And.intro v2 v3);clear v2 v3
   gi_wp2_with fail
   rename_i K2 hK2;have HK2:=hid hK2;clear hK2;refine ju (fun w':World=>w'.cell? ⟨b+1+1+1,0,none⟩=some v/\w'.cell? ⟨b,0,none⟩=some (.string (ba sp))/\w'.cell? ⟨b+1+1+1+1+1,0,none⟩=some (.int .i64 dn)/\w'.cell? ⟨f,8,none⟩=some (.int .i64 a)) 8 (by kernel_rfl) (by kernel_rfl) ?_;have M5:=hid (M4.out.aj (Kp.drew [] W4) (by simp) (by simp));have R5:=hid (ag R4.out (fun x hx=>(Kp.drew [] W4).block x (aA R4.out hx).2 (by simp)));generalize W4.drew=W5 at *;clear M4 R4;have mkS:Hid (∀W6,tS (b+10) W1 T b (b+8+1) rb sp cb co v ok0 i1 dn W6->(fun w':World=>w'.cell? ⟨b+1+1+1,0,none⟩=some v/\w'.cell? ⟨b,0,none⟩=some (.string (ba sp))/\w'.cell? ⟨b+1+1+1+1+1,0,none⟩=some (.int .i64 dn)/\w'.cell? ⟨f,8,none⟩=some (.int .i64 a)) W6):=hid (fun W6 M=>⟨M.s3.at_ 0 _ rfl,M.s0.at_ 0 _ rfl,M.s5.at_ 0 _ rfl,by have:=nts.out W6 M.kp 0 (by omega);rw[HB0.out.1] at this;exact this⟩);have hS:=mkS.out W5 M5.out;refine tk1 0 (v:=?_) rfl (by kernel_rfl) (fun _ _ _ h=>h) ⟨rfl,fun w hSw=>?_⟩ hS ?_;rotate_left;· ((try dsimp only at hSw);go_simp;(try with_reducible rfl))
   (try simp only[Qt,Qs,Qr,Act.put,Qq,Qu,Qv])
   refine tk1 1 (v:=?_) rfl (by kernel_rfl) (fun _ _ _ h=>h) ⟨rfl,fun w hSw=>?_⟩ hS ?_;rotate_left;· ((try dsimp only at hSw);go_simp;(try with_reducible rfl))
   (try simp only[Qt,Qs,Qr,Act.put,Qq,Qu,Qv])
   refine tk1 2 (v:=?_) rfl (by kernel_rfl) (fun _ _ _ h=>h) ⟨rfl,fun w hSw=>?_⟩ hS ?_;rotate_left;· ((try dsimp only at hSw);go_simp;(try with_reducible rfl))
   (try simp only[Qt,Qs,Qr,Act.put,Qq,Qu,Qv])
   refine tk1 3 (v:=?_) rfl (by kernel_rfl) (fun _ _ _ h=>h) ⟨rfl,fun w hSw=>?_⟩ hS ?_;rotate_left;· ((try dsimp only at hSw);go_simp;(try with_reducible rfl))
   (try simp only[Qt,Qs,Qr,Act.put,Qq,Qu,Qv])
   refine tk1 4 (v:=?_) rfl (by kernel_rfl) (fun _ _ _ h=>h) ⟨rfl,fun w hSw=>?_⟩ hS ?_;rotate_left;· ((try dsimp only at hSw);go_simp;(try with_reducible rfl))
   (try simp only[Qt,Qs,Qr,Act.put,Qq,Qu,Qv])
   refine tk1 5 (v:=?_) rfl (by kernel_rfl) (fun _ _ _ h=>h) ⟨rfl,fun w hSw=>?_⟩ hS ?_;rotate_left;· ((try dsimp only at hSw);go_simp;(try with_reducible rfl))
   (try simp only[Qt,Qs,Qr,Act.put,Qq,Qu,Qv])
   refine tk1 6 (v:=?_) rfl (by kernel_rfl) (fun _ _ _ h=>h) ⟨rfl,fun w hSw=>?_⟩ hS ?_;rotate_left;· ((try dsimp only at hSw);go_simp;(try with_reducible rfl))
   (try simp only[Qt,Qs,Qr,Act.put,Qq,Qu,Qv])
   refine ai (i:=7) (by kernel_rfl) rfl (fun K hK=>?_);refine Ic (by rfl) (.tmp 26) (.tmp 32) 49 9 (by rfl) W.heap.size 5 i0 Tryz.underlying49 Tryz.underlying9 HI.out.1 HI.out.2.1 HI.out.2.2.1 HI.out.2.2.2 v acc.length (Lib.byteCells acc) (by rfl) R5.out (ba P1) (by rfl) (by rw[zP1];omega) (by have:=M5.out.kp.size;omega) ?_;intro v6 W6 ho6 hg6 hl6;rw[ay,eN] at ho6;have G6:=hid ((Cs.refl R5.out (by have:=M5.out.kp.size;omega)).more ho6 hg6 hl6);have M6:=hid (M5.out.aj G6.out.kp (fun x hx=>vlo x (by simpa using hx)) (fun x hx=>.inl (by rw[hT];exact RX _ hx)));clear ho6 hg6 hl6 hS;refine hK.out _ _ (.inr (mkS.out W6 M6.out)) ?_;clear hK K mkS;refine ai (i:=8) (by kernel_rfl) rfl (fun K hK=>?_);have e3:=M6.out.s3.at_ 0 _ rfl;have g3:=M6.out.s3.free 0;obtain⟨ad,n1,cap,hve⟩:∃ad n cap,v6=.slice ad n cap:=(let ⟨x,y,z⟩:=nC G6.out.row;⟨x,_,y,z⟩);rw[hve];go_simp;refine hK.out _ _ (.inl rfl) ?_
   rw[<-hve];clear hK K e3 g3 hve ad n1 cap;refine ax (by kernel_rfl) ?_ _;refine qP.normal ?_;refine HK2.out _ _ ?_;clear HK2 K2;have M7:=hid (M6.out.set3 v6);have hv6:∀x,v6.ownBlock=some x->b+10<=x:=fun x hx=>by have:=(aA G6.out.row hx).1;omega
   have hv6T:Hid (∀x∈v6.ownBlock.toList,x∈T\/W1.heap.size<=x):=hid (fun x hx=>by
    rcases G6.out.at_ x (by simpa using hx) with q|q
    .exact .inl (by rw[hT];exact RX _ (by simpa using q))
    .exact .inr (QC M5.out.kp.size q))
   have hv6f:v6.ownBlock≠some f:=fun e=>by
    rcases G6.out.at_ f e with q|q
    .exact hfv q
    .have:=M5.out.kp.size;omega
   have hv6w:Hid (∀q u,w.cell? q=some u->v6.ownBlock≠some q.block):=hid (fun q u hq e=>by
    have:=World.block_lt_of_cell? _ _ hq;have:=hv6 _ e;have:=HB.out
    omega)
   have R7:Hid ((W6.setCell ⟨b+1+1+1,0,none⟩ v6).ownsRow W.heap.size 5 1 v6 (acc++P1).length (Lib.byteCells (acc++P1))):=hid (ag G6.out.row (fun x hx=>Below.heap_setCell _ _ _ _ (by have:=hv6 x hx;simp;omega)));have A6:=hid G6.out.at_;have Z5:=M5.out.kp.size;generalize W6.setCell ⟨b+1+1+1,0,none⟩ v6=W7 at *;clear M6 G6 M5 R5
   gi_wp2_with fail
   rename_i K2 hK2;have HK2:=hid hK2;clear hK2;refine ju (fun w':World=>w'.cell? ⟨b+1+1+1,0,none⟩=some v6/\w'.cell? ⟨b+1,0,none⟩=some (.pointer (some ⟨cb,co,none⟩))/\w'.cell? ⟨b,0,none⟩=some (.string (ba sp))) 7 (by kernel_rfl) (by kernel_rfl) ?_;have M8:=hid (M7.out.aj (Kp.drew [] W7) (by simp) (by simp));have R8:=hid (ag R7.out (fun x hx=>(Kp.drew [] W7).block x (aA R7.out hx).2 (by simp)));generalize W7.drew=W8' at *;clear M7 R7;have mkS:Hid (∀W9,tS (b+10) W1 T b (b+8+1) rb sp cb co v6 ok0 i1 dn W9->(fun w':World=>w'.cell? ⟨b+1+1+1,0,none⟩=some v6/\w'.cell? ⟨b+1,0,none⟩=some (.pointer (some ⟨cb,co,none⟩))/\w'.cell? ⟨b,0,none⟩=some (.string (ba sp))) W9):=hid (fun W9 M=>⟨M.s3.at_ 0 _ rfl,M.s1.at_ 0 _ rfl,M.s0.at_ 0 _ rfl⟩);have hS:=mkS.out W8' M8.out;refine tk1 0 (v:=?_) rfl (by kernel_rfl) (fun _ _ _ h=>h) ⟨rfl,fun w hSw=>?_⟩ hS ?_;rotate_left;· ((try dsimp only at hSw);go_simp;(try with_reducible rfl))
   (try simp only[Qt,Qs,Qr,Act.put,Qq,Qu,Qv])
   refine tk1 1 (v:=?_) rfl (by kernel_rfl) (fun _ _ _ h=>h) ⟨rfl,fun w hSw=>?_⟩ hS ?_;rotate_left;· ((try dsimp only at hSw);go_simp;(try with_reducible rfl))
   (try simp only[Qt,Qs,Qr,Act.put,Qq,Qu,Qv])
   refine tk1 2 (v:=?_) rfl (by kernel_rfl) (fun _ _ _ h=>h) ⟨rfl,fun w hSw=>?_⟩ hS ?_;rotate_left;· ((try dsimp only at hSw);go_simp;(try with_reducible rfl))
   (try simp only[Qt,Qs,Qr,Act.put,Qq,Qu,Qv])
   refine tk1 3 (v:=?_) rfl (by kernel_rfl) (fun _ _ _ h=>h) ⟨rfl,fun w hSw=>?_⟩ hS ?_;rotate_left;· ((try dsimp only at hSw);go_simp;(try with_reducible rfl))
   (try simp only[Qt,Qs,Qr,Act.put,Qq,Qu,Qv])
   refine tk1 4 (v:=?_) rfl (by kernel_rfl) (fun _ _ _ h=>h) ⟨rfl,fun w hSw=>?_⟩ hS ?_;rotate_left;· ((try dsimp only at hSw);go_simp;(try with_reducible rfl))
   (try simp only[Qt,Qs,Qr,Act.put,Qq,Qu,Qv])
   refine tk1 5 (v:=?_) rfl (by kernel_rfl) (fun _ _ _ h=>h) ⟨rfl,fun w hSw=>?_⟩ hS ?_;rotate_left;· ((try dsimp only at hSw);go_simp;(try with_reducible rfl))
   (try simp only[Qt,Qs,Qr,Act.put,Qq,Qu,Qv])
   refine ai (i:=6) (by kernel_rfl) rfl (fun K hK=>?_);go_simp;obtain⟨A,hc,h4,h4c⟩:=HR.out.c4;refine(Ch (lo:=W.heap.size) (b:=bb) (plain:=c.new.plain) (dr:=c.dr) (A:=A) (hc:=hc) R8.out (by have:=M8.out.kp.size;omega) (by rw[Qy];omega) hpl (by omega) hhl (old.out _ M8.out.kp _ _ HR.out.c3) (old.out _ M8.out.kp _ _ h4) (hv6w.out _ _ HR.out.c3) ?hH ?hOO hv6f (nts.out _ M8.out.kp) (by omega)).mono ?_
   case hH=>
    intro j x h hj;obtain⟨hb',r1,r2,r3⟩:=h4c j x h hj;obtain⟨r4,r5⟩:=HHO.out.le (x,h) (QM hj);have r6:bb (2*h)<=bb (2*h+1)/\bb (2*h+1)<=sp.length:=by
     by_cases h0:h=0
     .subst h0;rw[show 2*0=0 from rfl,show 0+1=1 from rfl,HB0.out.1,HB0.out.2];omega
     .have:=HBN.out.notes h (by omega);rw[ay] at this;exact⟨this.2.1,this.2.2⟩
    have r5':h<=G:=r5;exact⟨hb',r1,hv6w.out _ _ r2,old.out _ M8.out.kp _ _ r2,old.out _ M8.out.kp _ _ r3,r4,by omega,r6.1,r6.2⟩
   case hOO=>exact fun i a g a' g' h1 h2=>pw_succ HHO.out.pw h1 h2
   rintro e9 W9 ⟨v9,rfl,G9'⟩;have G9:=hid G9';have M9:=hid (M8.out.aj G9'.kp (fun x hx=>hv6 x (by simpa using hx)) hv6T.out);clear G9' h4 h4c hS;refine hK.out _ _ (.inr (mkS.out W9 M9.out)) ?_;clear hK K mkS;refine ai (i:=7) (by kernel_rfl) rfl (fun K hK=>?_);have e3:=M9.out.s3.at_ 0 _ rfl;have g3:=M9.out.s3.free 0;obtain⟨ad,n1,cap,hve⟩:∃ad n cap,v9=.slice ad n cap:=(let ⟨x,y,z⟩:=nC G9.out.row;⟨x,_,y,z⟩);rw[hve];go_simp;refine hK.out _ _ (.inl rfl) ?_;rw[<-hve];clear hK K e3 g3 hve ad n1 cap;refine ax (by kernel_rfl) ?_ _;refine qP.normal ?_;refine HK2.out _ _ ?_;clear HK2 K2;have M10:=hid (M9.out.set3 v9);have hv9:∀x,v9.ownBlock=some x->b+10<=x:=fun x hx=>by have:=(aA G9.out.row hx).1;omega
   have hv9T:Hid (∀g,v9.ownBlock=some g->v.ownBlock=some g\/W1.heap.size<=g):=hid (fun x hx=>by
    rcases G9.out.at_ x hx with q|q
    .rcases A6.out x q with q|q
     .exact .inl q
     .exact .inr (by omega)
    .have:=M8.out.kp.size;exact .inr (by omega))
   have R10:Hid ((W9.setCell ⟨b+1+1+1,0,none⟩ v9).ownsRow W.heap.size 5 1 v9 (acc++P1++jF c.new.plain sp bb 0 c.dr).length (Lib.byteCells (acc++P1++jF c.new.plain sp bb 0 c.dr))):=hid (ag G9.out.row (fun x hx=>Below.heap_setCell _ _ _ _ (by have:=hv9 x hx;simp;omega)));generalize W9.setCell ⟨b+1+1+1,0,none⟩ v9=W10 at *;clear G9 M9 M8 R8;obtain⟨acc2,hacc2⟩:∃acc2,acc2=acc++P1++jF c.new.plain sp bb 0 c.dr:=⟨_,rfl⟩;rw[<-hacc2] at R10;have hlen2:acc2.length<=20000000:=by
    have hf:=qz c.new.plain sp bb c.dr 0;have hm:(c.new.plain.length+sp.length)*(c.dr.length+1)<=6000*2001:=RI (by omega) (by omega);rw[hacc2,Qy,Qy];omega
   have HA2:=hid hacc2;clear hacc2;obtain⟨ad,cap,rfl⟩:=nC R10.out;obtain⟨dn2,hdn2⟩:∃dn2:Nat,dn2=ee:=⟨_,rfl⟩;have HD2:=hid hdn2;have f1:W10.cell? ⟨f,9,none⟩=some (.int .i64 dn2):=by
    have:=nts.out _ M10.out.kp 1 (by omega);rw[HB0.out.2,<-hdn2] at this;exact this
   clear hdn2;have e5:=M10.out.s5.at_ 0 _ rfl;have g5:=M10.out.s5.free 0;have M11:=hid (M10.out.set5 dn2);have e2:=M11.out.s2.at_ 0 _ rfl;have g2:=M11.out.s2.free 0;have M12:=hid (M11.out.set2 true);have o1:=M12.out.s1.at_ 0 _ rfl;have o3:=M12.out.s3.at_ 0 _ rfl;have o5:=old.out _ M12.out.kp _ _ HR.out.c5;have hR1:r1R c sp bb rs=⟨i+1,acc2,dn2,true⟩:=by
    unfold r1R;rw[HB0.out.1,HB0.out.2,hcnt,HA2.out,HPP.out,HD2.out,HRS0.out.1,HRS0.out.2]
    rfl
   have hnot:¬rs.cnt+1<c.number:=by rw[hcnt,<-HNU.out.1];omega
   have ER:Hid ((all=false\/4000<acc2.length)->RF=⟨i+1,acc2,dn2,true⟩):=hid (fun q=>by
    rw[HEQ.out,rO hnot (by rw[hR1,<-HNU.out.2];exact q),hR1])
   have EG:Hid (¬(all=false\/4000<acc2.length)->RF=fX c sp (bs.drop (i+1)) ⟨i+1,acc2,dn2,true⟩):=hid (fun q=>by
    rw[HEQ.out,Dd hnot (by rw[hR1,<-HNU.out.2];exact q),hR1])
   have HL2:=hid hlen2;have HES:Hid (dn2<=sp.length):=hid (by rw[HD2.out];exact hes);clear hR1 hnot;by_cases hbrk:all=false\/4000<acc2.length
   .have HBK:=hid hbrk
    cases hall:all
    .rw[hall] at o5
     gi_wp2_with fail
     have M13:=M12.out;have lp13:=M13.lp;rw[hT] at M13;have R12:=ag R10.out (w':=(W10.setCell ⟨b+1+1+1+1+1,0,none⟩ (.int .i64 dn2)).setCell ⟨b+1+1,0,none⟩ (.bool true)) (fun x hx=>(Below.heap_setCell _ _ _ _ (by have:=hv9 x hx;simp;omega)).trans (Below.heap_setCell _ _ _ _ (by have:=hv9 x hx;simp;omega)));obtain⟨S,Z2,q1,q2,q3,q4,q5,q6,q7,q8,q9,q10,q11⟩:=M13.ends (rd:={ rb with state:=.done,pending:=some (.exit 0)}) (acc:=acc2) zW BD.kp (by rw[<-zW];exact R12) (fun g hg=>⟨vlo g hg,HV2.out.2 g hg⟩) hv9T.out;have er:=ER.out HBK.out;refine⟨_,_,run_endRound (some (.exit 0)) lp13,S,Z2,q1,q2,q3,.inr ⟨rfl,_,_,?_,?_,?_,q6,q5,by rw[er];exact q7,q8,by rw[er,zW];exact q11,by rw[er];exact q10⟩⟩
     .simp
     .rfl
     .rw[er];exact⟨HL2.out,HES.out⟩
    .rw[hall] at o5;have hbig:4000<acc2.length:=by
      rcases hbrk with q|q
      .rw[hall] at q;cases q
      .exact q
     clear hbrk
     gi_wp2_with fail
     have M13:=M12.out;have lp13:=M13.lp;rw[hT] at M13;have R12:=ag R10.out (w':=(W10.setCell ⟨b+1+1+1+1+1,0,none⟩ (.int .i64 dn2)).setCell ⟨b+1+1,0,none⟩ (.bool true)) (fun x hx=>(Below.heap_setCell _ _ _ _ (by have:=hv9 x hx;simp;omega)).trans (Below.heap_setCell _ _ _ _ (by have:=hv9 x hx;simp;omega)));obtain⟨S,Z2,q1,q2,q3,q4,q5,q6,q7,q8,q9,q10,q11⟩:=M13.ends (rd:={ rb with state:=.done,pending:=some (.exit 0)}) (acc:=acc2) zW BD.kp (by rw[<-zW];exact R12) (fun g hg=>⟨vlo g hg,HV2.out.2 g hg⟩) hv9T.out;have er:=ER.out HBK.out;refine⟨_,_,run_endRound (some (.exit 0)) lp13,S,Z2,q1,q2,q3,.inr ⟨rfl,_,_,?_,?_,?_,q6,q5,by rw[er];exact q7,q8,by rw[er,zW];exact q11,by rw[er];exact q10⟩⟩
     .simp
     .rfl
     .rw[er];exact⟨HL2.out,HES.out⟩
   .have HBK:=hid hbrk;have hall:all=true:=by
     cases h:all
     .exact absurd (.inl h) hbrk
     .rfl
    have hsm:¬4000<acc2.length:=fun q=>hbrk (.inr q);rw[hall] at o5;clear hbrk
    gi_wp2_with fail
    have M13:=M12.out;have lp13:=M13.lp;rw[hT] at M13;have R12:=ag R10.out (w':=(W10.setCell ⟨b+1+1+1+1+1,0,none⟩ (.int .i64 dn2)).setCell ⟨b+1+1,0,none⟩ (.bool true)) (fun x hx=>(Below.heap_setCell _ _ _ _ (by have:=hv9 x hx;simp;omega)).trans (Below.heap_setCell _ _ _ _ (by have:=hv9 x hx;simp;omega)));obtain⟨S,Z2,q1,q2,q3,q4,q5,q6,q7,q8,q9,q10,q11⟩:=M13.ends (rd:={ rb with state:=.ready,pending:=none}) (acc:=acc2) zW BD.kp (by rw[<-zW];exact R12) (fun g hg=>⟨vlo g hg,HV2.out.2 g hg⟩) hv9T.out;have ei:i1=i+1:=by omega
    have gd:GdR c sp bs (i+1) ⟨i+1,acc2,dn2,true⟩:=⟨rfl,by show acc2.length<=4000;omega,⟨dn2,QD _,HES.out,by have:=HPL2.out;rw[HB0.out.2,<-HD2.out] at this;exact this⟩,by rw[<-HRF.out];exact EG.out HBK.out⟩;refine⟨_,_,run_endRound none lp13,S,Z2,q1,q2,q3,.inl ⟨rfl,⟨i+1,acc2,dn2,true⟩,⟨q5,by rw[<-HRB.out];exact q6,q7,⟨_,q8,by rw[zW];exact q11,q4⟩,by have:=q9;rw[ei] at this;exact this,q10,fun e he=>(q3 e he).1⟩,gd⟩⟩
 rintro e W' ⟨⟨v',rfl⟩,hE⟩;obtain⟨rs,hrs⟩:∃rs:Rst,rs=RF:=⟨_,rfl⟩;obtain⟨rd,u,⟨hacc,hdn⟩,e1,e2,e3,e4,e5,e6,e7,e8⟩:∃(rd:Loop) (u:Value),(rs.acc.length<=20000000/\rs.done<=sp.length)/\rd.state≠.busy/\(rd.pending=none\/rd.pending=some (.exit 0))/\W'.heap[b+8+1]? = some (.loop rd)/\Kp [b+1+1,b+1+1+1,b+1+1+1+1,b+1+1+1+1+1,b+8+1] W W'/\Bl W' (b+1+1) [.bool rs.ok]/\Bl W' (b+1+1+1) [u]/\W'.ownsRow W.heap.size 5 1 u rs.acc.length (Lib.byteCells rs.acc)/\Bl W' (b+1+1+1+1+1) [.int .i64 rs.done]:=by
  rcases hE with⟨Z,rs1,BD,GD⟩|⟨rd,u,h1,h2,h3,h4,h5,h6,h7,h8,h9⟩
  .obtain⟨u,u1,u2,_⟩:=BD.row;have er:rs=rs1:=by
    rw[hrs,HRF.out,GD.eq,Sy]
    rfl
   obtain⟨fr,f1,f2,_⟩:=GD.pl;have:=GD.acc;rw[er];exact⟨r,u,⟨by omega,by omega⟩,by rw[hst];simp,.inl hpd,BD.lp,BD.kp,BD.s2,u1,u2,BD.s5⟩
  .rw[hrs];exact⟨rd,u,h3,h1,.inr h2,h4,h5,h6,h7,h8,h9⟩
 have HRS:=hid hrs;clear hrs hE B0;obtain⟨W9,hre,k9⟩:=qg (P:=Tryz.prog) e3 e1;have zk:=e4.size;have zk9:b+10<=W9.heap.size:=by have:=k9.size;omega
 have hD9:W9.heap[b+8]? = some (.deferred (some [])):=(k9.block _ (by omega) (by rw[QE];omega)).trans ((e4.block _ (by omega) (by simp)).trans hD);have T0:=hid ((S0.aj e4 (by simp;omega)).aj k9 (by rw[QE];omega));have T2:=hid (e5.aj k9 (by rw[QE];omega));have T3:=hid (e6.aj k9 (by rw[QE];omega));have T5:=hid (e8.aj k9 (by rw[QE];omega));have T7:=hid (ag e7 (fun x hx=>k9.block x (aA e7 hx).2 (by rw[QE];have:=(aA e7 hx).1;omega)));have K9:Hid (Kp [b+1+1,b+1+1+1,b+1+1+1+1,b+1+1+1+1+1,b+8+1] w W9):=hid ((kw.mono (by simp)).trans (e4.trans (k9.mono (by simp))));clear e4 e5 e6 e7 e8 S0 S1;have fin:∀act:Act,act={ tmps:=r.tmps,defers:=[{ target:=.collected (b+8),args:=#[]}]}->K0 act W9:=by
  rintro act rfl;refine HK0.out _ _ ?_;rw[htm];have okF:=T2.out.at_ 0 _ rfl;have gF:=T2.out.free 0;have spF:=T0.out.at_ 0 _ rfl
  cases hok:rs.ok with
  | false=>
   rw[hok] at okF
   gi_wp2_with fail
   have T9:=T2.out.set 0 (.bool false) (by simp);have hD10:(W9.setCell ⟨b+1+1,0,none⟩ (.bool false)).heap[b+8]? = some (.deferred (some [])):=(Below.heap_setCell _ _ _ _ (by simp)).trans hD9;have kF:=(K9.out.trans (Kp.setCell W9 (p:=⟨b+1+1,0,none⟩) (.bool false) (by simp)));obtain⟨WF,htk,kk⟩:=jj (P:=Tryz.prog) hD10;have oF:=(T9.aj kk (by rw[QE];omega)).at_ 0 _ rfl;refine⟨by simp,.inl ⟨_,_,rfl,htk,?_⟩⟩;refine⟨_,?_,?_,by rw[<-HRS.out]⟩
   .simp[results,Tryz.f114,go_sem,hok,oF]
   .have h3:=HB.out;exact(Kp.refl [] w).past (kF.past (kk.mono (T:=[b+8]) (by simp)) (fun x hx=>.inr (by rw[List.mem_singleton.1 hx];omega))) (fun x hx=>.inr (by simp only[Rh,RH,or_false] at hx;omega))
  | true=>
   rw[hok] at okF
   gi_wp2_with fail
   clear okF gF spF;have hS:(fun w':World=>w'.cell? ⟨b+1+1+1,0,none⟩=some u/\w'.cell? ⟨b,0,none⟩=some (.string (ba sp))/\w'.cell? ⟨b+1+1+1+1+1,0,none⟩=some (.int .i64 rs.done)) W9.drew:=⟨T3.out.at_ 0 _ rfl,T0.out.at_ 0 _ rfl,T5.out.at_ 0 _ rfl⟩;have T7d:=hid (ag T7.out (fun x hx=>(Kp.drew [] W9).block x (aA T7.out hx).2 (by simp)));have T2d:=hid (T2.out.aj (Kp.drew [] W9) (by simp));have T0d:=hid (T0.out.aj (Kp.drew [] W9) (by simp));have T3d:=hid (T3.out.aj (Kp.drew [] W9) (by simp));have T5d:=hid (T5.out.aj (Kp.drew [] W9) (by simp));have K9d:=hid (K9.out.trans (Kp.drew _ W9));have zd:b+10<=W9.drew.heap.size:=zk9;have hD9d:=((Kp.drew [] W9).block (b+8) (by omega) (by simp)).trans hD9;obtain⟨rest,hrest⟩:∃rest,rest=sp.drop rs.done:=⟨_,rfl⟩;have x1:(ba sp).extract rs.done sp.length=ba rest:=by rw[fu,hrest,Rq]
   have lr:rest.length<=4000:=by rw[hrest,QZ];omega
   have zs:=ay sp;have zr:=ay rest;have HRE:=hid hrest;clear hrest;obtain⟨i0,hi0,hz0,hz1,hz2⟩:=info_parts Tryz.infoByte;have HI:=hid (And.intro hi0 (And.intro hz0 (And.intro hz1 hz2)));clear hi0 hz0 hz1 hz2;have ulo:∀x,u.ownBlock=some x->b+10<=x:=fun x hx=>by have:=(aA T7.out hx).1;omega
   rename_i K2 hK2;have HK2:=hid hK2;clear hK2;refine wpIn_wide.2 ?_;refine wp_region_noPanic ?_;refine az (fun w':World=>w'.cell? ⟨b+1+1+1,0,none⟩=some u/\w'.cell? ⟨b,0,none⟩=some (.string (ba sp))/\w'.cell? ⟨b+1+1+1+1+1,0,none⟩=some (.int .i64 rs.done)) 7 (by kernel_rfl) ?_;generalize W9.drew=Wd at *;refine tk1 0 (v:=?_) rfl (by kernel_rfl) (fun _ _ _ h=>h) ⟨rfl,fun w hSw=>?_⟩ hS ?_;rotate_left;· ((try dsimp only at hSw);go_simp;(try with_reducible rfl))
   (try simp only[Qt,Qs,Qr,Act.put,Qq,Qu,Qv])
   refine tk1 1 (v:=?_) rfl (by kernel_rfl) (fun _ _ _ h=>h) ⟨rfl,fun w hSw=>?_⟩ hS ?_;rotate_left;· ((try dsimp only at hSw);go_simp;(try with_reducible rfl))
   (try simp only[Qt,Qs,Qr,Act.put,Qq,Qu,Qv])
   refine tk1 2 (v:=?_) rfl (by kernel_rfl) (fun _ _ _ h=>h) ⟨rfl,fun w hSw=>?_⟩ hS ?_;rotate_left;· ((try dsimp only at hSw);go_simp;(try with_reducible rfl))
   (try simp only[Qt,Qs,Qr,Act.put,Qq,Qu,Qv])
   refine tk1 3 (v:=?_) rfl (by kernel_rfl) (fun _ _ _ h=>h) ⟨rfl,fun w hSw=>?_⟩ hS ?_;rotate_left;· ((try dsimp only at hSw);go_simp;(try with_reducible rfl))
   (try simp only[Qt,Qs,Qr,Act.put,Qq,Qu,Qv])
   refine ai (i:=4) (by kernel_rfl) rfl (fun K hK=>?_);refine yn (by rfl) (.tmp 57) (.tmp 60) 49 9 (by rfl) W.heap.size 5 i0 Tryz.underlying49 Tryz.underlying9 HI.out.1 HI.out.2.1 HI.out.2.2.1 HI.out.2.2.2 u rs.acc.length (Lib.byteCells rs.acc) (by rfl) T7d.out (ba rest) (by rfl) (by rw[zr];omega) (by omega) ?_;intro v6 W10 ho6 hg6 hl6;rw[ay,eN] at ho6;have G6:=hid ((Cs.refl T7d.out (by omega)).more ho6 hg6 hl6);have nU:∀x,x<b+10->x∉u.ownBlock.toList:=fun x hx hm=>by have:=ulo x (by simpa using hm);omega
   have U0:=hid (T0d.out.aj G6.out.kp (nU _ (by omega)));have U2:=hid (T2d.out.aj G6.out.kp (nU _ (by omega)));have U3:=hid (T3d.out.aj G6.out.kp (nU _ (by omega)));have U5:=hid (T5d.out.aj G6.out.kp (nU _ (by omega)));have hD10:=(G6.out.kp.block (b+8) (by omega) (nU _ (by omega))).trans hD9d;have K10:=hid (K9d.out.past G6.out.kp (fun x hx=>.inr (by have:=ulo x (by simpa using hx);have:=HB.out;omega)));have z10:=G6.out.kp.size;have hS2:(fun w':World=>w'.cell? ⟨b+1+1+1,0,none⟩=some u/\w'.cell? ⟨b,0,none⟩=some (.string (ba sp))/\w'.cell? ⟨b+1+1+1+1+1,0,none⟩=some (.int .i64 rs.done)) W10:=⟨U3.out.at_ 0 _ rfl,U0.out.at_ 0 _ rfl,U5.out.at_ 0 _ rfl⟩;have hcv:=iC G6.out.row;clear ho6 hg6 hl6 hS;refine hK.out _ _ (.inr hS2) ?_;clear hK K;refine ai (i:=5) (by kernel_rfl) rfl (fun K hK=>?_);go_simp;refine hK.out _ _ (.inr hS2) ?_;clear hK K;have hS:=hS2;refine tk1 6 (v:=?_) rfl (by kernel_rfl) (fun _ _ _ h=>h) ⟨rfl,fun w hSw=>?_⟩ hS ?_;rotate_left;· ((try dsimp only at hSw);go_simp;(try with_reducible rfl))
   (try simp only[Qt,Qs,Qr,Act.put,Qq,Qu,Qv])
   refine ai (i:=7) (by kernel_rfl) rfl (fun K hK=>?_);have e2':=U2.out.at_ 0 _ rfl;have g2':=U2.out.free 0;go_simp;refine hK.out _ _ (.inl rfl) ?_;clear hK K e2' g2' hS hS2 hcv;refine ax (by kernel_rfl) ?_ _;refine NoPanic.normal ?_;refine HK2.out _ _ ?_;clear HK2 K2
   gi_wp2_with fail
   have T9:=U2.out.set 0 (.bool true) (by simp);have hD11:(W10.setCell ⟨b+1+1,0,none⟩ (.bool true)).heap[b+8]? = some (.deferred (some [])):=(Below.heap_setCell _ _ _ _ (by simp)).trans hD10;have kF:=(K10.out.trans (Kp.setCell W10 (p:=⟨b+1+1,0,none⟩) (.bool true) (by simp)));obtain⟨WF,htk,kk⟩:=jj (P:=Tryz.prog) hD11;have oF:=(T9.aj kk (by rw[QE];omega)).at_ 0 _ rfl;refine⟨by simp,.inl ⟨_,_,rfl,htk,?_⟩⟩;refine⟨_,?_,?_,by rw[<-HRS.out]⟩
   .simp[results,Tryz.f114,go_sem,hok,oF,HRE.out]
   .have h3:=HB.out;exact(Kp.refl [] w).past (kF.past (kk.mono (T:=[b+8]) (by simp)) (fun x hx=>.inr (by rw[List.mem_singleton.1 hx];omega))) (fun x hx=>.inr (by simp only[Rh,RH,or_false] at hx;omega))
 rcases e2 with e2|e2
 .rw[e2] at hre;exact⟨none,W9,hre,fin _ (by rw[htm];rfl)⟩
 .rw[e2] at hre;refine⟨some (.exit 0),W9,hre,?_⟩;show Code.wpIn _ _ _ _ _ _ _;refine wpIn_exit ?_;exact fin _ (by rw[htm];rfl)
end
