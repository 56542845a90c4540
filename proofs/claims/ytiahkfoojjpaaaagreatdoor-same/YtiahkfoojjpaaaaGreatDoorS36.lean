import Derived.Test.YtiahkfoojjpaaaaGreatDoorS35
set_option maxRecDepth 100000
set_option maxHeartbeats 16000000
set_option linter.all false
namespace Go.Proofs.YtiahkfoojjpaaaaGreatDoor
open Go.RowKit
theorem Ab{t:ByteArray}(ht:4000<t.size)(w:World):Calls Tryz.prog 115 #[.string t] w fun r w'=>r=iG 8 0/\w'=w:=by
 go_enter Tryz.func115,Tryz.ntmps115
 go_wp2_with fail;refine(oS 8 _).mono ?_;rintro r w2 ⟨rfl,rfl⟩;go_wp2_with fail;exact⟨rfl,rfl,rfl⟩
theorem uW{a b:List UInt8}(h:4000<(a++10::b).length)(ha:a.length<=4000)(hb:b.length<=4000)(w:World):Calls Tryz.prog 119 #[.string (ba a),.string (ba b)] w fun r w'=>r=iG 8 0/\w'=w:=by
 obtain⟨c,hc⟩:∃c,c=a++[10]:=⟨_,rfl⟩;obtain⟨d,hd⟩:∃d,d=c++b:=⟨_,rfl⟩;have e1:ba a++⟨#[10]⟩=ba c:=by rw[hc];exact tN a [10]
 have e2:ba c++ba b=ba d:=by rw[hd];exact tN c b
 have hl:(a++10::b).length=a.length+1+b.length:=by simp;omega
 rw[hl] at h;have za:=ay a;have zb:=ay b;have zc:(ba c).size=a.length+1:=by rw[ay,hc,Qy];rfl
 have zd:(ba d).size=a.length+1+b.length:=by rw[ay,hd,hc,Qy,Qy];rfl
 have o1:¬9223372036854775807<a.length+1:=by omega
 have o2:¬9223372036854775807<a.length+1+b.length:=by omega
 have HB:=hid (fun w=>Ab (t:=ba d) (by omega) w);clear hc hd h hl ha hb;go_enter Tryz.func119,Tryz.ntmps119
 go_wp2_with fail;refine(HB.out _).mono ?_;rintro r w1 ⟨rfl,rfl⟩;go_wp2_with fail;exact⟨rfl,rfl,rfl⟩
section
variable {w0 w w' w2:World}{mb sb db lo hi:Nat}{s s':Mst}{u:Ust}{σ:Sst}
theorem BB{cp:Value}(h:Mac w0 w mb sb db s)(hp:s.p=u.p)(hu:UOk u):Calls Tryz.prog 68 #[.pointer (some ⟨mb,0,none⟩),cp] w (dJ w0 mb sb db w s (Ust.lu u.space u.held (fun t=>{ u with space:=t}) u)):=by
 have c9:=h.b.at_ 9 _ rfl;have c10:=h.b.at_ 10 _ rfl;have f9:=h.b.free 9;have e9:s.space=ba u.space:=congrArg Pst.space hp;have e10:s.held=ba u.held:=congrArg Pst.held hp;rw[e9] at c9;rw[e10] at c10;have l9:=hu.sp;have l10:=hu.hd;unfold Ust.lu;have hlen:(u.space++10::u.held).length=u.space.length+1+u.held.length:=by simp;omega
 by_cases hb:4000<(u.space++10::u.held).length
 .rw[QB hb];have H:=hid (fun w=>uW hb (by omega) (by omega) w);have G:Hid (di w0 mb sb db w s w.drew u.p):=hid (((di.refl h).aj (Kp.drew [] w)).oE hp);clear h hlen hb l9 l10;go_enter Tryz.func68,Tryz.ntmps68
  go_region_dies
  all_goals
   refine(H.out _).mono ?_;rintro r w1 ⟨rfl,rfl⟩;exact⟨rfl,rfl,G.out⟩
 .rw[Qw hb];have H:=hid (fun w=>oO (a:=u.space) (b:=u.held) (by omega) w);have m1:=h.aj (Kp.drew [] w);have m2:=m1.set (s':={ s with space:=ba (u.space++10::u.held)}) 9 (.string (ba (u.space++10::u.held))) (by omega) rfl rfl;have gr:Gr mb db w s.r (w.drew.setCell ⟨mb,9,none⟩ (.string (ba (u.space++10::u.held)))) s.r:=(Gr.dj (Kp.drew [] w) (fun _ e=>by cases e)).trans (Gr.set _ _ _ _)
  have G2:Hid (di w0 mb sb db w s (w.drew.setCell ⟨mb,9,none⟩ (.string (ba (u.space++10::u.held)))) ({ u with space:=u.space++10::u.held}:Ust).p):=hid ⟨_,(by
   show({ s.p with space:=ba (u.space++10::u.held)}:Pst)=_;rw[hp]
   rfl),m2,gr⟩
  clear m1 m2 gr h hlen hb l9 l10;go_enter Tryz.func68,Tryz.ntmps68
  go_region_with (go_at_call 119;refine(H.out _).mono ?_;rintro r w1 ⟨rfl,rfl⟩)
  all_goals
   go_wp2_with fail;go_end0;exact⟨rfl,G2.out⟩
theorem zg{cp:Value}(h:Mac w0 w mb sb db s)(hp:s.p=u.p)(hu:UOk u):Calls Tryz.prog 70 #[.pointer (some ⟨mb,0,none⟩),cp] w (dJ w0 mb sb db w s (Ust.lu u.held u.space (fun t=>{ u with held:=t}) u)):=by
 have c9:=h.b.at_ 9 _ rfl;have c10:=h.b.at_ 10 _ rfl;have f10:=h.b.free 10;have e9:s.space=ba u.space:=congrArg Pst.space hp;have e10:s.held=ba u.held:=congrArg Pst.held hp;rw[e9] at c9;rw[e10] at c10;have l9:=hu.sp;have l10:=hu.hd;unfold Ust.lu;have hlen:(u.held++10::u.space).length=u.held.length+1+u.space.length:=by simp;omega
 by_cases hb:4000<(u.held++10::u.space).length
 .rw[QB hb];have H:=hid (fun w=>uW hb (by omega) (by omega) w);have G:Hid (di w0 mb sb db w s w.drew u.p):=hid (((di.refl h).aj (Kp.drew [] w)).oE hp);clear h hlen hb l9 l10;go_enter Tryz.func70,Tryz.ntmps70
  go_region_dies
  all_goals
   refine(H.out _).mono ?_;rintro r w1 ⟨rfl,rfl⟩;exact⟨rfl,rfl,G.out⟩
 .rw[Qw hb];have H:=hid (fun w=>oO (a:=u.held) (b:=u.space) (by omega) w);have m1:=h.aj (Kp.drew [] w);have m2:=m1.set (s':={ s with held:=ba (u.held++10::u.space)}) 10 (.string (ba (u.held++10::u.space))) (by omega) rfl rfl;have gr:Gr mb db w s.r (w.drew.setCell ⟨mb,10,none⟩ (.string (ba (u.held++10::u.space)))) s.r:=(Gr.dj (Kp.drew [] w) (fun _ e=>by cases e)).trans (Gr.set _ _ _ _)
  have G2:Hid (di w0 mb sb db w s (w.drew.setCell ⟨mb,10,none⟩ (.string (ba (u.held++10::u.space)))) ({ u with held:=u.held++10::u.space}:Ust).p):=hid ⟨_,(by
   show({ s.p with held:=ba (u.held++10::u.space)}:Pst)=_;rw[hp]
   rfl),m2,gr⟩
  clear m1 m2 gr h hlen hb l9 l10;go_enter Tryz.func70,Tryz.ntmps70
  go_region_with (go_at_call 119;refine(H.out _).mono ?_;rintro r w1 ⟨rfl,rfl⟩)
  all_goals
   go_wp2_with fail;go_end0;exact⟨rfl,G2.out⟩
theorem Gg{L:List UInt8}(h:Mac w0 w mb sb db s)(hp:s.p=u.p)(hu:UOk u)(hL:L.length<=1000):Calls Tryz.prog 124 #[.pointer (some ⟨mb,0,none⟩),.string (ba L)] w (dJ w0 mb sb db w s (Ust.lu u.space L (fun t=>{ u with space:=t}) u)):=by
 have c9:=h.b.at_ 9 _ rfl;have f9:=h.b.free 9;have e9:s.space=ba u.space:=congrArg Pst.space hp;rw[e9] at c9;have l9:=hu.sp;unfold Ust.lu;have hlen:(u.space++10::L).length=u.space.length+1+L.length:=by simp;omega
 by_cases hb:4000<(u.space++10::L).length
 .rw[QB hb];have H:=hid (uW hb (by omega) (by omega) w);have G:Hid (di w0 mb sb db w s w u.p):=hid ((di.refl h).oE hp);clear h hlen hb l9;go_enter Tryz.func124,Tryz.ntmps124
  go_wp2_with fail;refine H.out.mono ?_;rintro r w1 ⟨rfl,rfl⟩;go_wp2_with fail;exact⟨rfl,rfl,G.out⟩
 .rw[Qw hb];refine(rh (a:=u.space) (b:=L) h e9 (by omega)).mono ?_;rintro r w1 ⟨rfl,g⟩;refine⟨rfl,g.oE ?_⟩;show({ s.p with space:=ba (u.space++10::L)}:Pst)=_;rw[hp]
  rfl
theorem goOn_t{L:List UInt8}(h:Mac w0 w mb sb db s)(hp:s.p=u.p):Calls Tryz.prog 123 #[.pointer (some ⟨mb,0,none⟩),.string (ba L)] w (dJ w0 mb sb db w s (.ok { u with space:=L})):=by
 have c9:=h.b.at_ 9 _ rfl;have f9:=h.b.free 9
 have G:=hid (dJ.set (e:=.returned (.tuple #[])) (u2:={ u with space:=L}) (s':={ s with space:=ba L}) h 9 (.string (ba L)) (by omega) rfl rfl rfl (by
  show({ s.p with space:=ba L}:Pst)=_;rw[hp]
  rfl))
 clear h;go_enter Tryz.func123,Tryz.ntmps123
 go_wp2_with fail;go_end0;exact G.out
theorem Cc{L:List UInt8}(h:Mac w0 w mb sb db s)(hp:s.p=u.p):Calls Tryz.prog 41 #[.pointer (some ⟨mb,0,none⟩),.string (ba L)] w (dJ w0 mb sb db w s (.ok ({ u with steps:=0}.tM L))):=by
 refine(Cb h).mono ?_;rintro r w1 ⟨rfl,g⟩;refine⟨rfl,g.oE ?_⟩;rw[hp]
 rfl
theorem begin_t{L:List UInt8}(h:Mac w0 w mb sb db s)(hp:s.p=u.p):Calls Tryz.prog 80 #[.pointer (some ⟨mb,0,none⟩),.string (ba L)] w (dJ w0 mb sb db w s (.ok (u.tM L))):=by
 refine(Lk h).mono ?_;rintro r w1 ⟨rfl,g⟩;refine⟨rfl,g.oE ?_⟩;rw[hp]
 rfl
def SupO(w0:World)(mb sb db:Nat)(w:World)(s:Mst)(u:Ust)(R:Except (Nat×Ust) (Option Ust))(e:Ending)(w':World):Prop:=
 match R with
 | .error (E,u1)=>e=iG E 0/\di w0 mb sb db w s w' u1.p
 | .ok none=>e=.returned (.bool false)/\di w0 mb sb db w s w' u.p
 | .ok (some u1)=>e=.returned (.bool true)/\di w0 mb sb db w s w' u1.p
def ue(u:Ust):Ust:={ u with left:=(eJ u.left).2.getD [],number:=u.number+1,aR:=.no}
def Ey:RU->Except (Nat×Ust) (Option Ust)
 | .error e=>.error e
 | .ok u=>.ok (some u)
theorem lX{R:RU}{f:Nat}(hen:Enters f)(h:Mac w0 w mb sb db s)(hp:s.p=u.p)(hu:UOk u)(hw:u.aR.v=.func (.func f) #[] #[])(ht:u.there=true->(eJ u.left).1.length<=1000->∀(w1:World) (s1:Mst),Mac w0 w1 mb sb db s1->s1.p=(ue u).p->Calls Tryz.prog f #[.pointer (some ⟨mb,0,none⟩),.string (ba (eJ u.left).1)] w1 (dJ w0 mb sb db w1 s1 R)):Calls Tryz.prog 82 #[.pointer (some ⟨mb,0,none⟩)] w (SupO w0 mb sb db w s u (if 1000<(eJ u.left).1.length then .error (9,u) else if u.there then Ey R else .ok none)):=by
 have c12:=h.b.at_ 12 _ rfl;have hwv:s.aR=.func (.func f) #[] #[]:=(congrArg Pst.aR hp).trans hw;rw[hwv] at c12;have HX:=hid (next_t h hp hu);have HT:=hid ht;have hnum:u.number<=281474976710656:=by have:=hu.lf;omega
 have HP:=hid hp;clear ht h hp hu;have hbo:∀w,(binOp BinOp.eql 103 (.func (.func f) #[] #[]) .nilFunc).run Tryz.prog w=.ok (.bool false) w:=fun _=>rfl;unfold Enters at hen;obtain⟨L,hL⟩:∃L,L=(eJ u.left).1:=⟨_,rfl⟩;obtain⟨K,hK⟩:∃K,K=(if 1000<(eJ u.left).1.length then .error (9,u) else if u.there then Ey R else .ok none:Except (Nat×Ust) (Option Ust)):=⟨_,rfl⟩;rw[<-hK];have HKK:=hid hK;clear hK;go_enter Tryz.func82,Tryz.ntmps82
 go_wp2_with fail;refine HX.out.mono ?_;intro r w1 hr;unfold Ha at hr;by_cases h1000:1000<(eJ u.left).1.length
 .rw[QB h1000] at hr;obtain⟨rfl,g1⟩:=hr;have H1000:=hid h1000;clear h1000;go_wp2_with fail;refine⟨rfl,?_⟩;rw[HKK.out,QB H1000.out];exact⟨rfl,g1⟩
 .rw[Qw h1000] at hr;have H1000:=hid h1000;clear h1000
  cases hth:u.there
  .rw[hth,Qw (by simp)] at hr;obtain⟨rfl,g1⟩:=hr;have HTH:=hid hth;clear hth;go_wp2_with fail;go_ret;rw[HKK.out,Qw H1000.out,HTH.out,Qw (by simp)];exact⟨rfl,g1⟩
  .rw[hth,QB rfl] at hr;obtain⟨rfl,s1,e1,m1,g1⟩:=hr;have HTH:=hid hth;clear hth;rw[<-hL] at HT ⊢;have d8:=m1.b.at_ 8 _ rfl;have f8:=m1.b.free 8;have d12:=m1.b.at_ 12 _ rfl;have f12:=m1.b.free 12;have hw1:s1.aR=.func (.func f) #[] #[]:=(congrArg Pst.aR e1).trans hw;have hn1:s1.number=u.number:=congrArg Pst.number e1;rw[hw1] at d12;obtain⟨n1,hn1'⟩:∃n1:Nat,n1=s1.number+1:=⟨_,rfl⟩;have wr:=aQ s1.number n1 hn1' (by omega);have m2:=m1.set (s':={ s1 with number:=n1}) 8 (.int .i64 (n1:Int)) (by omega) rfl rfl;have m3:=m2.set (s':={ s1 with number:=n1,aR:=.nilFunc}) 12 .nilFunc (by omega) rfl rfl;have M3:=hid m3;have hst:=gR (P:=Tryz.prog) (w:=w1.setCell ⟨mb,8,none⟩ (.int .i64 (n1:Int))) (v:=.nilFunc) (m2.b.at_ 12 _ rfl) (m2.b.free 12) rfl
   have P3:Hid (({ s1 with number:=n1,aR:=.nilFunc}:Mst).p=(ue u).p):=hid (by
    show({ s1.p with number:=n1,aR:=.nilFunc}:Pst)=_;rw[e1,hn1',hn1]
    rfl)
   have HTT:=hid (HT.out HTH.out (by rw[hL];have:=H1000.out;omega) _ _ M3.out P3.out);have G13:Hid (Gr mb db w s.r ((w1.setCell ⟨mb,8,none⟩ (.int .i64 (n1:Int))).setCell ⟨mb,12,none⟩ .nilFunc) s1.r):=hid (g1.trans ((Gr.set _ _ _ _).trans (Gr.set _ _ _ _)));clear hn1 hn1' m2 m3 HT g1 e1 hL;have KK:Hid (K=Ey R):=hid (by rw[HKK.out,Qw H1000.out,HTH.out,QB rfl]);go_wp2_with fail;refine HTT.out.mono ?_;intro r w2 hr
   cases R with
   | error q=>
    obtain⟨E,u2⟩:=q;obtain⟨rfl,s2,e2,m2,g2⟩:=hr;go_wp2_with fail;refine⟨rfl,?_⟩;rw[KK.out];exact⟨rfl,s2,e2,m2,G13.out.trans g2⟩
   | ok u2=>
    obtain⟨rfl,s2,e2,m2,g2⟩:=hr;go_wp2_with fail;go_ret;rw[KK.out];exact⟨rfl,s2,e2,m2,G13.out.trans g2⟩
theorem UOk.ue(h:UOk u)(ht:u.there=true):UOk (ue u):=by
 refine⟨h.sp,h.hd,h.ct,h.ot,h.fb,h.bt,h.bl,?_⟩;have h1:=oT u.left;have h2:=h.lf;show((eJ u.left).2.getD []).length+(u.number+1)<=_;have h3:((eJ u.left).2.getD []).length<u.left.length:=by
  cases hc:(eJ u.left).2 with
  | some R=>
   have:=congrArg List.length (jb hc).1;simp at this;simp;omega
  | none=>
   simp only[Option.getD_none,Rk];unfold Ust.there at ht;rw[hc] at ht
   cases hl:u.left with
   | nil=>rw[hl] at ht;simp at ht
   | cons a l=>simp
 omega
theorem Et(h:Mac w0 w mb sb db s)(hp:s.p=u.p)(hu:UOk u):Calls Tryz.prog 82 #[.pointer (some ⟨mb,0,none⟩)] w (SupO w0 mb sb db w s u u.dt):=by
 cases hw:u.aR with
 | no=>
  have e:u.dt=.ok (some u):=by unfold Ust.dt;rw[hw]
  rw[e];refine(Az h ((congrArg Pst.aR hp).trans (by show u.aR.v=_;rw[hw];rfl))).mono ?_;rintro r w1 ⟨rfl,g⟩;exact⟨rfl,g.oE hp⟩
 | bw=>
  have e:u.dt=(if 1000<(eJ u.left).1.length then .error (9,u) else if u.there then Ey (.ok ({ ue u with steps:=0}.tM (eJ u.left).1)) else .ok none):=by unfold Ust.dt;rw[hw];rfl
  rw[e];exact lX (f:=41) (fun _ _ _=>by kernel_rfl) h hp hu (by rw[hw];rfl) (fun _ _ w1 s1 m1 e1=>Cc m1 e1)
 | gw=>
  have e:u.dt=(if 1000<(eJ u.left).1.length then .error (9,u) else if u.there then Ey (.ok { ue u with space:=(eJ u.left).1}) else .ok none):=by unfold Ust.dt;rw[hw];rfl
  rw[e];exact lX (f:=123) (fun _ _ _=>by kernel_rfl) h hp hu (by rw[hw];rfl) (fun _ _ w1 s1 m1 e1=>goOn_t m1 e1)
 | gm=>
  have e:u.dt=(if 1000<(eJ u.left).1.length then .error (9,u) else if u.there then Ey (Ust.lu (ue u).space (eJ u.left).1 (fun t=>{ ue u with space:=t}) (ue u)) else .ok none):=by
   unfold Ust.dt;rw[hw]
   show(if 1000<(eJ u.left).1.length then .error (9,u) else if u.there then (match Ust.lu (ue u).space (eJ u.left).1 (fun t=>{ ue u with space:=t}) (ue u) with
    | .error e=>.error e
    | .ok u2=>.ok (some u2)) else .ok none:Except (Nat×Ust) (Option Ust))=_
   cases Ust.lu (ue u).space (eJ u.left).1 (fun t=>{ ue u with space:=t}) (ue u)<;>rfl
  rw[e];exact lX (f:=124) (fun _ _ _=>by kernel_rfl) h hp hu (by rw[hw];rfl) (fun hth h1 w1 s1 m1 e1=>Gg m1 e1 (hu.ue hth) h1)
end
def Pow(w : World):Prop := Lib.TabIs Tryz.prog w "internal/strconv.uint64pow10" .u64 Lib.pow10Tab
theorem Pow.aj{w w':World}(h:Pow w)(k:Kp [] w w'):Pow w':=by
 unfold Pow Lib.TabIs World.var? at h ⊢
 cases hg : Tryz.prog.globalNamed "internal/strconv.uint64pow10" with
 | none=>rw[hg] at h;cases h
 | some g=>
  rw[hg] at h;simp only[Option.bind_some] at h ⊢
  cases ho:w.heap[g]? with
  | none=>rw[ho] at h;cases h
  | some o=>
   rw[k.block g (aN ho) (by simp)];exact h
theorem gi(w:World)(k:Nat)(os:Array Obj):Kp [] w (Sort.grow (w.drewN k) os):=by
 have k1:=Kp.drewN [] w k;refine⟨k1.os,k1.tape,k1.output,by show w.heap.size<=((w.drewN k).heap++os).size;rw[Array.size_append];have:=k1.size;omega,fun j hj _=>?_⟩;show((w.drewN k).heap++os)[j]? = _;rw[Array.getElem?_append_left (by have:=k1.size;omega)];exact k1.block j hj (by simp)
theorem ji:∀(n u:Nat),u<10^(n+1)->(Lib.decDigits u).length<=n+1
 | 0,u,h=>by
  rw[Lib.decDigits,dif_pos (by omega)];simp
 | n+1,u,h=>by
  rw[Lib.decDigits];split
  .simp
  .have:=ji n (u/10) (by rw[Nat.pow_succ] at h;omega);simp;omega
section
variable {w0 w w' w2:World}{mb sb db lo hi:Nat}{s s':Mst}{u:Ust}{σ:Sst}{ca co:Nat}{cv:List Value}
theorem yF{cp:Value}(h:Mac w0 w mb sb db s)(hp:s.p=u.p)(hu:UOk u):Calls Tryz.prog 75 #[.pointer (some ⟨mb,0,none⟩),cp] w (dJ w0 mb sb db w s (u.tell (eJ u.space).1)):=by
 have c9:=h.b.at_ 9 _ rfl;have e9:s.space=ba u.space:=congrArg Pst.space hp;rw[e9] at c9;have l9:=hu.sp;have hcl:=oT u.space;have CT:=hid (cut_t (l:=u.space) w (by omega));have HT:Hid (∀w1,Kp [] w w1->Calls Tryz.prog 112 #[.pointer (some ⟨mb,5,none⟩),.string (ba (eJ u.space).1)] w1 (dJ w0 mb sb db w1 s (u.tell (eJ u.space).1))):=hid (fun w1 k1=>js (h.aj k1) hp hu (by omega));obtain⟨R,hR⟩:∃R,R=u.tell (eJ u.space).1:=⟨_,rfl⟩;rw[<-hR] at HT ⊢;clear hR h hp hu;go_enter Tryz.func75,Tryz.ntmps75
 go_wp2_with fail;refine CT.out.mono ?_;rintro r w1 ⟨rfl,k1⟩;have K1:=hid k1;clear k1;go_wp2_with fail;refine(HT.out w1 K1.out).mono ?_;intro r w2 hr;replace hr:=dJ.pre K1.out hr
 cases R with
 | error q=>
  obtain⟨E,u1⟩:=q;obtain⟨rfl,g1⟩:=hr;go_wp2_with fail;exact⟨rfl,rfl,g1⟩
 | ok u1=>
  obtain⟨rfl,g1⟩:=hr;go_wp2_with fail;go_end0;exact⟨rfl,g1⟩
theorem BQ{cp:Value}(h:Mac w0 w mb sb db s)(hp:s.p=u.p)(hu:UOk u) :
  Calls Tryz.prog 66 #[.pointer (some ⟨mb,0,none⟩),cp] w (dJ w0 mb sb db w s (match (eJ u.space).2 with
   | none=>u.aO
   | some rest=>match u.brought with
    | .error e=>.error e
    | .ok u1=>.ok (u1.tM rest))):=by
 have c9:=h.b.at_ 9 _ rfl;have e9:s.space=ba u.space:=congrArg Pst.space hp;rw[e9] at c9;have l9:=hu.sp;have CT:=cut_t (l:=u.space) w (by omega)
 cases hc:(eJ u.space).2 with
 | none=>
  rw[hc] at CT;have HC:=hid CT;have HT:Hid (∀w1,Kp [] w w1->Calls Tryz.prog 113 #[.pointer (some ⟨mb,0,none⟩)] w1 (dJ w0 mb sb db w1 s u.aO)):=hid (fun w1 k1=>fq (h.aj k1) hp hu);obtain⟨R,hR⟩:∃R,R=u.aO:=⟨_,rfl⟩;dsimp only;rw[<-hR] at HT ⊢;clear hR h hp hu CT hc;go_enter Tryz.func66,Tryz.ntmps66
  go_wp2_with fail;refine HC.out.mono ?_;rintro r w1 ⟨rfl,k1⟩;have K1:=hid k1;clear k1;go_wp2_with fail;refine(HT.out w1 K1.out).mono ?_;intro r w2 hr;replace hr:=dJ.pre K1.out hr
  cases R with
  | error q=>
   obtain⟨E,u1⟩:=q;obtain⟨rfl,g1⟩:=hr;go_wp2_with fail;exact⟨rfl,rfl,g1⟩
  | ok u1=>
   obtain⟨rfl,g1⟩:=hr;go_wp2_with fail;refine bodyPost_ret (results_none rfl _ _ _) rfl ?_;exact⟨rfl,g1⟩
 | some rest=>
  rw[hc] at CT;have HC:=hid CT;have HT:Hid (∀w1,Kp [] w w1->Calls Tryz.prog 118 #[.pointer (some ⟨mb,0,none⟩)] w1 (dJ w0 mb sb db w1 s u.brought)):=hid (fun w1 k1=>eU (h.aj k1) hp hu);obtain⟨R,hR⟩:∃R,R=u.brought:=⟨_,rfl⟩;dsimp only;rw[<-hR] at HT ⊢;clear hR h hp hu CT hc;go_enter Tryz.func66,Tryz.ntmps66
  go_wp2_with fail;refine HC.out.mono ?_;rintro r w1 ⟨rfl,k1⟩;have K1:=hid k1;clear k1;go_wp2_with fail;refine(HT.out w1 K1.out).mono ?_;intro r w2 hr;replace hr:=dJ.pre K1.out hr
  cases R with
  | error q=>
   obtain⟨E,u1⟩:=q;obtain⟨rfl,g1⟩:=hr;go_wp2_with fail;exact⟨rfl,rfl,g1⟩
  | ok u1=>
   obtain⟨rfl,s1,e1,m1,gr1⟩:=hr;have M1:=hid m1;clear m1;go_wp2_with fail;refine(begin_t M1.out e1).mono ?_;rintro r w3 ⟨rfl,s3,e3,m3,gr3⟩;go_wp2_with fail;go_end0;exact⟨rfl,s3,e3,m3,gr1.trans gr3⟩
theorem Bf(hp:s.p=u.p):s.p.none=u.none_:=by
 rw[hp];show(u.ended&&((ba u.left).toList==[]))=_;rw[xD]
 rfl
theorem Fu{cp:Value}(h:Mac w0 w mb sb db s)(hs:Scr lo hi w0 sb 0 σ)(hp:s.p=u.p)(hu:UOk u) :
  Calls Tryz.prog 72 #[.pointer (some ⟨mb,0,none⟩),cp] w (dJ w0 mb sb db w s (if u.none_ then u.ic σ.quiet 0 else match u.fj σ.quiet with
   | .error e=>.error e
   | .ok u1=>.ok { u1 with aR:=.gw})):=by
 have NV:=Jw h (Bf hp)
 cases hn:u.none_
 .rw[hn] at NV;have HN:=hid NV;rw[Qw (by simp)];have TE:=yd h hs hp hu;obtain⟨R,hR⟩:∃R,R=u.fj σ.quiet:=⟨_,rfl⟩;rw[<-hR] at TE ⊢;have HT:=hid TE;clear TE hR NV h hs hp hu hn;go_enter Tryz.func72,Tryz.ntmps72
  go_wp2_with fail;refine HN.out.mono ?_;rintro r w1 ⟨rfl,rfl⟩;go_wp2_with fail;refine HT.out.mono ?_;intro r w2 hr
  cases R with
  | error q=>
   obtain⟨E,u1⟩:=q;obtain⟨rfl,g1⟩:=hr;go_wp2_with fail;exact⟨rfl,rfl,g1⟩
  | ok u1=>
   obtain⟨rfl,s1,e1,m1,gr1⟩:=hr;have c12:=m1.b.at_ 12 _ rfl;have f12:=m1.b.free 12;have hst:=gR (P:=Tryz.prog) (v:=gwV) c12 f12 rfl;go_wp2_with fail;go_end0;refine⟨rfl,{ s1 with aR:=gwV},?_,m1.set 12 gwV (by omega) rfl rfl,gr1.trans (Gr.set _ _ _ _)⟩;show({ s1.p with aR:=gwV}:Pst)=_;rw[e1]
   rfl
 .rw[hn] at NV;have HN:=hid NV;rw[QB rfl];have TE:=xk (st:=0) h hs hp hu;obtain⟨R,hR⟩:∃R,R=u.ic σ.quiet 0:=⟨_,rfl⟩;rw[<-hR] at TE ⊢;have HT:=hid TE;clear TE hR NV h hs hp hu hn;go_enter Tryz.func72,Tryz.ntmps72
  go_wp2_with fail;refine HN.out.mono ?_;rintro r w1 ⟨rfl,rfl⟩;go_wp2_with fail;refine HT.out.mono ?_;intro r w2 hr
  cases R with
  | error q=>
   obtain⟨E,u1⟩:=q;obtain⟨rfl,g1⟩:=hr;go_wp2_with fail;exact⟨rfl,rfl,g1⟩
  | ok u1=>
   obtain⟨rfl,g1⟩:=hr;go_wp2_with fail;refine bodyPost_ret (results_none rfl _ _ _) rfl ?_;exact⟨rfl,g1⟩
theorem yL{cp:Value}(h:Mac w0 w mb sb db s)(hs:Scr lo hi w0 sb 0 σ)(hp:s.p=u.p)(hu:UOk u) :
  Calls Tryz.prog 73 #[.pointer (some ⟨mb,0,none⟩),cp] w (dJ w0 mb sb db w s (if u.none_ then u.ic σ.quiet 0 else match u.brought with
   | .error e=>.error e
   | .ok u1=>.ok { u1 with aR:=.gm})):=by
 have NV:=Jw h (Bf hp)
 cases hn:u.none_
 .rw[hn] at NV;have HN:=hid NV;rw[Qw (by simp)];have TE:=eU h hp hu;obtain⟨R,hR⟩:∃R,R=u.brought:=⟨_,rfl⟩;rw[<-hR] at TE ⊢;have HT:=hid TE;clear TE hR NV h hs hp hu hn;go_enter Tryz.func73,Tryz.ntmps73
  go_wp2_with fail;refine HN.out.mono ?_;rintro r w1 ⟨rfl,rfl⟩;go_wp2_with fail;refine HT.out.mono ?_;intro r w2 hr
  cases R with
  | error q=>
   obtain⟨E,u1⟩:=q;obtain⟨rfl,g1⟩:=hr;go_wp2_with fail;exact⟨rfl,rfl,g1⟩
  | ok u1=>
   obtain⟨rfl,s1,e1,m1,gr1⟩:=hr;have c12:=m1.b.at_ 12 _ rfl;have f12:=m1.b.free 12;have hst:=gR (P:=Tryz.prog) (v:=gmV) c12 f12 rfl;go_wp2_with fail;go_end0;refine⟨rfl,{ s1 with aR:=gmV},?_,m1.set 12 gmV (by omega) rfl rfl,gr1.trans (Gr.set _ _ _ _)⟩;show({ s1.p with aR:=gmV}:Pst)=_;rw[e1]
   rfl
 .rw[hn] at NV;have HN:=hid NV;rw[QB rfl];have TE:=xk (st:=0) h hs hp hu;obtain⟨R,hR⟩:∃R,R=u.ic σ.quiet 0:=⟨_,rfl⟩;rw[<-hR] at TE ⊢;have HT:=hid TE;clear TE hR NV h hs hp hu hn;go_enter Tryz.func73,Tryz.ntmps73
  go_wp2_with fail;refine HN.out.mono ?_;rintro r w1 ⟨rfl,rfl⟩;go_wp2_with fail;refine HT.out.mono ?_;intro r w2 hr
  cases R with
  | error q=>
   obtain⟨E,u1⟩:=q;obtain⟨rfl,g1⟩:=hr;go_wp2_with fail;exact⟨rfl,rfl,g1⟩
  | ok u1=>
   obtain⟨rfl,g1⟩:=hr;go_wp2_with fail;refine bodyPost_ret (results_none rfl _ _ _) rfl ?_;exact⟨rfl,g1⟩
theorem yc{cp:Value}(h:Mac w0 w mb sb db s)(hw0:Pow w0)(hp:s.p=u.p)(hu:UOk u):Calls Tryz.prog 77 #[.pointer (some ⟨mb,0,none⟩),cp] w (dJ w0 mb sb db w s (u.tell (Lib.decDigits u.number))):=by
 have c8:=h.b.at_ 8 _ rfl;have e8:s.number=u.number:=congrArg Pst.number hp;rw[e8] at c8;have hlf:=hu.lf;have hln:=ji 15 u.number (by omega);have HT:Hid (∀w1,Kp [] w w1->Calls Tryz.prog 112 #[.pointer (some ⟨mb,5,none⟩),.string (ba (Lib.decDigits u.number))] w1 (dJ w0 mb sb db w1 s (u.tell (Lib.decDigits u.number)))):=hid (fun w1 k1=>js (h.aj k1) hp hu (by omega));have HI:=JN (u.number:Int) (by omega) (by omega) w.drew ((hw0.aj h.r.kp).aj (Kp.drew [] w));rw[Lib.itoa_nonneg] at HI;have HI:=hid HI;obtain⟨R,hR⟩:∃R,R=u.tell (Lib.decDigits u.number):=⟨_,rfl⟩;rw[<-hR] at HT ⊢;clear hR h hp hu hw0
 cases R with
 | error q=>
  obtain⟨E,u1⟩:=q;go_enter Tryz.func77,Tryz.ntmps77
  go_wp2_with fail;go_region_dies
  rename_i K hK;refine HI.out.mono ?_;rintro r w1 ⟨rfl,kk,os,hw⟩;have K1:Hid (Kp [] w w1):=hid (by rw[hw];exact(Kp.drew [] w).trans (gi _ _ _));clear hw;refine hK _ _ ?_;clear hK K;refine wpAny_ready (rs:=[8]) (by kernel_rfl) (by simp) ?_;refine AllReady.cons rfl (fun K hK=>?_) AllReady.nil;go_simp;refine(HT.out _ K1.out).mono ?_;rintro r w2 ⟨rfl,g1⟩;exact⟨rfl,rfl,g1.pre K1.out⟩
 | ok u1=>
  go_enter Tryz.func77,Tryz.ntmps77
  go_wp2_with fail;go_region_with (first|(go_at_call 112;refine(HT.out _ K1.out).mono ?_;rintro r w2 ⟨rfl,g1⟩)|(go_at_call 108;refine HI.out.mono ?_;rintro r w1 ⟨rfl,kk,os,hw⟩;have K1:Hid (Kp [] w w1):=hid (by rw[hw];exact(Kp.drew [] w).trans (gi _ _ _));clear hw))
  go_wp2_with fail;go_end0;exact⟨rfl,g1.pre K1.out⟩
end
