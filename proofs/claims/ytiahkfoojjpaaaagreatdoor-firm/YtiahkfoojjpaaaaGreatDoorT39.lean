import Derived.Test.YtiahkfoojjpaaaaGreatDoorT38
set_option maxRecDepth 100000
set_option maxHeartbeats 16000000
set_option linter.all false
namespace Go.Proofs.YtiahkfoojjpaaaaGreatDoor
open Go.RowKit
theorem xZ {t:ByteArray} (ht:4000 < t.size) (w:World):Calls Tryz.prog 115 #[.string t] w fun r w'=>r=gN 8 0/\w'=w:=by
 go_enter Tryz.func115,Tryz.ntmps115
 go_wp2_with fail;refine (ni 8 _).mono ?_;rintro r w2 ⟨rfl,rfl⟩;go_wp2_with fail;exact ⟨rfl,rfl,rfl⟩
theorem tp {a b:List UInt8} (h:4000 < (a++10::b).length) (ha:a.length<=4000) (hb:b.length<=4000) (w:World):Calls Tryz.prog 119 #[.string (ba a),.string (ba b)] w fun r w'=>r=gN 8 0/\w'=w:=by
 obtain ⟨c,hc⟩:∃ c,c=a++[10]:=⟨_,rfl⟩;obtain ⟨d,hd⟩:∃ d,d=c++b:=⟨_,rfl⟩;have e1:ba a++⟨#[10]⟩=ba c:=by rw [hc];exact jG a [10]
 have e2:ba c++ba b=ba d:=by rw [hd];exact jG c b
 have hl:(a++10::b).length=a.length+1+b.length:=by simp;omega
 rw [hl] at h;have za:=ax a;have zb:=ax b;have zc:(ba c).size=a.length+1:=by rw [ax,hc,Nu];rfl
 have zd:(ba d).size=a.length+1+b.length:=by rw [ax,hd,hc,Nu,Nu];rfl
 have o1:¬ 9223372036854775807 < a.length+1:=by omega
 have o2:¬ 9223372036854775807 < a.length+1+b.length:=by omega
 have HB:=hid (fun w=>xZ (t:=ba d) (by omega) w);clear hc hd h hl ha hb;go_enter Tryz.func119,Tryz.ntmps119
 go_wp2_with fail;refine (HB.out _).mono ?_;rintro r w1 ⟨rfl,rfl⟩;go_wp2_with fail;exact ⟨rfl,rfl,rfl⟩
section
variable {w0 w w' w2:World} {mb sb db lo hi:Nat} {s s':Mst} {u:Ust} {σ:Sst}
theorem zF {cp:Value} (h:Mac w0 w mb sb db s) (hp:s.p=u.p) (hu:UOk u) :
  Calls Tryz.prog 68 #[.pointer (some ⟨mb,0,none⟩),cp] w (dB w0 mb sb db w s (Ust.gM u.space u.held (fun t=>{ u with space:=t }) u)):=by
 have c9:=h.b.at_ 9 _ rfl;have c10:=h.b.at_ 10 _ rfl;have f9:=h.b.free 9;have e9:s.space=ba u.space:=congrArg Pst.space hp;have e10:s.held=ba u.held:=congrArg Pst.held hp;rw [e9] at c9;rw [e10] at c10;have l9:=hu.sp;have l10:=hu.hd;unfold Ust.gM;have hlen:(u.space++10::u.held).length=u.space.length+1+u.held.length:=by simp;omega
 by_cases hb:4000 < (u.space++10::u.held).length
 .rw [Ny hb];have H:=hid (fun w=>tp hb (by omega) (by omega) w);have G:Hid (aZ w0 mb sb db w s w.drew u.p):=hid (((aZ.refl h).aj (Kp.drew [] w)).lT hp);clear h hlen hb l9 l10;go_enter Tryz.func68,Tryz.ntmps68
  go_region_dies
  all_goals
   refine (H.out _).mono ?_;rintro r w1 ⟨rfl,rfl⟩;exact ⟨rfl,rfl,G.out⟩
 .rw [Nr hb];have H:=hid (fun w=>lZ (a:=u.space) (b:=u.held) (by omega) w);have m1:=h.aj (Kp.drew [] w);have m2:=m1.set (s':={ s with space:=ba (u.space++10::u.held) }) 9 (.string (ba (u.space++10::u.held))) (by omega) rfl rfl;have gr:Gr mb db w s.r (w.drew.setCell ⟨mb,9,none⟩ (.string (ba (u.space++10::u.held)))) s.r:=(Gr.de (Kp.drew [] w) (fun _ e=>by cases e)).trans (Gr.set _ _ _ _)
  have G2:Hid (aZ w0 mb sb db w s (w.drew.setCell ⟨mb,9,none⟩ (.string (ba (u.space++10::u.held)))) ({ u with space:=u.space++10::u.held }:Ust).p):=hid ⟨_,(by
   show ({ s.p with space:=ba (u.space++10::u.held) }:Pst)=_;rw [hp]
   rfl),m2,gr⟩
  clear m1 m2 gr h hlen hb l9 l10;go_enter Tryz.func68,Tryz.ntmps68
  go_region_with (go_at_call 119;refine (H.out _).mono ?_;rintro r w1 ⟨rfl,rfl⟩)
  all_goals
   go_wp2_with fail;go_end0;exact ⟨rfl,G2.out⟩
theorem xz {cp:Value} (h:Mac w0 w mb sb db s) (hp:s.p=u.p) (hu:UOk u) :
  Calls Tryz.prog 70 #[.pointer (some ⟨mb,0,none⟩),cp] w (dB w0 mb sb db w s (Ust.gM u.held u.space (fun t=>{ u with held:=t }) u)):=by
 have c9:=h.b.at_ 9 _ rfl;have c10:=h.b.at_ 10 _ rfl;have f10:=h.b.free 10;have e9:s.space=ba u.space:=congrArg Pst.space hp;have e10:s.held=ba u.held:=congrArg Pst.held hp;rw [e9] at c9;rw [e10] at c10;have l9:=hu.sp;have l10:=hu.hd;unfold Ust.gM;have hlen:(u.held++10::u.space).length=u.held.length+1+u.space.length:=by simp;omega
 by_cases hb:4000 < (u.held++10::u.space).length
 .rw [Ny hb];have H:=hid (fun w=>tp hb (by omega) (by omega) w);have G:Hid (aZ w0 mb sb db w s w.drew u.p):=hid (((aZ.refl h).aj (Kp.drew [] w)).lT hp);clear h hlen hb l9 l10;go_enter Tryz.func70,Tryz.ntmps70
  go_region_dies
  all_goals
   refine (H.out _).mono ?_;rintro r w1 ⟨rfl,rfl⟩;exact ⟨rfl,rfl,G.out⟩
 .rw [Nr hb];have H:=hid (fun w=>lZ (a:=u.held) (b:=u.space) (by omega) w);have m1:=h.aj (Kp.drew [] w);have m2:=m1.set (s':={ s with held:=ba (u.held++10::u.space) }) 10 (.string (ba (u.held++10::u.space))) (by omega) rfl rfl;have gr:Gr mb db w s.r (w.drew.setCell ⟨mb,10,none⟩ (.string (ba (u.held++10::u.space)))) s.r:=(Gr.de (Kp.drew [] w) (fun _ e=>by cases e)).trans (Gr.set _ _ _ _)
  have G2:Hid (aZ w0 mb sb db w s (w.drew.setCell ⟨mb,10,none⟩ (.string (ba (u.held++10::u.space)))) ({ u with held:=u.held++10::u.space }:Ust).p):=hid ⟨_,(by
   show ({ s.p with held:=ba (u.held++10::u.space) }:Pst)=_;rw [hp]
   rfl),m2,gr⟩
  clear m1 m2 gr h hlen hb l9 l10;go_enter Tryz.func70,Tryz.ntmps70
  go_region_with (go_at_call 119;refine (H.out _).mono ?_;rintro r w1 ⟨rfl,rfl⟩)
  all_goals
   go_wp2_with fail;go_end0;exact ⟨rfl,G2.out⟩
theorem Dx {L:List UInt8} (h:Mac w0 w mb sb db s) (hp:s.p=u.p) (hu:UOk u) (hL:L.length<=1000) :
  Calls Tryz.prog 124 #[.pointer (some ⟨mb,0,none⟩),.string (ba L)] w (dB w0 mb sb db w s (Ust.gM u.space L (fun t=>{ u with space:=t }) u)):=by
 have c9:=h.b.at_ 9 _ rfl;have f9:=h.b.free 9;have e9:s.space=ba u.space:=congrArg Pst.space hp;rw [e9] at c9;have l9:=hu.sp;unfold Ust.gM;have hlen:(u.space++10::L).length=u.space.length+1+L.length:=by simp;omega
 by_cases hb:4000 < (u.space++10::L).length
 .rw [Ny hb];have H:=hid (tp hb (by omega) (by omega) w);have G:Hid (aZ w0 mb sb db w s w u.p):=hid ((aZ.refl h).lT hp);clear h hlen hb l9;go_enter Tryz.func124,Tryz.ntmps124
  go_wp2_with fail;refine H.out.mono ?_;rintro r w1 ⟨rfl,rfl⟩;go_wp2_with fail;exact ⟨rfl,rfl,G.out⟩
 .rw [Nr hb];refine (pK (a:=u.space) (b:=L) h e9 (by omega)).mono ?_;rintro r w1 ⟨rfl,g⟩;refine ⟨rfl,g.lT ?_⟩;show ({ s.p with space:=ba (u.space++10::L) }:Pst)=_;rw [hp]
  rfl
theorem goOn_t {L:List UInt8} (h:Mac w0 w mb sb db s) (hp:s.p=u.p) :
  Calls Tryz.prog 123 #[.pointer (some ⟨mb,0,none⟩),.string (ba L)] w (dB w0 mb sb db w s (.ok { u with space:=L })):=by
 have c9:=h.b.at_ 9 _ rfl;have f9:=h.b.free 9
 have G:=hid (dB.set (e:=.returned (.tuple #[])) (u2:={ u with space:=L }) (s':={ s with space:=ba L }) h 9 (.string (ba L)) (by omega) rfl rfl rfl (by
  show ({ s.p with space:=ba L }:Pst)=_;rw [hp]
  rfl))
 clear h;go_enter Tryz.func123,Tryz.ntmps123
 go_wp2_with fail;go_end0;exact G.out
theorem Ag {L:List UInt8} (h:Mac w0 w mb sb db s) (hp:s.p=u.p) :
  Calls Tryz.prog 41 #[.pointer (some ⟨mb,0,none⟩),.string (ba L)] w (dB w0 mb sb db w s (.ok ({ u with steps:=0 }.oZ L))):=by
 refine (Ae h).mono ?_;rintro r w1 ⟨rfl,g⟩;refine ⟨rfl,g.lT ?_⟩;rw [hp]
 rfl
theorem begin_t {L:List UInt8} (h:Mac w0 w mb sb db s) (hp:s.p=u.p) :
  Calls Tryz.prog 80 #[.pointer (some ⟨mb,0,none⟩),.string (ba L)] w (dB w0 mb sb db w s (.ok (u.oZ L))):=by
 refine (I6 h).mono ?_;rintro r w1 ⟨rfl,g⟩;refine ⟨rfl,g.lT ?_⟩;rw [hp]
 rfl
def SupO (w0:World) (mb sb db:Nat) (w:World) (s:Mst) (u:Ust) (R:Except (Nat×Ust) (Option Ust)) (e:Ending) (w':World):Prop:=
 match R with
 | .error (E,u1)=>e=gN E 0/\aZ w0 mb sb db w s w' u1.p
 | .ok none=>e=.returned (.bool false)/\aZ w0 mb sb db w s w' u.p
 | .ok (some u1)=>e=.returned (.bool true)/\aZ w0 mb sb db w s w' u1.p
def rE (u:Ust):Ust:={ u with left:=(cutL u.left).2.getD [],number:=u.number+1,aH:=.no }
def CJ:RU->Except (Nat×Ust) (Option Ust)
 | .error e=>.error e
 | .ok u=>.ok (some u)
theorem jR {R:RU} {f:Nat} (hen:Enters f) (h:Mac w0 w mb sb db s) (hp:s.p=u.p) (hu:UOk u) (hw:u.aH.v=.func (.func f) #[] #[])
  (ht:u.there=true->(cutL u.left).1.length<=1000->∀ (w1:World) (s1:Mst),Mac w0 w1 mb sb db s1->s1.p=(rE u).p->Calls Tryz.prog f #[.pointer (some ⟨mb,0,none⟩),.string (ba (cutL u.left).1)] w1 (dB w0 mb sb db w1 s1 R)) :
  Calls Tryz.prog 82 #[.pointer (some ⟨mb,0,none⟩)] w (SupO w0 mb sb db w s u (if 1000 < (cutL u.left).1.length then .error (9,u) else if u.there then CJ R else .ok none)):=by
 have c12:=h.b.at_ 12 _ rfl;have hwv:s.aH=.func (.func f) #[] #[]:=(congrArg Pst.aH hp).trans hw;rw [hwv] at c12;have HX:=hid (next_t h hp hu);have HT:=hid ht;have hnum:u.number<=281474976710656:=by have:=hu.lf;omega
 have HP:=hid hp;clear ht h hp hu;have hbo:∀ w,(binOp BinOp.eql 103 (.func (.func f) #[] #[]) .nilFunc).run Tryz.prog w=.ok (.bool false) w:=fun _=>rfl;unfold Enters at hen;obtain ⟨L,hL⟩:∃ L,L=(cutL u.left).1:=⟨_,rfl⟩;obtain ⟨K,hK⟩:∃ K,K=(if 1000 < (cutL u.left).1.length then .error (9,u) else if u.there then CJ R else .ok none:Except (Nat×Ust) (Option Ust)):=⟨_,rfl⟩;rw [<-hK];have HKK:=hid hK;clear hK;go_enter Tryz.func82,Tryz.ntmps82
 go_wp2_with fail;refine HX.out.mono ?_;intro r w1 hr;unfold D6 at hr;by_cases h1000:1000 < (cutL u.left).1.length
 .rw [Ny h1000] at hr;obtain ⟨rfl,g1⟩:=hr;have H1000:=hid h1000;clear h1000;go_wp2_with fail;refine ⟨rfl,?_⟩;rw [HKK.out,Ny H1000.out];exact ⟨rfl,g1⟩
 .rw [Nr h1000] at hr;have H1000:=hid h1000;clear h1000
  cases hth:u.there
  .rw [hth,Nr (by simp)] at hr;obtain ⟨rfl,g1⟩:=hr;have HTH:=hid hth;clear hth;go_wp2_with fail;go_ret;rw [HKK.out,Nr H1000.out,HTH.out,Nr (by simp)];exact ⟨rfl,g1⟩
  .rw [hth,Ny rfl] at hr;obtain ⟨rfl,s1,e1,m1,g1⟩:=hr;have HTH:=hid hth;clear hth;rw [<-hL] at HT ⊢;have d8:=m1.b.at_ 8 _ rfl;have f8:=m1.b.free 8;have d12:=m1.b.at_ 12 _ rfl;have f12:=m1.b.free 12;have hw1:s1.aH=.func (.func f) #[] #[]:=(congrArg Pst.aH e1).trans hw;have hn1:s1.number=u.number:=congrArg Pst.number e1;rw [hw1] at d12;obtain ⟨n1,hn1'⟩:∃ n1:Nat,n1=s1.number+1:=⟨_,rfl⟩;have wr:=aP s1.number n1 hn1' (by omega);have m2:=m1.set (s':={ s1 with number:=n1 }) 8 (.int .i64 (n1:Int)) (by omega) rfl rfl;have m3:=m2.set (s':={ s1 with number:=n1,aH:=.nilFunc }) 12 .nilFunc (by omega) rfl rfl;have M3:=hid m3;have hst:=fZ (P:=Tryz.prog) (w:=w1.setCell ⟨mb,8,none⟩ (.int .i64 (n1:Int))) (v:=.nilFunc) (m2.b.at_ 12 _ rfl) (m2.b.free 12) rfl
   have P3:Hid (({ s1 with number:=n1,aH:=.nilFunc }:Mst).p=(rE u).p):=hid (by
    show ({ s1.p with number:=n1,aH:=.nilFunc }:Pst)=_;rw [e1,hn1',hn1]
    rfl)
   have HTT:=hid (HT.out HTH.out (by rw [hL];have:=H1000.out;omega) _ _ M3.out P3.out);have G13:Hid (Gr mb db w s.r ((w1.setCell ⟨mb,8,none⟩ (.int .i64 (n1:Int))).setCell ⟨mb,12,none⟩ .nilFunc) s1.r):=hid (g1.trans ((Gr.set _ _ _ _).trans (Gr.set _ _ _ _)));clear hn1 hn1' m2 m3 HT g1 e1 hL;have KK:Hid (K=CJ R):=hid (by rw [HKK.out,Nr H1000.out,HTH.out,Ny rfl]);go_wp2_with fail;refine HTT.out.mono ?_;intro r w2 hr
   cases R with
   | error q=>
    obtain ⟨E,u2⟩:=q;obtain ⟨rfl,s2,e2,m2,g2⟩:=hr;go_wp2_with fail;refine ⟨rfl,?_⟩;rw [KK.out];exact ⟨rfl,s2,e2,m2,G13.out.trans g2⟩
   | ok u2=>
    obtain ⟨rfl,s2,e2,m2,g2⟩:=hr;go_wp2_with fail;go_ret;rw [KK.out];exact ⟨rfl,s2,e2,m2,G13.out.trans g2⟩
theorem UOk.rE (h:UOk u) (ht:u.there=true):UOk (rE u):=by
 refine ⟨h.sp,h.hd,h.ct,h.ot,h.fb,h.bt,h.bl,?_⟩;have h1:=nk u.left;have h2:=h.lf;show ((cutL u.left).2.getD []).length+(u.number+1)<=_;have h3:((cutL u.left).2.getD []).length < u.left.length:=by
  cases hc:(cutL u.left).2 with
  | some R=>
   have:=congrArg List.length (il hc).1;simp at this;simp;omega
  | none=>
   simp only [Option.getD_none,OX];unfold Ust.there at ht;rw [hc] at ht
   cases hl:u.left with
   | nil=>rw [hl] at ht;simp at ht
   | cons a l=>simp
 omega
theorem CG (h:Mac w0 w mb sb db s) (hp:s.p=u.p) (hu:UOk u) :
  Calls Tryz.prog 82 #[.pointer (some ⟨mb,0,none⟩)] w (SupO w0 mb sb db w s u u.aI):=by
 cases hw:u.aH with
 | no=>
  have e:u.aI=.ok (some u):=by unfold Ust.aI;rw [hw]
  rw [e];refine (yr h ((congrArg Pst.aH hp).trans (by show u.aH.v=_;rw [hw];rfl))).mono ?_;rintro r w1 ⟨rfl,g⟩;exact ⟨rfl,g.lT hp⟩
 | bw=>
  have e:u.aI=(if 1000 < (cutL u.left).1.length then .error (9,u) else if u.there then CJ (.ok ({ rE u with steps:=0 }.oZ (cutL u.left).1)) else .ok none):=by unfold Ust.aI;rw [hw];rfl
  rw [e];exact jR (f:=41) (fun _ _ _=>by kernel_rfl) h hp hu (by rw [hw];rfl) (fun _ _ w1 s1 m1 e1=>Ag m1 e1)
 | gw=>
  have e:u.aI=(if 1000 < (cutL u.left).1.length then .error (9,u) else if u.there then CJ (.ok { rE u with space:=(cutL u.left).1 }) else .ok none):=by unfold Ust.aI;rw [hw];rfl
  rw [e];exact jR (f:=123) (fun _ _ _=>by kernel_rfl) h hp hu (by rw [hw];rfl) (fun _ _ w1 s1 m1 e1=>goOn_t m1 e1)
 | gm=>
  have e:u.aI=(if 1000 < (cutL u.left).1.length then .error (9,u) else if u.there then CJ (Ust.gM (rE u).space (cutL u.left).1 (fun t=>{ rE u with space:=t }) (rE u)) else .ok none):=by
   unfold Ust.aI;rw [hw]
   show (if 1000 < (cutL u.left).1.length then .error (9,u) else if u.there then (match Ust.gM (rE u).space (cutL u.left).1 (fun t=>{ rE u with space:=t }) (rE u) with
    | .error e=>.error e
    | .ok u2=>.ok (some u2)) else .ok none:Except (Nat×Ust) (Option Ust))=_
   cases Ust.gM (rE u).space (cutL u.left).1 (fun t=>{ rE u with space:=t }) (rE u) <;> rfl
  rw [e];exact jR (f:=124) (fun _ _ _=>by kernel_rfl) h hp hu (by rw [hw];rfl) (fun hth h1 w1 s1 m1 e1=>Dx m1 e1 (hu.rE hth) h1)
end
def Pow (w : World) : Prop := Lib.TabIs Tryz.prog w "internal/strconv.uint64pow10" .u64 Lib.pow10Tab
theorem Pow.aj {w w':World} (h:Pow w) (k:Kp [] w w'):Pow w':=by
 unfold Pow Lib.TabIs World.var? at h ⊢
 cases hg : Tryz.prog.globalNamed "internal/strconv.uint64pow10" with
 | none=>rw [hg] at h;cases h
 | some g=>
  rw [hg] at h;simp only [Option.bind_some] at h ⊢
  cases ho:w.heap[g]? with
  | none=>rw [ho] at h;cases h
  | some o=>
   rw [k.block g (aN ho) (by simp)];exact h
theorem jw (w:World) (k:Nat) (os:Array Obj):Kp [] w (Sort.grow (w.drewN k) os):=by
 have k1:=Kp.drewN [] w k;refine ⟨k1.os,k1.tape,k1.output,by show w.heap.size<=((w.drewN k).heap++os).size;rw [Array.size_append];have:=k1.size;omega,fun j hj _=>?_⟩;show ((w.drewN k).heap++os)[j]? = _;rw [Array.getElem?_append_left (by have:=k1.size;omega)];exact k1.block j hj (by simp)
theorem qz:∀ (n u:Nat),u < 10 ^ (n+1)->(Lib.decDigits u).length<=n+1
 | 0,u,h=>by
  rw [Lib.decDigits,dif_pos (by omega)];simp
 | n+1,u,h=>by
  rw [Lib.decDigits];split
  .simp
  .have:=qz n (u / 10) (by rw [Nat.pow_succ] at h;omega);simp;omega
section
variable {w0 w w' w2:World} {mb sb db lo hi:Nat} {s s':Mst} {u:Ust} {σ:Sst} {ca co:Nat} {cv:List Value}
theorem uX {cp:Value} (h:Mac w0 w mb sb db s) (hp:s.p=u.p) (hu:UOk u) :
  Calls Tryz.prog 75 #[.pointer (some ⟨mb,0,none⟩),cp] w (dB w0 mb sb db w s (u.tell (cutL u.space).1)):=by
 have c9:=h.b.at_ 9 _ rfl;have e9:s.space=ba u.space:=congrArg Pst.space hp;rw [e9] at c9;have l9:=hu.sp;have hcl:=nk u.space;have CT:=hid (cut_t (l:=u.space) w (by omega));have HT:Hid (∀ w1,Kp [] w w1->Calls Tryz.prog 112 #[.pointer (some ⟨mb,5,none⟩),.string (ba (cutL u.space).1)] w1 (dB w0 mb sb db w1 s (u.tell (cutL u.space).1))):=hid (fun w1 k1=>iJ (h.aj k1) hp hu (by omega));obtain ⟨R,hR⟩:∃ R,R=u.tell (cutL u.space).1:=⟨_,rfl⟩;rw [<-hR] at HT ⊢;clear hR h hp hu;go_enter Tryz.func75,Tryz.ntmps75
 go_wp2_with fail;refine CT.out.mono ?_;rintro r w1 ⟨rfl,k1⟩;have K1:=hid k1;clear k1;go_wp2_with fail;refine (HT.out w1 K1.out).mono ?_;intro r w2 hr;replace hr:=dB.pre K1.out hr
 cases R with
 | error q=>
  obtain ⟨E,u1⟩:=q;obtain ⟨rfl,g1⟩:=hr;go_wp2_with fail;exact ⟨rfl,rfl,g1⟩
 | ok u1=>
  obtain ⟨rfl,g1⟩:=hr;go_wp2_with fail;go_end0;exact ⟨rfl,g1⟩
theorem dropFirst_t {cp:Value} (h:Mac w0 w mb sb db s) (hp:s.p=u.p) (hu:UOk u) :
  Calls Tryz.prog 66 #[.pointer (some ⟨mb,0,none⟩),cp] w (dB w0 mb sb db w s (match (cutL u.space).2 with
   | none=>u.aO
   | some rest=>match u.brought with
    | .error e=>.error e
    | .ok u1=>.ok (u1.oZ rest))):=by
 have c9:=h.b.at_ 9 _ rfl;have e9:s.space=ba u.space:=congrArg Pst.space hp;rw [e9] at c9;have l9:=hu.sp;have CT:=cut_t (l:=u.space) w (by omega)
 cases hc:(cutL u.space).2 with
 | none=>
  rw [hc] at CT;have HC:=hid CT;have HT:Hid (∀ w1,Kp [] w w1->Calls Tryz.prog 113 #[.pointer (some ⟨mb,0,none⟩)] w1 (dB w0 mb sb db w1 s u.aO)):=hid (fun w1 k1=>eO (h.aj k1) hp hu);obtain ⟨R,hR⟩:∃ R,R=u.aO:=⟨_,rfl⟩;dsimp only;rw [<-hR] at HT ⊢;clear hR h hp hu CT hc;go_enter Tryz.func66,Tryz.ntmps66
  go_wp2_with fail;refine HC.out.mono ?_;rintro r w1 ⟨rfl,k1⟩;have K1:=hid k1;clear k1;go_wp2_with fail;refine (HT.out w1 K1.out).mono ?_;intro r w2 hr;replace hr:=dB.pre K1.out hr
  cases R with
  | error q=>
   obtain ⟨E,u1⟩:=q;obtain ⟨rfl,g1⟩:=hr;go_wp2_with fail;exact ⟨rfl,rfl,g1⟩
  | ok u1=>
   obtain ⟨rfl,g1⟩:=hr;go_wp2_with fail;refine bodyPost_ret (results_none rfl _ _ _) rfl ?_;exact ⟨rfl,g1⟩
 | some rest=>
  rw [hc] at CT;have HC:=hid CT;have HT:Hid (∀ w1,Kp [] w w1->Calls Tryz.prog 118 #[.pointer (some ⟨mb,0,none⟩)] w1 (dB w0 mb sb db w1 s u.brought)):=hid (fun w1 k1=>ep (h.aj k1) hp hu);obtain ⟨R,hR⟩:∃ R,R=u.brought:=⟨_,rfl⟩;dsimp only;rw [<-hR] at HT ⊢;clear hR h hp hu CT hc;go_enter Tryz.func66,Tryz.ntmps66
  go_wp2_with fail;refine HC.out.mono ?_;rintro r w1 ⟨rfl,k1⟩;have K1:=hid k1;clear k1;go_wp2_with fail;refine (HT.out w1 K1.out).mono ?_;intro r w2 hr;replace hr:=dB.pre K1.out hr
  cases R with
  | error q=>
   obtain ⟨E,u1⟩:=q;obtain ⟨rfl,g1⟩:=hr;go_wp2_with fail;exact ⟨rfl,rfl,g1⟩
  | ok u1=>
   obtain ⟨rfl,s1,e1,m1,gr1⟩:=hr;have M1:=hid m1;clear m1;go_wp2_with fail;refine (begin_t M1.out e1).mono ?_;rintro r w3 ⟨rfl,s3,e3,m3,gr3⟩;go_wp2_with fail;go_end0;exact ⟨rfl,s3,e3,m3,gr1.trans gr3⟩
theorem yU (hp:s.p=u.p):s.p.none=u.none_:=by
 rw [hp];show (u.ended && ((ba u.left).toList == []))=_;rw [tT]
 rfl
theorem Dg {cp:Value} (h:Mac w0 w mb sb db s) (hs:Scr lo hi w0 sb 0 σ) (hp:s.p=u.p) (hu:UOk u) :
  Calls Tryz.prog 72 #[.pointer (some ⟨mb,0,none⟩),cp] w (dB w0 mb sb db w s (if u.none_ then u.gB σ.quiet 0 else match u.eJ σ.quiet with
   | .error e=>.error e
   | .ok u1=>.ok { u1 with aH:=.gw })):=by
 have NV:=G8 h (yU hp)
 cases hn:u.none_
 .rw [hn] at NV;have HN:=hid NV;rw [Nr (by simp)];have TE:=uu h hs hp hu;obtain ⟨R,hR⟩:∃ R,R=u.eJ σ.quiet:=⟨_,rfl⟩;rw [<-hR] at TE ⊢;have HT:=hid TE;clear TE hR NV h hs hp hu hn;go_enter Tryz.func72,Tryz.ntmps72
  go_wp2_with fail;refine HN.out.mono ?_;rintro r w1 ⟨rfl,rfl⟩;go_wp2_with fail;refine HT.out.mono ?_;intro r w2 hr
  cases R with
  | error q=>
   obtain ⟨E,u1⟩:=q;obtain ⟨rfl,g1⟩:=hr;go_wp2_with fail;exact ⟨rfl,rfl,g1⟩
  | ok u1=>
   obtain ⟨rfl,s1,e1,m1,gr1⟩:=hr;have c12:=m1.b.at_ 12 _ rfl;have f12:=m1.b.free 12;have hst:=fZ (P:=Tryz.prog) (v:=gwV) c12 f12 rfl;go_wp2_with fail;go_end0;refine ⟨rfl,{ s1 with aH:=gwV },?_,m1.set 12 gwV (by omega) rfl rfl,gr1.trans (Gr.set _ _ _ _)⟩;show ({ s1.p with aH:=gwV }:Pst)=_;rw [e1]
   rfl
 .rw [hn] at NV;have HN:=hid NV;rw [Ny rfl];have TE:=tJ (st:=0) h hs hp hu;obtain ⟨R,hR⟩:∃ R,R=u.gB σ.quiet 0:=⟨_,rfl⟩;rw [<-hR] at TE ⊢;have HT:=hid TE;clear TE hR NV h hs hp hu hn;go_enter Tryz.func72,Tryz.ntmps72
  go_wp2_with fail;refine HN.out.mono ?_;rintro r w1 ⟨rfl,rfl⟩;go_wp2_with fail;refine HT.out.mono ?_;intro r w2 hr
  cases R with
  | error q=>
   obtain ⟨E,u1⟩:=q;obtain ⟨rfl,g1⟩:=hr;go_wp2_with fail;exact ⟨rfl,rfl,g1⟩
  | ok u1=>
   obtain ⟨rfl,g1⟩:=hr;go_wp2_with fail;refine bodyPost_ret (results_none rfl _ _ _) rfl ?_;exact ⟨rfl,g1⟩
theorem xi {cp:Value} (h:Mac w0 w mb sb db s) (hs:Scr lo hi w0 sb 0 σ) (hp:s.p=u.p) (hu:UOk u) :
  Calls Tryz.prog 73 #[.pointer (some ⟨mb,0,none⟩),cp] w (dB w0 mb sb db w s (if u.none_ then u.gB σ.quiet 0 else match u.brought with
   | .error e=>.error e
   | .ok u1=>.ok { u1 with aH:=.gm })):=by
 have NV:=G8 h (yU hp)
 cases hn:u.none_
 .rw [hn] at NV;have HN:=hid NV;rw [Nr (by simp)];have TE:=ep h hp hu;obtain ⟨R,hR⟩:∃ R,R=u.brought:=⟨_,rfl⟩;rw [<-hR] at TE ⊢;have HT:=hid TE;clear TE hR NV h hs hp hu hn;go_enter Tryz.func73,Tryz.ntmps73
  go_wp2_with fail;refine HN.out.mono ?_;rintro r w1 ⟨rfl,rfl⟩;go_wp2_with fail;refine HT.out.mono ?_;intro r w2 hr
  cases R with
  | error q=>
   obtain ⟨E,u1⟩:=q;obtain ⟨rfl,g1⟩:=hr;go_wp2_with fail;exact ⟨rfl,rfl,g1⟩
  | ok u1=>
   obtain ⟨rfl,s1,e1,m1,gr1⟩:=hr;have c12:=m1.b.at_ 12 _ rfl;have f12:=m1.b.free 12;have hst:=fZ (P:=Tryz.prog) (v:=gmV) c12 f12 rfl;go_wp2_with fail;go_end0;refine ⟨rfl,{ s1 with aH:=gmV },?_,m1.set 12 gmV (by omega) rfl rfl,gr1.trans (Gr.set _ _ _ _)⟩;show ({ s1.p with aH:=gmV }:Pst)=_;rw [e1]
   rfl
 .rw [hn] at NV;have HN:=hid NV;rw [Ny rfl];have TE:=tJ (st:=0) h hs hp hu;obtain ⟨R,hR⟩:∃ R,R=u.gB σ.quiet 0:=⟨_,rfl⟩;rw [<-hR] at TE ⊢;have HT:=hid TE;clear TE hR NV h hs hp hu hn;go_enter Tryz.func73,Tryz.ntmps73
  go_wp2_with fail;refine HN.out.mono ?_;rintro r w1 ⟨rfl,rfl⟩;go_wp2_with fail;refine HT.out.mono ?_;intro r w2 hr
  cases R with
  | error q=>
   obtain ⟨E,u1⟩:=q;obtain ⟨rfl,g1⟩:=hr;go_wp2_with fail;exact ⟨rfl,rfl,g1⟩
  | ok u1=>
   obtain ⟨rfl,g1⟩:=hr;go_wp2_with fail;refine bodyPost_ret (results_none rfl _ _ _) rfl ?_;exact ⟨rfl,g1⟩
theorem ur {cp:Value} (h:Mac w0 w mb sb db s) (hw0:Pow w0) (hp:s.p=u.p) (hu:UOk u) :
  Calls Tryz.prog 77 #[.pointer (some ⟨mb,0,none⟩),cp] w (dB w0 mb sb db w s (u.tell (Lib.decDigits u.number))):=by
 have c8:=h.b.at_ 8 _ rfl;have e8:s.number=u.number:=congrArg Pst.number hp;rw [e8] at c8;have hlf:=hu.lf;have hln:=qz 15 u.number (by omega);have HT:Hid (∀ w1,Kp [] w w1->Calls Tryz.prog 112 #[.pointer (some ⟨mb,5,none⟩),.string (ba (Lib.decDigits u.number))] w1 (dB w0 mb sb db w1 s (u.tell (Lib.decDigits u.number)))):=hid (fun w1 k1=>iJ (h.aj k1) hp hu (by omega));have HI:=itoa_g (u.number:Int) (by omega) (by omega) w.drew ((hw0.aj h.r.kp).aj (Kp.drew [] w));rw [Lib.itoa_nonneg] at HI;have HI:=hid HI;obtain ⟨R,hR⟩:∃ R,R=u.tell (Lib.decDigits u.number):=⟨_,rfl⟩;rw [<-hR] at HT ⊢;clear hR h hp hu hw0
 cases R with
 | error q=>
  obtain ⟨E,u1⟩:=q;go_enter Tryz.func77,Tryz.ntmps77
  go_wp2_with fail;go_region_dies
  rename_i K hK;refine HI.out.mono ?_;rintro r w1 ⟨rfl,kk,os,hw⟩;have K1:Hid (Kp [] w w1):=hid (by rw [hw];exact (Kp.drew [] w).trans (jw _ _ _));clear hw;refine hK _ _ ?_;clear hK K;refine wpAny_ready (rs:=[8]) (by kernel_rfl) (by simp) ?_;refine AllReady.cons rfl (fun K hK=>?_) AllReady.nil;go_simp;refine (HT.out _ K1.out).mono ?_;rintro r w2 ⟨rfl,g1⟩;exact ⟨rfl,rfl,g1.pre K1.out⟩
 | ok u1=>
  go_enter Tryz.func77,Tryz.ntmps77
  go_wp2_with fail;go_region_with (first | (go_at_call 112;refine (HT.out _ K1.out).mono ?_;rintro r w2 ⟨rfl,g1⟩) | (go_at_call 108;refine HI.out.mono ?_;rintro r w1 ⟨rfl,kk,os,hw⟩;have K1:Hid (Kp [] w w1):=hid (by rw [hw];exact (Kp.drew [] w).trans (jw _ _ _));clear hw))
  go_wp2_with fail;go_end0;exact ⟨rfl,g1.pre K1.out⟩
end
theorem MN (mb db:Nat) (r:Mrw) (v:Value) (l:List ByteArray):maB mb db { r with vb:=v,br:=l }=fun j=>if j=5 then v.ownBlock else maB mb db r j:=by
 funext i
 rcases i with _ | _ | _ | _ | _ | _ | i <;> simp [maB]
section
variable {w0 w w' w2 w1:World} {mb sb db lo hi:Nat} {s s':Mst} {u:Ust} {σ:Sst} {ca co:Nat} {cv:List Value}
theorem Mac.pushBr {v':Value} {x:ByteArray} (h:Mac w0 w mb sb db s) (k1:Kp s.r.vb.ownBlock.toList w w1) (row:w1.ownsRow w0.heap.size 9 1 v' (s.r.br.length+1) (s.r.br.map .string++[.string x])) (hat:∀ g,v'.ownBlock=some g->s.r.vb.ownBlock=some g\/w.heap.size<=g) :
  Mac w0 (w1.setCell ⟨mb,16,none⟩ v') mb sb db { s with r:={ s.r with vb:=v',br:=s.r.br++[x] } } /\
   Gr mb db w s.r (w1.setCell ⟨mb,16,none⟩ v') { s.r with vb:=v',br:=s.r.br++[x] }:=by
 have mlt:=h.b.lt;have hS:∀ x∈mb::s.r.vb.ownBlock.toList,∃ i,maB mb db s.r i=some x:=fun x hx=>by
  rcases List.mem_cons.1 hx with q | q
  .exact ⟨0,by rw [q];rfl⟩
  .exact ⟨5,by simpa [maB] using q⟩
 have nmb:mb∉s.r.vb.ownBlock.toList:=fun e=>h.Hh 5 (by omega) (by simpa [maB] using e);have ks:Kp [mb] w1 (w1.setCell ⟨mb,16,none⟩ v'):=Kp.setCell _ _ (by simp);have kk:Kp (mb::s.r.vb.ownBlock.toList) w (w1.setCell ⟨mb,16,none⟩ v'):=(k1.mono (by simp_all)).trans (ks.mono (by simp))
 have hh:∀ i p,i≠0->i≠5->maB mb db s.r i=some p->(w1.setCell ⟨mb,16,none⟩ v').heap[p]? = w.heap[p]?:=fun i p h0 h2 hp=>kk.block p (h.r.bk.hi i p hp) (fun e=>by
  rcases List.mem_cons.1 e with q | q
  .exact h0 (h.r.bk.ne i 0 p hp (by rw [q];rfl))
  .exact h2 (h.r.bk.ne i 5 p hp (by simpa [maB] using q)))
 have vne:v'.ownBlock≠some mb:=fun e=>by
  rcases hat mb e with q | q
  .have:=h.r.bk.ne 5 0 mb q rfl;omega
  .omega
 have B1:Bl w1 mb (Dj sb db s):=h.b.aj k1 nmb;have lo0:=h.r.kp.size;have bk':Bk.ok w0.heap.size (w1.setCell ⟨mb,16,none⟩ v').heap.size (maB mb db { s.r with vb:=v',br:=s.r.br++[x] }):=by
  rw [MN]
  cases hv:v'.ownBlock with
  | none=>
   refine ⟨fun i p hp=>?_,fun i p hp=>?_,fun i j p hi hj=>?_⟩
   .split at hp
    .cases hp
    .exact h.r.bk.lo i p hp
   .split at hp
    .cases hp
    .exact Ns (h.r.bk.hi i p hp) kk.size
   .split at hi <;> split at hj
    .omega
    .cases hi
    .cases hj
    .exact h.r.bk.ne i j p hi hj
  | some g=>
   refine h.r.bk.upd 5 g kk.size lo0 ?_;rcases hat g hv with q | q
   .exact .inl q
   .exact .inr ⟨q,Ns (aA row hv).2 ks.size⟩
 refine ⟨⟨B1.set 16 v' (by show 16 < 20;omega),⟨?_,ai h.r.o2 (fun p hp=>hh 2 p (by omega) (by omega) hp),ai h.r.o3 (fun p hp=>hh 3 p (by omega) (by omega) hp),fun i v hv=>?_,ai h.r.o4 (fun p hp=>hh 4 p (by omega) (by omega) hp),?_,(hh 1 _ (by omega) (by omega) rfl).trans h.r.md,bk',h.r.fll⟩⟩,⟨kk.size,fun i p hp=>?_,fun p hp hn=>kk.block p hp (fun e=>by obtain ⟨i,hi⟩:=hS p e;exact hn i hi)⟩⟩
 .refine ⟨kk.os.trans h.r.kp.os,kk.tape.trans h.r.kp.tape,kk.output.trans h.r.kp.output,Nx lo0 kk.size,fun j hj _=>(kk.block j (Ns hj lo0) (fun e=>?_)).trans (h.r.kp.block j hj (by simp))⟩;obtain ⟨i,hi⟩:=hS j e;have:=h.r.bk.lo i j hi;omega
 .obtain ⟨bs,h1,h2⟩:=h.r.ofl i v hv;exact ⟨bs,h1,ai h2 (fun p hp=>hh (i+6) p (by omega) (by omega) (show (s.r.fl[i]?).bind Value.ownBlock=some p by rw [hv];exact hp))⟩
 .show World.ownsRow _ _ _ 1 v' (s.r.br++[x]).length ((s.r.br++[x]).map .string);rw [Nu,N8];exact ai row (fun p hp=>ks.block p (aA row hp).2 (fun e=>vne (by simp at e;rw [<-e];exact hp)))
 .rw [MN] at hp;replace hp:(if i=5 then v'.ownBlock else maB mb db s.r i)=some p:=hp;split at hp
  .rcases hat p hp with q | q
   .exact .inl ⟨5,q⟩
   .exact .inr q
  .exact .inl ⟨i,hp⟩
theorem bring_t {t:List UInt8} (h:Mac w0 w mb sb db s) (hc:Az w0 ca co cv) (h10:cv[10]? = some (.string (ba t))) (hp:s.p=u.p) (hu:UOk u) :
  Calls Tryz.prog 60 #[.pointer (some ⟨mb,0,none⟩),.pointer (some ⟨ca,co,none⟩)] w (dB w0 mb sb db w s (.ok { u with br:=u.br++[t] })):=by
 have hbr:s.r.br=u.br.map ba:=congrArg Pst.br hp;have hbl:s.r.br.length<=2001:=by rw [hbr,N6];exact hu.bl
 obtain ⟨A,c,ev,_,_⟩:=dh h.r.o5;obtain ⟨i0,hi,hz0,hz1,hz2⟩:=info_parts Tryz.Ht;have HI:=hid (And.intro hi (And.intro hz0 (And.intro hz1 hz2)));clear hi hz0 hz1 hz2;have k0:=Kp.drew [] w;have m3:=h.aj k0;have c10:=hc.now m3 h10
 have HP:Hid (∀ v',({ s with r:={ s.r with vb:=v',br:=s.r.br++[ba t] } }:Mst).p=({ u with br:=u.br++[t] }:Ust).p):=hid (fun v'=>by
  show ({ s.p with br:=s.r.br++[ba t] }:Pst)=_;rw [hp,hbr];show _=({ u.p with br:=(u.br++[t]).map ba }:Pst);rw [N8]
  rfl)
 have G0:Hid (Gr mb db w s.r w.drew s.r):=hid (Gr.de k0 (fun _ e=>by cases e));have hclt:ca < w.drew.heap.size:=World.block_lt_of_cell? _ _ c10;have hcb:∀ p,s.r.vb.ownBlock=some p->ca≠p:=fun p hp e=>by have:=h.r.bk.lo 5 p hp;have:=hc.lt;omega
 clear hbr hp hu h10 h;obtain ⟨w3,hw3⟩:∃ w3,w3=w.drew:=⟨_,rfl⟩;rw [<-hw3] at m3 c10 G0 hclt;go_enter Tryz.func60,Tryz.ntmps60
 go_upto_region 0 with fail
 refine az (fun w':World=>w'.cell? ⟨mb,16,none⟩=some (.slice A s.r.br.length c)/\w'.cell? ⟨ca,co+10,none⟩=some (.string (ba t))) 14 (by kernel_rfl) ?_;rw [<-hw3];have hS:(fun w':World=>w'.cell? ⟨mb,16,none⟩=some s.r.vb/\w'.cell? ⟨ca,co+10,none⟩=some (.string (ba t))) w3:=⟨m3.b.at_ 16 _ rfl,c10⟩;rw [ev] at hS;clear hw3 k0;iterate 10 (refine tkn (v:=?_) rfl (by kernel_rfl) (fun _ _ _ h=>h) ⟨rfl,fun w hSw=>?_⟩ hS ?_;rotate_left;(focus ((try dsimp only at hSw);go_simp;(try with_reducible rfl)));(try simp only [Nn,Nk,Nj,Act.put,Ni,Np,Nq]))
 have ka:=Kp.alloc [] w3 (.cells #[.string (ba t)] 9);have m7:=m3.aj ka;have hS7:(fun w':World=>w'.cell? ⟨mb,16,none⟩=some (.slice A s.r.br.length c)/\w'.cell? ⟨ca,co+10,none⟩=some (.string (ba t))) (w3.alloc (.cells #[.string (ba t)] 9)):=⟨by rw [<-ev];exact m7.b.at_ 16 _ rfl,(ka.cell (p:=⟨ca,co+10,none⟩) hclt (by simp)).trans c10⟩;have BN:=Bl.alloc w3 [.string (ba t)] 9;refine ag (i:=10) (by kernel_rfl) rfl (fun K hK=>?_);go_simp;refine hK.out _ _ (.inr hS7) ?_;clear hK K;refine ag (i:=11) (by kernel_rfl) rfl (fun K hK=>?_);refine jm (by rfl) (.tmp 8) (.tmp 14) 42 (by rfl) w0.heap.size 9 i0 _ 1 16 Tryz.underlying42 HI.out.1 HI.out.2.1 HI.out.2.2.1 HI.out.2.2.2 rfl (by decide) s.r.vb s.r.br.length (s.r.br.map .string) (by rw [ev];rfl) m7.r.o5 ⟨w3.heap.size,0,none⟩ 1 1 [.string (ba t)] (by rfl) rfl (fun j u hu=>by rw [Addr.add_mid,NJ];exact BN.at_ j u hu) (fun u hu=>by simp at hu;subst hu;rfl) (by unfold maxLen;omega) (by omega) m7.r.kp.size (by omega) ?_
 intro g cap w8 ho8 hg8 hor8;have kg:Kp s.r.vb.ownBlock.toList w3 w8:=(ka.mono (by simp)).trans (aV (S:=s.r.vb.ownBlock.toList) hg8 (fun p hp=>by rw [hp];simp));have mlt:=m7.b.lt;have hb2:w8.heap[mb]? = (w3.alloc (.cells #[.string (ba t)] 9)).heap[mb]?:=hg8.block mb mlt (fun e=>by have:=m7.r.bk.ne 0 5 mb rfl (by first | exact e | exact e.symm);omega);have hb3:w8.heap[ca]? = (w3.alloc (.cells #[.string (ba t)] 9)).heap[ca]?:=hg8.block ca (Ns hclt ka.size) (fun e=>hcb ca (by first | exact e | exact e.symm) rfl);have hS8:(fun w':World=>w'.cell? ⟨mb,16,none⟩=some (.slice A s.r.br.length c)/\w'.cell? ⟨ca,co+10,none⟩=some (.string (ba t))) w8:=⟨(World.cell?_of_block hb2).trans hS7.1,(World.cell?_of_block hb3).trans hS7.2⟩;have c16:=hS8.1;have f16:w8.frozen? ⟨mb,16,none⟩=false:=(World.frozen?_of_block hb2).trans (m7.b.free 16)
 obtain ⟨m9,g9⟩:=m3.pushBr (v':=.slice (some ⟨g,0,none⟩) (s.r.br.length+1) cap) kg ho8 (fun g' hg'=>by
  have e:g=g':=by simpa [Value.ownBlock] using hg'
  subst e;rcases hor8 with q | q
  .exact .inl q
  .exact .inr (Nx ka.size q))
 refine hK.out _ _ (.inr hS8) ?_;clear hK K;have G9:Hid (aZ w0 mb sb db w s (w8.setCell ⟨mb,16,none⟩ (.slice (some ⟨g,0,none⟩) (s.r.br.length+1) cap)) ({ u with br:=u.br++[t] }:Ust).p):=hid ⟨_,HP.out _,m9,G0.out.trans g9⟩;clear m9 g9 ho8 hg8 hor8 kg m3 m7 ka BN hb2 hb3 hS hS7 HP G0;refine ag (i:=12) (by kernel_rfl) rfl (fun K hK=>?_);go_simp;refine hK.out _ _ (.inr hS8) ?_;clear hK K;refine ag (i:=13) (by kernel_rfl) rfl (fun K hK=>?_);go_simp;refine hK.out _ _ (.inr hS8) ?_;clear hK K;refine ag (i:=14) (by kernel_rfl) rfl (fun K hK=>?_);go_simp;refine hK.out _ _ (.inl rfl) ?_;clear hK K;refine ay (by kernel_rfl) ?_ _;go_wp2_with fail;go_end0;exact ⟨rfl,G9.out⟩
theorem write_f {t:ByteArray} {i:Nat} (h:Mac w0 w mb sb db s) (hi:i < s.r.fl.length) (hc:200000 < s.count+t.size+1) (hb:s.count+t.size+1<=1000000) :
  Calls Tryz.prog 116 #[.pointer (some ⟨mb,5,none⟩),.int .i64 i,.string t] w fun r w'=>r=gN 10 0/\Mac w0 w' mb sb db { s with count:=s.count+t.size+1 }/\Gr mb db w s.r w' s.r:=by
 obtain ⟨v,hv⟩:∃ v,s.r.fl[i]? = some v:=⟨_,Nv hi⟩;obtain ⟨g,c,hvf,hcell⟩:∃ g c,s.r.vf=.slice (some ⟨g,0,none⟩) s.r.fl.length c/\w.cell? ⟨g,i,none⟩=some v:=by
  rcases h.r.o3.2 with ⟨_,q⟩ | ⟨g,cap,cur,q1,_⟩
  .omega
  .refine ⟨g,cap,q1,?_⟩;have o:=h.r.o3;rw [q1] at o;rw [o.cellAt i (by omega),hv]
 have c6:=h.b.at_ 6 _ rfl;rw [hvf] at c6;have md:=h.aj (Kp.drew [] w);have H:=hid (add_f (w:=w.drew) (v:=v) (text:=t) (md.b.at_ 7 _ rfl) (md.b.free 7) hc hb);have M:=hid (md.set (s':={ s with count:=s.count+t.size+1 }) 7 (.int .i64 ((s.count+t.size+1:Nat):Int)) (by omega) rfl rfl);have G:Hid (Gr mb db w s.r (w.drew.setCell ⟨mb,7,none⟩ (.int .i64 ((s.count+t.size+1:Nat):Int))) s.r):=hid ((Gr.de (Kp.drew [] w) (fun _ e=>by cases e)).trans (Gr.set _ _ _ _));obtain ⟨n,hn⟩:∃ n,n=s.r.fl.length:=⟨_,rfl⟩;rw [<-hn] at c6 hi;clear hn md h hvf hv hc hb;go_enter Tryz.func116,Tryz.ntmps116
 go_wp2_with fail;go_region_dies
 all_goals
  refine H.out.mono ?_;rintro r w1 ⟨rfl,rfl⟩;exact ⟨rfl,rfl,M.out,G.out⟩
theorem fb_set (l:List (List UInt8)) (i:Nat) (t:List UInt8):l.set i ((l[i]?.getD [])++t++[10])=l.modify i (fun x=>x++t++[10]):=by
 apply List.ext_getElem?;intro j;rw [Pk];by_cases hj:i=j
 .subst hj;by_cases hi:i < l.length
  .rw [NK hi,Nv hi];simp
  .rw [Pg (by simp;omega),Pg (by omega)]
   rfl
 .rw [NM hj];simp [hj]
theorem yn {t:List UInt8} {i:Nat} (h:Mac w0 w mb sb db s) (hp:s.p=u.p) (hu:UOk u) (hi:i < u.fb.length) (ht:t.length<=20000) :
  Calls Tryz.prog 116 #[.pointer (some ⟨mb,5,none⟩),.int .i64 i,.string (ba t)] w (dB w0 mb sb db w s (u.write i t)):=by
 have hc:s.count=u.count:=congrArg Pst.count hp;have hf:s.r.fb=u.fb:=congrArg Pst.fb hp;have hl:i < s.r.fl.length:=by rw [<-h.r.fll,hf];exact hi
 have h1:=hu.ct;unfold Ust.write;by_cases hb:200000 < u.count+t.length+1
 .rw [Ny hb];refine (write_f h hl (by rw [hc,ax];exact hb) (by rw [hc,ax];omega)).mono ?_;rintro r w1 ⟨rfl,m1,g1⟩;refine ⟨rfl,_,?_,m1,g1⟩;show ({ s.p with count:=s.count+(ba t).size+1 }:Pst)=_;rw [hp,hc,ax]
  rfl
 .rw [Nr hb];obtain ⟨bs,hbs⟩:∃ bs,s.r.fb[i]? = some bs:=⟨_,Nv (by rw [hf];exact hi)⟩;have hbl:bs.length<=s.count:=by
   rw [hc];refine hu.fb bs ?_;rw [<-hf];exact NO hbs
  refine (write_v (text:=ba t) h (Nv hl) hbs (by rw [hc,ax];omega) hbl).mono ?_;rintro r w1 ⟨rfl,g⟩;refine ⟨rfl,g.lT ?_⟩;unfold Pst.write;rw [hp,ax,dW];show ({ u.p with count:=u.count+t.length+1,fb:=u.fb.set i ((u.fb[i]?.getD [])++t++[10]) }:Pst)=_;rw [fb_set]
  rfl
theorem ui {i:Nat} (h:Mac w0 w mb sb db s) (hc:Az w0 ca co cv) (h7:cv[7]? = some (.int .i64 i)) (hp:s.p=u.p) (hu:UOk u) (hi:i < u.fb.length) :
  Calls Tryz.prog 79 #[.pointer (some ⟨mb,0,none⟩),.pointer (some ⟨ca,co,none⟩)] w (dB w0 mb sb db w s (u.write i u.space)):=by
 have c9:=h.b.at_ 9 _ rfl;have e9:s.space=ba u.space:=congrArg Pst.space hp;rw [e9] at c9;have c7:=hc.now h h7;have l9:=hu.sp;have TE:=yn (t:=u.space) (h.aj (Kp.drew [] w)) hp hu hi (by omega);obtain ⟨R,hR⟩:∃ R,R=u.write i u.space:=⟨_,rfl⟩;rw [<-hR] at TE ⊢;have HT:=hid TE;clear TE hR
 cases R with
 | error q=>
  obtain ⟨E,u1⟩:=q;go_enter Tryz.func79,Tryz.ntmps79
  go_wp2_with fail;go_region_dies
  all_goals
   refine HT.out.mono ?_;rintro r w1 ⟨rfl,g1⟩;exact ⟨rfl,rfl,g1.pre (Kp.drew [] w)⟩
 | ok u1=>
  go_enter Tryz.func79,Tryz.ntmps79
  go_wp2_with fail;go_region_with (go_at_call 116;refine HT.out.mono ?_;rintro r w1 ⟨rfl,g1⟩)
  all_goals
   go_wp2_with fail;go_end0;exact ⟨rfl,g1.pre (Kp.drew [] w)⟩
theorem DR {t:List UInt8} (h:Mac w0 w mb sb db s) (hc:Az w0 ca co cv) (h10:cv[10]? = some (.string (ba t))) (ht:t.length<=2000) {A:Option Addr} {n c:Nat} (h0:cv[0]? = some (.slice A n c)) (hn:n≠2) (hn2:n<=2) (hp:s.p=u.p) (hu:UOk u) :
  Calls Tryz.prog 62 #[.pointer (some ⟨mb,0,none⟩),.pointer (some ⟨ca,co,none⟩)] w (dB w0 mb sb db w s (match u.tell t with
   | .error e=>.error e
   | .ok u1=>u1.aO)):=by
 have c10:=hc.now h h10;have c0:w.cell? ⟨ca,co,none⟩=some _:=hc.now h h0;have q0:((n:Int) == 2)=false:=by rw [Nz];omega
 have TE:∀ n,Calls Tryz.prog 112 #[.pointer (some ⟨mb,5,none⟩),.string (ba t)] (w.drewN n).drew (dB w0 mb sb db (w.drewN n).drew s (u.tell t)):=fun n=>iJ (h.aj ((Kp.drewN [] w n).trans (Kp.drew [] _))) hp hu (by omega);have HU:Hid (∀ u1,u.tell t=.ok u1->UOk u1):=hid (fun u1 q=>(hu.tell q).1);obtain ⟨R,hR⟩:∃ R,R=u.tell t:=⟨_,rfl⟩;rw [<-hR] at TE HU ⊢;have HT:=hid TE;have HH:=hid h;clear TE hR
 cases R with
 | error q=>
  obtain ⟨E,u1⟩:=q;clear h hp hu hc;go_enter Tryz.func62,Tryz.ntmps62
  go_wp2_with fail;go_quiet (fail);go_wp2_with fail;go_region_dies
  all_goals
   refine (HT.out _).mono ?_;rintro r w1 ⟨rfl,g1⟩;exact ⟨rfl,rfl,g1.pre ((Kp.drewN [] w _).trans (Kp.drew [] _))⟩
 | ok u1=>
  have HU1:=hid (HU.out u1 rfl);dsimp only;obtain ⟨R,hR⟩:∃ R,R=u1.aO:=⟨_,rfl⟩;rw [<-hR];have HRR:=hid hR;clear h hp hu hc HU hR;go_enter Tryz.func62,Tryz.ntmps62
  go_wp2_with fail;go_quiet (fail);go_wp2_with fail;go_region_with (go_at_call 112;refine (HT.out _).mono ?_;rintro r w1 ⟨rfl,g1⟩)
  go_wp2_with fail;obtain ⟨s1,e1,m1,gr1⟩:=g1;have DC:=eO m1 e1 HU1.out;rw [<-HRR.out] at DC;refine DC.mono ?_;intro r w2 hr;have G0:Gr mb db w s.r w1 s1.r:=(Gr.de ((Kp.drewN [] w _).trans (Kp.drew [] _)) (fun _ e=>by cases e)).trans gr1;replace hr:=dB.after G0 hr
  cases R with
  | error q=>
   obtain ⟨E,u2⟩:=q;obtain ⟨rfl,g2⟩:=hr;go_wp2_with fail;exact ⟨rfl,rfl,g2⟩
  | ok u2=>
   obtain ⟨rfl,g2⟩:=hr;go_wp2_with fail;go_end0;exact ⟨rfl,g2⟩
theorem DQ {t:List UInt8} (h:Mac w0 w mb sb db s) (hc:Az w0 ca co cv) (h10:cv[10]? = some (.string (ba t))) (ht:t.length<=2000) {A:Option Addr} {c:Nat} (h0:cv[0]? = some (.slice A 2 c)) (h2:cv[2]? = some (.bool true)) (hp:s.p=u.p) (hu:UOk u) :
  Calls Tryz.prog 62 #[.pointer (some ⟨mb,0,none⟩),.pointer (some ⟨ca,co,none⟩)] w (dB w0 mb sb db w s (match u.tell t with
   | .error e=>.error e
   | .ok u1=>u1.aO)):=by
 have c10:=hc.now h h10;have c0:w.cell? ⟨ca,co,none⟩=some _:=hc.now h h0;have c2:=hc.now h h2;have TE:∀ n,Calls Tryz.prog 112 #[.pointer (some ⟨mb,5,none⟩),.string (ba t)] (w.drewN n).drew (dB w0 mb sb db (w.drewN n).drew s (u.tell t)):=fun n=>iJ (h.aj ((Kp.drewN [] w n).trans (Kp.drew [] _))) hp hu (by omega);have HU:Hid (∀ u1,u.tell t=.ok u1->UOk u1):=hid (fun u1 q=>(hu.tell q).1);obtain ⟨R,hR⟩:∃ R,R=u.tell t:=⟨_,rfl⟩;rw [<-hR] at TE HU ⊢;have HT:=hid TE;have HH:=hid h;clear TE hR
 cases R with
 | error q=>
  obtain ⟨E,u1⟩:=q;clear h hp hu hc;go_enter Tryz.func62,Tryz.ntmps62
  go_wp2_with fail;go_quiet (fail);go_wp2_with fail;go_region_dies
  all_goals
   refine (HT.out _).mono ?_;rintro r w1 ⟨rfl,g1⟩;exact ⟨rfl,rfl,g1.pre ((Kp.drewN [] w _).trans (Kp.drew [] _))⟩
 | ok u1=>
  have HU1:=hid (HU.out u1 rfl);dsimp only;obtain ⟨R,hR⟩:∃ R,R=u1.aO:=⟨_,rfl⟩;rw [<-hR];have HRR:=hid hR;clear h hp hu hc HU hR;go_enter Tryz.func62,Tryz.ntmps62
  go_wp2_with fail;go_quiet (fail);go_wp2_with fail;go_region_with (go_at_call 112;refine (HT.out _).mono ?_;rintro r w1 ⟨rfl,g1⟩)
  go_wp2_with fail;obtain ⟨s1,e1,m1,gr1⟩:=g1;have DC:=eO m1 e1 HU1.out;rw [<-HRR.out] at DC;refine DC.mono ?_;intro r w2 hr;have G0:Gr mb db w s.r w1 s1.r:=(Gr.de ((Kp.drewN [] w _).trans (Kp.drew [] _)) (fun _ e=>by cases e)).trans gr1;replace hr:=dB.after G0 hr
  cases R with
  | error q=>
   obtain ⟨E,u2⟩:=q;obtain ⟨rfl,g2⟩:=hr;go_wp2_with fail;exact ⟨rfl,rfl,g2⟩
  | ok u2=>
   obtain ⟨rfl,g2⟩:=hr;go_wp2_with fail;go_end0;exact ⟨rfl,g2⟩
theorem DP {t:List UInt8} (h:Mac w0 w mb sb db s) (hc:Az w0 ca co cv) (h10:cv[10]? = some (.string (ba t))) (ht:t.length<=2000) {A:Option Addr} {c i:Nat} (h0:cv[0]? = some (.slice A 2 c)) (h2:cv[2]? = some (.bool false)) (h1:cv[1]? = some (.int .i64 i)) (hrg:u.rg[i]? = some false) (hp:s.p=u.p) (hu:UOk u) :
  Calls Tryz.prog 62 #[.pointer (some ⟨mb,0,none⟩),.pointer (some ⟨ca,co,none⟩)] w (dB w0 mb sb db w s (match u.tell t with
   | .error e=>.error e
   | .ok u1=>u1.aO)):=by
 have c10:=hc.now h h10;have c0:w.cell? ⟨ca,co,none⟩=some _:=hc.now h h0;have c2:=hc.now h h2;have c1:=hc.now h h1;have erg:s.r.rg=u.rg:=congrArg Pst.rg hp;obtain ⟨g,cap,hvr⟩:=fE h.r.o4 (by rw [erg];have:=(List.getElem?_eq_some_iff.1 hrg).1;omega);have hil:=(List.getElem?_eq_some_iff.1 hrg).1;have cg:w.cell? ⟨g,i,none⟩=some (.bool false):=by
  have o:=h.r.o4;rw [hvr] at o;rw [o.cellAt i (by rw [erg];omega),NY,erg,hrg]
  rfl
 have c11:=h.b.at_ 11 _ rfl;rw [hvr,erg] at c11;clear erg hvr;have TE:∀ n,Calls Tryz.prog 112 #[.pointer (some ⟨mb,5,none⟩),.string (ba t)] (w.drewN n).drew (dB w0 mb sb db (w.drewN n).drew s (u.tell t)):=fun n=>iJ (h.aj ((Kp.drewN [] w n).trans (Kp.drew [] _))) hp hu (by omega);have HU:Hid (∀ u1,u.tell t=.ok u1->UOk u1):=hid (fun u1 q=>(hu.tell q).1);obtain ⟨R,hR⟩:∃ R,R=u.tell t:=⟨_,rfl⟩;rw [<-hR] at TE HU ⊢;have HT:=hid TE;have HH:=hid h;clear TE hR
 cases R with
 | error q=>
  obtain ⟨E,u1⟩:=q;clear h hp hu hc;go_enter Tryz.func62,Tryz.ntmps62
  go_wp2_with fail;go_quiet (fail);go_wp2_with fail;go_region_dies
  all_goals
   refine (HT.out _).mono ?_;rintro r w1 ⟨rfl,g1⟩;exact ⟨rfl,rfl,g1.pre ((Kp.drewN [] w _).trans (Kp.drew [] _))⟩
 | ok u1=>
  have HU1:=hid (HU.out u1 rfl);dsimp only;obtain ⟨R,hR⟩:∃ R,R=u1.aO:=⟨_,rfl⟩;rw [<-hR];have HRR:=hid hR;clear h hp hu hc HU hR;go_enter Tryz.func62,Tryz.ntmps62
  go_wp2_with fail;go_quiet (fail);go_wp2_with fail;go_region_with (go_at_call 112;refine (HT.out _).mono ?_;rintro r w1 ⟨rfl,g1⟩)
  go_wp2_with fail;obtain ⟨s1,e1,m1,gr1⟩:=g1;have DC:=eO m1 e1 HU1.out;rw [<-HRR.out] at DC;refine DC.mono ?_;intro r w2 hr;have G0:Gr mb db w s.r w1 s1.r:=(Gr.de ((Kp.drewN [] w _).trans (Kp.drew [] _)) (fun _ e=>by cases e)).trans gr1;replace hr:=dB.after G0 hr
  cases R with
  | error q=>
   obtain ⟨E,u2⟩:=q;obtain ⟨rfl,g2⟩:=hr;go_wp2_with fail;exact ⟨rfl,rfl,g2⟩
  | ok u2=>
   obtain ⟨rfl,g2⟩:=hr;go_wp2_with fail;go_end0;exact ⟨rfl,g2⟩
theorem IM {t:List UInt8} (h:Mac w0 w mb sb db s) (hc:Az w0 ca co cv) (h10:cv[10]? = some (.string (ba t))) (ht:t.length<=2000) {A:Option Addr} {c i:Nat} (h0:cv[0]? = some (.slice A 2 c)) (h2:cv[2]? = some (.bool false)) (h1:cv[1]? = some (.int .i64 i)) (hrg:u.rg[i]? = some true) (hp:s.p=u.p) (hu:UOk u) :
  Calls Tryz.prog 62 #[.pointer (some ⟨mb,0,none⟩),.pointer (some ⟨ca,co,none⟩)] w (dB w0 mb sb db w s u.aO):=by
 have c10:=hc.now h h10;have c0:w.cell? ⟨ca,co,none⟩=some _:=hc.now h h0;have c2:=hc.now h h2;have c1:=hc.now h h1;have erg:s.r.rg=u.rg:=congrArg Pst.rg hp;obtain ⟨g,cap,hvr⟩:=fE h.r.o4 (by rw [erg];have:=(List.getElem?_eq_some_iff.1 hrg).1;omega);have hil:=(List.getElem?_eq_some_iff.1 hrg).1;have cg:w.cell? ⟨g,i,none⟩=some (.bool true):=by
  have o:=h.r.o4;rw [hvr] at o;rw [o.cellAt i (by rw [erg];omega),NY,erg,hrg]
  rfl
 have c11:=h.b.at_ 11 _ rfl;rw [hvr,erg] at c11;clear erg hvr;have HT:Hid (∀ w1,Kp [] w w1->Calls Tryz.prog 113 #[.pointer (some ⟨mb,0,none⟩)] w1 (dB w0 mb sb db w1 s u.aO)):=hid (fun w1 k1=>eO (h.aj k1) hp hu);obtain ⟨R,hR⟩:∃ R,R=u.aO:=⟨_,rfl⟩;rw [<-hR] at HT ⊢;clear hR h hp hu hc;go_enter Tryz.func62,Tryz.ntmps62
 go_wp2_with fail;go_quiet (fail);go_wp2_with fail;refine (HT.out _ (Kp.drewN [] w _)).mono ?_;intro r w2 hr;replace hr:=dB.pre (Kp.drewN [] w _) hr
 cases R with
 | error q=>
  obtain ⟨E,u1⟩:=q;obtain ⟨rfl,g1⟩:=hr;go_wp2_with fail;exact ⟨rfl,rfl,g1⟩
 | ok u1=>
  obtain ⟨rfl,g1⟩:=hr;go_wp2_with fail;go_end0;exact ⟨rfl,g1⟩
end
