import Derived.Test.YtnfglkdkmcocnaaGreatDoorR42
import Derived.Test.YtnfglkdkmcocnaaGreatDoorR45
import Derived.Test.YtnfglkdkmcocnaaGreatDoorR41
import Derived.Test.YtnfglkdkmcocnaaGreatDoorR40
set_option maxRecDepth 100000
set_option maxHeartbeats 16000000
set_option linter.all false
namespace Go.Proofs.YtnfglkdkmcocnaaGreatDoor
open Go.RowKit
section
variable {src text:ByteArray} {w:World}
def MatR (text:ByteArray) (w:World) (r:Except (Nat×Nat) (Nat×Pn)) (e:Ending) (w':World):Prop:=match r with
 | .error (E,k)=>e=.returned (.tuple #[.slice none 0 0,.int .i64 (E:Nat),.int .i64 (k:Nat)])∧Kp [] w w'
 | .ok (G,x)=>match fnd text x with
  | none=>e=.returned (.tuple #[.slice none 0 0,.int .i64 0,.int .i64 0])∧Kp [] w w'
  | some (a,z)=>∃ q c,e=.returned (.tuple #[.slice (some ⟨q,0,none⟩) (2+2 * G) c,.int .i64 0,.int .i64 0])∧w'.ownsRow w.heap.size 3 1 (.slice (some ⟨q,0,none⟩) (2+2 * G) c) (2+2 * G) (outC a z G)∧Kp [] w w'
theorem MatR.of {G:Nat} {x:Pn} {w1 w':World} {lv:Value} (k1:Kp [] w w1) (h:FndO w1 G (fnd text x) (.returned lv) w'):MatR text w (.ok (G,x)) (.returned (.tuple #[lv,.int .i64 0,.int .i64 0])) w':=by
 unfold MatR
 unfold FndO at h
 dsimp only
 cases hf:fnd text x with
 | none=>
  rw [hf] at h
  obtain ⟨e,k⟩:=h
  injection e with e
  exact ⟨by rw [e],k1.trans k⟩
 | some p=>
  obtain ⟨a,z⟩:=p
  rw [hf] at h
  obtain ⟨q,c,e,ho,k⟩:=h
  injection e with e
  refine ⟨q,c,by rw [e],?_,k1.trans k⟩
  have hs:=k1.size
  refine ⟨ho.1,?_⟩
  rcases ho.2 with y | ⟨g,cap,cur,y1,y2,y3⟩
  ·exact .inl y
  ·exact .inr ⟨g,cap,cur,y1,by omega,y3⟩
theorem readP_facts {G:Nat} {x:Pn} (hr:readP src 0=.ok (G,x)):G≤9∧x.Ok∧x.raw≤300∧x.Gk∧¬ x.gs 0:=by
 unfold readP at hr
 split at hr
 ·cases hr
 ·cases hb:brsP src (4 * (src.size - 0)+4) 0 0 with
  | error pl=>rw [hb] at hr;cases hr
  | ok p=>
   obtain ⟨l,g,y⟩:=p
   rw [hb] at hr
   dsimp only at hr
   split at hr
   ·cases hr
   ·split at hr
    ·cases hr
    ·rename_i h300
     cases hr
     obtain ⟨hok,_,hg⟩:=(nodes_ok src _).2.2.2.2 0 0 l G x (by omega) hb
     have hq:=(gk_all src _).2.2.2.2 0 0 l G x hb
     have hs:=hok.sz
     exact ⟨hg,hok,by omega,hq.1,fun h0=>by have:=hq.2.2 0 h0;omega⟩
def LongR (src text:ByteArray):Prop:=∀ (B b q k G i:Nat) (v:Value) (N:List Nw) (x:Pn) (w1:World),Ps w1 B b q src k G (-1) v N→Rp N i x→i+1=N.length→N.length≤1000→x.Ok→x.raw≤300→G≤9 →
 (∀ j,j < N.length→∃ y,Rp N j y∧y.Ok∧∀ p,N[j]? = some p→p.1.kids.length≤1000∧∀ c∈p.1.kids,c < j)→x.Gk→¬ x.gs 0 →
 Calls Tryz.prog 37 #[.pointer (some ⟨q,0,none⟩)] w1 fun e w2=>∃ cv,e=.returned cv∧Kp [] w1 w2 ∧
  ∀ w3,Kp [] w2 w3→Calls Tryz.prog 38 #[cv,.string text,.int .i64 0,.int .i64 (G:Nat)] w3 fun e w4=>∃ lv,e=.returned lv∧FndO w3 G (fnd text x) (.returned lv) w4
theorem matchR_any (hs:src.size < 4611686018427387904) (ht:text.size < 4611686018427387904) (hL:80 < text.size→text.size≤1000→LongR src text) (w:World) :
  Calls Tryz.prog 20 #[.string src,.string text] w (MatR text w (matE src text)):=by
 by_cases h1:100 < src.size
 ·have em:matE src text=.error (1,0):=by
   unfold matE
   split
   ·rfl
   ·unfold readP;rw [if_pos (by omega)]
  have HM:=hid em
  have q1:(100:Int) < (src.size:Int):=by omega
  clear em
  go_enter Tryz.func20,Tryz.ntmps20
  go_wp2_with fail
  go_ret3
  rw [HM.out]
  exact ⟨rfl,Kp.refl _ _⟩
 ·have q1:decide ((100:Int) < (src.size:Int))=false:=by simp;omega
  have q1b:¬ (100:Int) < (src.size:Int):=by omega
  by_cases h2:1000 < text.size
  ·have em:matE src text=.error (1,0):=by unfold matE;rw [if_pos h2]
   have HM:=hid em
   have q2:(1000:Int) < (text.size:Int):=by omega
   clear em
   go_enter Tryz.func20,Tryz.ntmps20
   go_wp2_with fail
   go_ret3
   rw [HM.out]
   exact ⟨rfl,Kp.refl _ _⟩
  ·have q2:¬ (1000:Int) < (text.size:Int):=by omega
   have em:matE src text=readP src 0:=by unfold matE;rw [if_neg h2]
   have HM:=hid em
   have HLL:=hid hL
   clear em hL
   go_enter Tryz.func20,Tryz.ntmps20
   go_wp2_with fail
   refine (parse_any src w (by omega)).mono ?_
   cases hr:readP src 0 with
   | error p=>
    obtain ⟨E,pl⟩:=p
    rintro e w1 ⟨rfl,k1⟩
    have hE:E=1∨E=2∨E=3:=by
     unfold readP at hr
     repeat' split at hr
     all_goals first | (cases hr;omega) | (cases hr;done)
    have q3:((E:Int) != 0)=true:=by simp;omega
    have HK:=hid k1
    have HR:=hid hr
    clear k1 hr
    go_wp2_with fail
    go_ret3
    rw [HM.out,HR.out]
    exact ⟨rfl,HK.out⟩
   | ok p=>
    obtain ⟨G,x⟩:=p
    rintro e w1 ⟨B,b,q,k,v,N,i,rfl,hP,hRp,hi,hN,k1,hall⟩
    have q1c:=hP.q1
    have HR:=hid (And.intro hr (And.intro hP (And.intro hRp (And.intro hi (And.intro hN (And.intro k1 hall))))))
    have hG:G≤9∧x.Ok∧x.raw≤300∧x.Gk∧¬ x.gs 0:=readP_facts hr
    clear hP hRp hi k1 hall hr
    by_cases h80:80 < text.size
    ·have q4:(80:Int) < (text.size:Int):=by omega
     obtain ⟨hr,hP,hRp,hi,hN,k1,hall⟩:=HR.out
     have HC:=hid (HLL.out h80 (by omega) B b q k G i v N x w1 hP hRp hi hN hG.2.1 hG.2.2.1 hG.1 hall hG.2.2.2.1 hG.2.2.2.2)
     clear hr hP hRp hi k1 hall
     go_wp2_with fail
     refine HC.out.mono ?_
     rintro e w2 ⟨cv,rfl,k2,hS⟩
     have q1d:=(k2.cell (World.block_lt_of_cell? _ _ q1c) (by simp)).trans q1c
     have HS:=hid (hS w2 (Kp.refl _ _))
     have HK2:=hid k2
     clear hS k2
     go_wp2_with fail
     refine HS.out.mono ?_
     rintro e w4 ⟨lv,rfl,h4⟩
     have H4:=hid h4
     clear h4
     go_wp2_with fail
     go_ret3
     rw [HM.out,HR.out.1]
     exact MatR.of (HR.out.2.2.2.2.2.1.trans HK2.out) H4.out
    ·have q4:¬ (80:Int) < (text.size:Int):=by omega
     obtain ⟨hr,hP,hRp,hi,hN,k1,hall⟩:=HR.out
     have hl:N.length - 1=i:=by omega
     have HW:=hid (ways_any (text:=text) (x:=x) hP hN (by omega) (by omega) hall (by rw [hl];exact hRp))
     clear hr hP hRp hi k1 hall hl
     go_wp2_with fail
     refine HW.out.mono ?_
     rintro e w2 ⟨tv,rfl,t2,k2⟩
     have q1d:=(k2.cell (World.block_lt_of_cell? _ _ q1c) (by simp)).trans q1c
     have HF:=hid (findR_any (G:=G) t2 (Nat.le_refl _) (by omega) (fun a ha=>by have:=(Mng.vt text x).len ha;omega) hG.1)
     have HK2:=hid k2
     clear t2 k2
     go_wp2_with fail
     refine HF.out.mono ?_
     intro e w4 h4
     obtain ⟨lv,rfl⟩:∃ lv,e=.returned lv:=by
      unfold FndO at h4
      split at h4
      ·exact ⟨_,h4.1⟩
      ·obtain ⟨_,_,h,_⟩:=h4;exact ⟨_,h⟩
     have H4:=hid h4
     clear h4
     go_wp2_with fail
     go_ret3
     rw [HM.out,HR.out.1]
     exact MatR.of (HR.out.2.2.2.2.2.1.trans HK2.out) H4.out
end
section
variable {w w' w0 w1:World} {B b q:Nat} {src:ByteArray} {k g:Nat} {bad:Int} {v v' v1:Value} {N:List Nw}
theorem fmL_get:∀ (l:List Pn) (t:Nat),(fmL l)[t]? = l[t]?.map Pn.fm
 | [],t=>by simp [fmL]
 | x::l,0=>by simp [fmL]
 | x::l,t+1=>by
  show (fmL l)[t]? = _
  rw [fmL_get l t];rfl
theorem steps_any {i:Nat} {y:Pn} (hP:Ps w0 B b q src k g bad v N) (hN:N.length≤1000) (hkl:∀ p∈N,p.1.kids.length≤1000) (hr:Rp N i y):y.Ok→StC w0 q i y.fm:=by
 induction hr with
 | @one i p m hi hk hz hm=>
  intro hok
  refine ⟨fun n d=>(hok.wfm n d).1,fun w1 ov ss d k0 o hl hd=>?_⟩
  have hl:ss.length+1≤100000:=hl
  have hd:d+1≤100000:=hd
  refine steps_leaf hP k0 hi hN o (by omega) (by omega) (.inl hk) (SvL.one ?_)
  exact ⟨hk,hm,rfl,rfl⟩
 | @edge i p e hi he hk hz=>
  intro hok
  refine ⟨fun n d=>(hok.wfm n d).1,fun w1 ov ss d k0 o hl hd=>?_⟩
  have hl:ss.length+1≤100000:=hl
  have hd:d+1≤100000:=hd
  refine steps_leaf hP k0 hi hN o (by omega) (by omega) (by omega) (SvL.one ?_)
  rcases he with rfl | rfl
  ·exact ⟨hk,rfl,rfl⟩
  ·exact ⟨hk,rfl,rfl⟩
 | @group i j p gn x hi hk hg hs hj hz h ih=>
  intro hok
  have hx:x.Ok:=by cases hok;assumption
  have h9:gn≤9:=by cases hok;assumption
  refine ⟨fun n d=>(hok.wfm n d).1,fun w1 ov ss d k0 o hl hd=>?_⟩
  have hl:ss.length+(x.fm.1+2)≤100000:=hl
  have hd:d+(x.fm.1+2)≤100000:=hd
  exact steps_group hP k0 hi hN o hk hg h9 hs (ih hx) (by omega) (by omega)
 | @rep i j p x a bo hi hk ha hb hs hj hz h ih=>
  intro hok
  have hx:x.Ok:=by cases hok;assumption
  have hB:okB a bo:=by cases hok;assumption
  refine ⟨fun n d=>(hok.wfm n d).1,fun w1 ov ss d k0 o hl hd=>?_⟩
  cases bo with
  | none=>exact steps_star hP k0 hi hN o hk ha hB hb hl hd hs (ih hx)
  | some m=>exact steps_upto hP k0 hi hN o hk ha (Nat.le_trans hB.1 hB.2) hb hB.1 hB.2 hl hd hs (ih hx)
 | @row i p xs hi hk hl hj hz h ih=>
  intro hok
  have hx:∀ x∈xs,x.Ok:=by cases hok;assumption
  refine ⟨fun n d=>(hok.wfm n d).1,fun w1 ov ss d k0 o hl2 hd=>?_⟩
  have hlen:p.1.kids.length=(fmL xs).length:=by rw [fmL_map,List.length_map];exact hl
  exact steps_row hP k0 hi hN o hk hlen (by rw [←hlen];exact hkl p (List.mem_of_getElem? hi)) (fun t j f hj hf=>by
   rw [fmL_get] at hf
   obtain ⟨x,e1,rfl⟩:=Option.map_eq_some_iff.1 hf
   exact ih t j x hj e1 (hx x (List.mem_of_getElem? e1))) hl2 hd
 | @brs1 i x _ ih=>
  intro hok
  have hx:x.Ok:=by cases hok with | brs _ h=>exact h _ (by simp)
  have hs:=ih hx
  have e1:(Pn.brs [x]).fm.1=x.fm.1:=by
   show fLen (fmL [x])+2 * ((fmL [x]).length - 1)=_
   simp [fmL,fLen]
  have e2:∀ n d,(Pn.brs [x]).fm.2 n d=x.fm.2 n d:=fun n d=>rfl
  refine ⟨fun n d=>(hok.wfm n d).1,fun w1 ov ss d k0 o hl hd=>?_⟩
  rw [e1] at hl hd
  rw [e2]
  exact hs.2 w1 ov ss d k0 o hl hd
 | @brs i p xs hi hk h2 hl hj hz h ih=>
  intro hok
  have hx:∀ x∈xs,x.Ok:=by cases hok;assumption
  refine ⟨fun n d=>(hok.wfm n d).1,fun w1 ov ss d k0 o hl2 hd=>?_⟩
  have hlen:p.1.kids.length=(fmL xs).length:=by rw [fmL_map,List.length_map];exact hl
  have hd:d+(fLen (fmL xs)+2 * ((fmL xs).length - 1))≤100000:=hd
  exact steps_brs hP k0 hi hN o hk hlen (by omega) (by rw [←hlen];exact hkl p (List.mem_of_getElem? hi)) (fun t j f hj hf=>by
   rw [fmL_get] at hf
   obtain ⟨x,e1,rfl⟩:=Option.map_eq_some_iff.1 hf
   exact ih t j x hj e1 (hx x (List.mem_of_getElem? e1))) hl2 (by omega)
theorem code_any {i:Nat} {x:Pn} (hP:Ps w B b q src k g bad v N) (hN:N.length≤1000) (hkl:∀ p∈N,p.1.kids.length≤1000) (hr:Rp N i x) (hi:i+1=N.length) (hok:x.Ok) (h300:x.raw≤300) :
  Calls Tryz.prog 37 #[.pointer (some ⟨q,0,none⟩)] w fun e w'=>∃ gb c ss,e=.returned (.slice (some ⟨gb,0,none⟩) ss.length c)∧Os w' w.heap.size (.slice (some ⟨gb,0,none⟩) ss.length c) ss∧SvL ss (codeD x)∧Kp [] w w':=by
 have hS:=(steps_any hP hN hkl hr hok).2 w (.slice none 0 0) [] 0 (Kp.refl _ _) (World.ownsRow_nil _ _ _ _)
 have hfm:=hok.fm_le
 have HS:=hid (hS (by simp;omega) (by omega))
 obtain ⟨A,c0,hvf,hcg0,_⟩:=own_form hP.own
 have q0:=hP.q0
 rw [hvf] at q0
 have hd1:IntKind.i64.wrap ((N.length:Int) - 1)=(i:Int):=by rw [IntKind.wrap_i64];omega
 clear hS hvf hP hr hcg0
 go_enter Tryz.func37,Tryz.ntmps37
 go_wp2_with fail
 refine HS.out.mono ?_
 rintro e w2 ⟨ov,ss,rfl,ho,hs,kp,_⟩
 obtain ⟨a2,c2,hf⟩:=ho.form
 subst hf
 have kp:Kp [] w w2:=kp
 have G2:Hid (Gs w w.heap.size (.slice none 0 0) w2 (.slice a2 ([]++ss).length c2) ([]++ss)):=hid ⟨ho,kp,fun g hg=>.inr (ho.lt g hg).1,Nat.le_refl _⟩
 have HZ:=hid hs
 have HB:Hid (Tryz.prog.built 186 [(0,.int .i64 13)]=some (svC ⟨13,noBytes,0,0,0,0⟩).toArray):=hid built_done
 have hlen:([]++ss:List Sv).length≤200000:=by rw [List.nil_append,hs.len,(hok.wfm _ _).1];omega
 clear ho hs kp
 go_wp2_with (show wpList _ _ _ (⟨_,.build 186 _,_,_,_,_⟩::_) _ _;refine wpList_push rfl rfl rfl [(0,.const (.int .i64 13))] rfl (.tmp 13) rfl (.tmp 12) (.tmp 14) rfl _ ⟨13,noBytes,0,0,0,0⟩ rfl HB.out (fun _=>rfl) (fun _ _=>rfl) (fun _ _=>rfl) G2.out hlen ?_)
 intro gb cap s2 wy cc hs2 G3
 have H3:=hid (And.intro hs2 G3)
 clear hs2 G3
 go_wp2_with fail
 go_ret
 obtain ⟨hs2,G3⟩:=H3.out
 have hcd:SvL s2 (codeD x):=by
  rw [hs2]
  exact HZ.out.app (SvL.one ⟨rfl,rfl⟩)
 exact ⟨gb,cap,s2,rfl,G3.os,hcd,G3.kp⟩
end
def jbC:Jb→List Value
 | .go pc tk pl=>[.int .i64 (pc:Nat),.int .i64 (tk:Nat),.int .i64 (pl:Nat),.int .i64 0,.int .i64 0]
 | .back sl old=>[.int .i64 0,.int .i64 0,.int .i64 0,.int .i64 (sl:Nat),.int .i64 old]
theorem jbC_len (j:Jb):(jbC j).length=5:=by cases j <;> rfl
theorem jbC_one (j:Jb):∀ u∈jbC j,u.oneCell'=true:=by
 cases j <;> (intro u hu;simp only [jbC,List.mem_cons,List.not_mem_nil,or_false] at hu;rcases hu with rfl | rfl | rfl | rfl | rfl <;> rfl)
def flatJ (l:List Jb):List Value:=l.flatMap jbC
theorem flatJ_snoc (l:List Jb) (p:Jb):flatJ (l++[p])=flatJ l++jbC p:=by simp [flatJ]
theorem flatJ_len (l:List Jb):(flatJ l).length=l.length * 5:=by
 induction l with
 | nil=>rfl
 | cons p l ih=>
  show (jbC p++flatJ l).length=(l.length+1) * 5
  rw [List.length_append,ih,jbC_len];omega
def snC (T:Nat) (f:Nat→Bool):List Value:=(List.range T).map fun i=>.bool (f i)
theorem snC_len (T:Nat) (f:Nat→Bool):(snC T f).length=T:=by simp [snC]
theorem snC_at {T i:Nat} (f:Nat→Bool) (h:i < T):(snC T f)[i]? = some (.bool (f i)):=by
 unfold snC;rw [List.getElem?_map,List.getElem?_range h];rfl
theorem snC_set {T i:Nat} (f:Nat→Bool) (h:i < T):(snC T f).set i (.bool true)=snC T (more f i):=by
 apply List.ext_getElem?
 intro j
 rw [List.getElem?_set,snC_len]
 by_cases hj:j < T
 ·rw [snC_at _ hj,snC_at _ hj]
  by_cases e:i=j
  ·subst e;rw [if_pos rfl,if_pos h];simp [more]
  ·have:(j == i)=false:=by rw [beq_eq_false_iff_ne];omega
   rw [if_neg e];simp [more,this]
 ·have e1:(snC T f)[j]? = none:=List.getElem?_eq_none (by rw [snC_len];omega)
  have e2:(snC T (more f i))[j]? = none:=List.getElem?_eq_none (by rw [snC_len];omega)
  rw [if_neg (by omega),e1,e2]
def mkC (m:Zt):List Value:=(List.range 20).map fun i=>.int .i64 (if i < 2 then -1 else m i)
theorem mkC_len (m:Zt):(mkC m).length=20:=by simp [mkC]
theorem mkC_at {i:Nat} (m:Zt) (h:i < 20) (h2:2≤i):(mkC m)[i]? = some (.int .i64 (m i)):=by
 unfold mkC;rw [List.getElem?_map,List.getElem?_range h];simp;omega
theorem mkC_set {i:Nat} (m:Zt) (v:Int) (h:i < 20) (h2:2≤i):(mkC m).set i (.int .i64 v)=mkC (nu m i v):=by
 apply List.ext_getElem?
 intro j
 rw [List.getElem?_set,mkC_len]
 by_cases hj:j < 20
 ·unfold mkC
  rw [List.getElem?_map,List.getElem?_map,List.getElem?_range hj]
  by_cases e:i=j
  ·subst e;rw [if_pos rfl,if_pos h];simp [nu];omega
  ·rw [if_neg e]
   have:nu m i v j=m j:=by unfold nu;rw [if_neg (by omega)]
   simp [this]
 ·have e1:(mkC m)[j]? = none:=List.getElem?_eq_none (by rw [mkC_len];omega)
  have e2:(mkC (nu m i v))[j]? = none:=List.getElem?_eq_none (by rw [mkC_len];omega)
  rw [if_neg (by omega),e1,e2]
def bsC (G:Nat):Option Zt→List Value
 | none=>[]
 | some z=>.int .i64 (z 0)::.int .i64 (z 1)::(List.range (2 * G)).map fun i=>.int .i64 (z (2+i))
theorem bsC_len (G:Nat) (z:Zt):(bsC G (some z)).length=2+2 * G:=by simp [bsC];omega
theorem outC_bs {a:Nat} {z:Nat×Zt} {y:Zt} (h0:y 0=a) (h1:y 1=z.1) (h2:∀ i,2≤i→y i=z.2 i):∀ G,outC a z G=bsC G (some y)
 | 0=>by simp [outC,bsC,h0,h1]
 | G+1=>by
  have ih:=outC_bs h0 h1 h2 G
  have e:bsC (G+1) (some y)=bsC G (some y)++[.int .i64 (y (2+2 * G)),.int .i64 (y (2+(2 * G+1)))]:=by
   simp [bsC,show 2 * (G+1)=2 * G+1+1 by omega,List.range_succ]
  rw [outC_step,ih,e,h2 _ (by omega),h2 _ (by omega),show 2+2 * G=2 * (G+1) by omega,show 2+(2 * G+1)=2 * (G+1)+1 by omega]
def snW (w:World) (sb:Nat):Nat→Bool:=fun x=>match w.cell? ⟨sb,x,none⟩ with
 | some (.bool b)=>b
 | _=>false
theorem uns_congr {f g:Nat→Bool}:∀ N,(∀ i,i < N→f i=g i)→uns f 0 N=uns g 0 N
 | 0,_=>rfl
 | k+1,h=>by rw [uns,uns,uns_congr k fun i hi=>h i (by omega),Nat.zero_add,h k (by omega)]
def lenV:Value→Nat
 | .slice _ n _=>n
 | _=>0
theorem Tryz.szJob:(Tryz.prog.info? 188).map (·.size)=some 5:=by kernel_rfl
theorem job_parts:∃ i z,Tryz.prog.info? 188=some i∧i.zero=some z∧i.size=5∧i.bytes=40∧z.cells.size=5:=by
 have h:(Tryz.prog.info? 188).map (fun i=>(i.size,i.bytes,i.zero.map (·.cells.size)))=some (5,40,some 5):=by kernel_rfl
 cases e:Tryz.prog.info? 188 with
 | none=>rw [e] at h;cases h
 | some i=>
  rw [e] at h
  simp only [Option.map_some,Option.some.injEq,Prod.mk.injEq] at h
  obtain ⟨h1,h2,h3⟩:=h
  cases ez:i.zero with
  | none=>rw [ez] at h3;cases h3
  | some z=>
   rw [ez] at h3
   exact ⟨i,z,rfl,ez,h1,h2,Option.some.inj h3⟩
theorem built_go (x t p:Int):Tryz.prog.built 188 [(0,.int .i64 x),(1,.int .i64 t),(2,.int .i64 p)]=some [.int .i64 x,.int .i64 t,.int .i64 p,.int .i64 0,.int .i64 0].toArray:=by kernel_rfl
theorem built_back (n o:Int):Tryz.prog.built 188 [(3,.int .i64 n),(4,.int .i64 o)]=some [.int .i64 0,.int .i64 0,.int .i64 0,.int .i64 n,.int .i64 o].toArray:=by kernel_rfl
theorem built_start (p:Int):Tryz.prog.built 188 [(2,.int .i64 p)]=some [.int .i64 0,.int .i64 0,.int .i64 p,.int .i64 0,.int .i64 0].toArray:=by kernel_rfl
theorem step_bld {P:Program} {ops:Array Oper} {o:Oper} {a:Act} {w:World} {K:Act→World→Prop} {Q:Exit→Act→World→Prop} {E:Prop} (hg:o.guard=none) (t:TypeId) (xs:List (Nat×Operand)) (ho:o.op=.build t xs.toArray) (vs:List (Nat×Value)) (cells:Array Value) (hv:(xs.map fun p=>(p.1,a.eval p.2))=vs) (hb:P.built t vs=some cells)
  (h:K (a.put o.dst (.agg cells)) w):if Region.wanted o (yielded ops a.tmps)=true then Oper.wp P o a w K Q else E:=by
 have hw:Region.wanted o (yielded ops a.tmps)=true:=by simp [Region.wanted,hg]
 rw [if_pos hw]
 have e:P.built t (xs.toArray.map fun (i,x)=>(i,a.eval x)).toList=some cells:=by rw [List.map_toArray,←hb,←hv]
 refine wp_build t xs.toArray ho (by rw [e];rfl) ?_
 rw [e];exact h
structure Smx (w0 w:World) (sb mb T:Nat) (jv bv:Value) (bc:List Value) (s:Ds):Prop where
 kp:Kp [] w0 w
 sn:Bl w sb (snC T s.sn)
 mkv:Bl w mb (mkC s.mks)
 jb:w.ownsRow w0.heap.size 188 5 jv s.jobs.length (flatJ s.jobs)
 bs:w.ownsRow w0.heap.size 3 1 bv bc.length bc
 slo:w0.heap.size≤sb
 mlo:w0.heap.size≤mb
 ne:sb≠mb
 jx:∀ g,jv.ownBlock=some g→g≠sb∧g≠mb∧bv.ownBlock≠some g
 bx:∀ g,bv.ownBlock=some g→g≠sb∧g≠mb
section
variable {w0 w w' wx wy:World} {sb mb T:Nat} {jv bv:Value} {bc:List Value} {s:Ds}
theorem Smx.keep (h:Smx w0 w sb mb T jv bv bc s) (k:Kp [] w w'):Smx w0 w' sb mb T jv bv bc s:=
 ⟨h.kp.trans k,h.sn.keep k (by simp),h.mkv.keep k (by simp),own_kp h.jb k (by simp),own_kp h.bs k (by simp),h.slo,h.mlo,h.ne,h.jx,h.bx⟩
theorem Smx.uns (h:Smx w0 w sb mb T jv bv bc s):Go.Proofs.YtnfglkdkmcocnaaGreatDoor.uns (snW w sb) 0 T=Go.Proofs.YtnfglkdkmcocnaaGreatDoor.uns s.sn 0 T:=uns_congr T fun i hi=>by
 unfold snW;rw [h.sn.at_ i _ (snC_at s.sn hi)]
theorem Smx.see {i:Nat} (h:Smx w0 w sb mb T jv bv bc s) (hi:i < T):Smx w0 (w.setCell ⟨sb,i,none⟩ (.bool true)) sb mb T jv bv bc { s with sn:=more s.sn i }:=by
 have k:Kp [sb] w (w.setCell ⟨sb,i,none⟩ (.bool true)):=Kp.setCell _ _ (by simp)
 refine ⟨h.kp.pass k fun x hx=>.inr (by rw [List.mem_singleton.1 hx];exact h.slo),?_,h.mkv.keep k (by simpa using h.ne.symm),own_kp h.jb k fun g hg hm=>(h.jx g hg).1 (List.mem_singleton.1 hm),own_kp h.bs k fun g hg hm=>(h.bx g hg).1 (List.mem_singleton.1 hm),h.slo,h.mlo,h.ne,h.jx,h.bx⟩
 have:=h.sn.set i (.bool true) (by rw [snC_len];exact hi)
 rw [snC_set _ hi] at this;exact this
theorem Smx.mark {i:Nat} {v:Int} (h:Smx w0 w sb mb T jv bv bc s) (h2:2≤i) (hi:i < 20):Smx w0 (w.setCell ⟨mb,i,none⟩ (.int .i64 v)) sb mb T jv bv bc { s with mks:=nu s.mks i v }:=by
 have k:Kp [mb] w (w.setCell ⟨mb,i,none⟩ (.int .i64 v)):=Kp.setCell _ _ (by simp)
 refine ⟨h.kp.pass k fun x hx=>.inr (by rw [List.mem_singleton.1 hx];exact h.mlo),h.sn.keep k (by simpa using h.ne),?_,own_kp h.jb k fun g hg hm=>(h.jx g hg).2.1 (List.mem_singleton.1 hm),own_kp h.bs k fun g hg hm=>(h.bx g hg).2 (List.mem_singleton.1 hm),h.slo,h.mlo,h.ne,h.jx,h.bx⟩
 have:=h.mkv.set i (.int .i64 v) (by rw [mkC_len];exact hi)
 rw [mkC_set _ _ hi h2] at this;exact this
theorem Smx.form (h:Smx w0 w sb mb T jv bv bc s):∃ a c,jv=.slice a s.jobs.length c:=by
 rcases h.jb.2 with ⟨q1,q2⟩ | ⟨gb,c,cur,q1,_⟩
 ·exact ⟨none,0,by rw [q1,q2]⟩
 ·exact ⟨_,c,q1⟩
theorem Smx.last {l:List Jb} {x:Jb} (h:Smx w0 w sb mb T jv bv bc s) (e:s.jobs=l++[x]):∃ g c,jv=.slice (some ⟨g,0,none⟩) (l.length+1) c∧l.length+1≤c∧w.rangeAt g (l.length * 5) (jbC x) ∧
  Smx w0 w sb mb T (.slice (some ⟨g,0,none⟩) l.length c) bv bc { s with jobs:=l }:=by
 have hj:=h.jb
 rw [e,flatJ_snoc,List.length_append] at hj
 have hj:w.ownsRow w0.heap.size 188 5 jv (l.length+1) (flatJ l++jbC x):=hj
 obtain ⟨g,c,hv,hc⟩:∃ g c,jv=.slice (some ⟨g,0,none⟩) (l.length+1) c∧l.length+1≤c:=by
  rcases hj.2 with ⟨_,q2⟩ | ⟨gb,c,cur,q1,_,_,q4,_⟩
  ·omega
  ·exact ⟨gb,c,q1,q4⟩
 subst hv
 refine ⟨g,c,rfl,hc,fun j u hu=>?_,h.kp,h.sn,h.mkv,own_prefix hj (flatJ_len l),h.bs,h.slo,h.mlo,h.ne,h.jx,h.bx⟩
 have:=hj.cells (g:=g) rfl (l.length * 5+j) u (by rw [List.getElem?_append_right (by rw [flatJ_len];omega),flatJ_len,Nat.add_sub_cancel_left];exact hu)
 rwa [Addr.add_mid,Nat.zero_add] at this
theorem Smx.best (h:Smx w0 w sb mb T jv bv bc s):Smx w0 w sb mb T jv (.slice none 0 0) [] s:=
 ⟨h.kp,h.sn,h.mkv,h.jb,World.ownsRow_nil _ _ _ _,h.slo,h.mlo,h.ne,fun g hg=>⟨(h.jx g hg).1,(h.jx g hg).2.1,fun e=>by cases e⟩,fun g hg=>by cases hg⟩
theorem Smx.bt {b:Option Zt} (h:Smx w0 w sb mb T jv bv bc s):Smx w0 w sb mb T jv bv bc { s with bt:=b }:=⟨h.kp,h.sn,h.mkv,h.jb,h.bs,h.slo,h.mlo,h.ne,h.jx,h.bx⟩
theorem Smx.push {wa:World} {j:Jb} {gb cap:Nat} (h:Smx w0 wx sb mb T jv bv bc s) (ka:Kp [] wx wa) (ho:wy.ownsRow w0.heap.size 188 5 (.slice (some ⟨gb,0,none⟩) (s.jobs.length+1) cap) (s.jobs.length+1) (flatJ s.jobs++jbC j)) (hg:wa.grownBy wy jv.ownBlock) (hor:jv.ownBlock=some gb∨wa.heap.size≤gb) :
  Smx w0 wy sb mb T (.slice (some ⟨gb,0,none⟩) (s.jobs.length+1) cap) bv bc { s with jobs:=s.jobs++[j] }:=by
 have ha:=h.keep ka
 have kg:=kp_grownR (S:=jv.ownBlock.toList) hg (by simp)
 have hmem:∀ x∈jv.ownBlock.toList,jv.ownBlock=some x:=fun x hx=>by simpa using hx
 refine ⟨ha.kp.pass kg fun x hx=>.inr (h.jb.lt x (hmem x hx)).1,ha.sn.keep kg fun hm=>(h.jx _ (hmem _ hm)).1 rfl,ha.mkv.keep kg fun hm=>(h.jx _ (hmem _ hm)).2.1 rfl,?_,own_kp ha.bs kg fun g hg hm=>(h.jx g (hmem _ hm)).2.2 hg,h.slo,h.mlo,h.ne,fun g hg=>?_,h.bx⟩
 ·show wy.ownsRow _ _ _ _ (s.jobs++[j]).length (flatJ (s.jobs++[j]))
  rw [List.length_append,flatJ_snoc];exact ho
 ·have e:gb=g:=Option.some.inj hg
  subst e
  rcases hor with z | z
  ·exact h.jx _ z
  ·have l1:=ha.sn.lt
   have l2:=ha.mkv.lt
   exact ⟨by omega,by omega,fun e=>by have:=(ha.bs.lt gb e).2;omega⟩
theorem wpList_pushJ {ops:Array Oper} {rest:List Oper} {o1 o2 o3:Oper} {a:Act} {Q:Exit→Act→World→Prop} (g1:o1.guard=none) (g2:o2.guard=none) (g3:o3.guard=none) (xs:List (Nat×Operand)) (h1:o1.op=.build 188 xs.toArray) (x1:Operand) (h2:o2.op=.buildSlice 189 1 #[(0,x1)]) (xa xb:Operand) (h3:o3.op=Op.call { callee:=Callee.builtin Builtin.append,args:=#[xa,xb],argTypes:=#[189,189] })
  (vs:List (Nat×Value)) (j:Jb) (hv:(xs.map fun p=>(p.1,a.eval p.2))=vs) (hb:Tryz.prog.built 188 vs=some (jbC j).toArray) (e1:∀ c:Value,(a.put o1.dst c).eval x1=c) (e2:∀ c d:Value,((a.put o1.dst c).put o2.dst d).eval xb=d) (e3:∀ c d:Value,((a.put o1.dst c).put o2.dst d).eval xa=jv) (h:Smx w0 wx sb mb T jv bv bc s) (hl:s.jobs.length≤2000000000)
  (hn:∀ gb cap n wy c,n=s.jobs.length+1→Smx w0 wy sb mb T (.slice (some ⟨gb,0,none⟩) n cap) bv bc { s with jobs:=s.jobs++[j] }→wpList Tryz.prog ops Q rest (((a.put o1.dst (.agg c)).put o2.dst (.slice (some ⟨wx.heap.size,0,none⟩) 1 1)).put o3.dst (.slice (some ⟨gb,0,none⟩) n cap)) wy):wpList Tryz.prog ops Q (o1::o2::o3::rest) a wx:=by
 obtain ⟨t0,zt,hj,hz0,hz1,hz2,hz3⟩:=job_parts
 have ka:=Kp.alloc [] wx (.cells (jbC j).toArray 188)
 refine wpList_bld g1 188 xs h1 vs _ hv hb ?_
 refine wpList_one g2 189 188 x1 h2 (jbC j) t0 zt 5 (e1 _) Tryz.underlying189 hj hz0 hz1 hz3 (jbC_len j) (by decide) (by decide) ?_
 refine wpList_app g3 _ _ 189 h3 w0.heap.size 188 t0 zt 5 40 Tryz.underlying189 hj hz0 hz1 hz2 hz3 (by decide) jv s.jobs.length (flatJ s.jobs) (e3 _ _) (own_kp h.jb ka (by simp)) ⟨wx.heap.size,0,none⟩ 1 1 (jbC j) (e2 _ _) (by rw [jbC_len]) (fun i u hu=>by rw [Addr.add_mid,Nat.zero_add];exact (Bl.alloc wx (jbC j) 188).at_ i u hu) (jbC_one j) (by unfold maxLen;omega) (by omega) (Nat.le_trans h.kp.size ka.size) (by omega) ?_
 intro gb cap wy ho hg hor
 exact hn gb cap (s.jobs.length+1) wy (jbC j).toArray rfl (h.push ka ho hg hor)
theorem wpList_appI {ops:Array Oper} {rest:List Oper} {o3:Oper} {a:Act} {Q:Exit→Act→World→Prop} (g3:o3.guard=none) (xa xb:Operand) (h3:o3.op=Op.call { callee:=Callee.builtin Builtin.append,args:=#[xa,xb],argTypes:=#[60,60] }) (e3:a.eval xa=bv) (ad:Addr) (m c:Nat) (news:List Value) (e2:a.eval xb=.slice (some ad) m c) (hl:news.length=m) (hc:∀ j u,news[j]? = some u→w.cell? (ad.add j)=some u) (h1:∀ u∈news,u.oneCell'=true)
  (h:Smx w0 w sb mb T jv bv bc s) (hm:0 < m∨bv≠.slice none 0 0) (hm2:m≤1000) (hbl:bc.length≤1000)
  (hn:∀ gb cap n wy,n=bc.length+m→Smx w0 wy sb mb T jv (.slice (some ⟨gb,0,none⟩) n cap) (bc++news) s→wpList Tryz.prog ops Q rest (a.put o3.dst (.slice (some ⟨gb,0,none⟩) n cap)) wy):wpList Tryz.prog ops Q (o3::rest) a w:=by
 obtain ⟨i0,hi,hz0,hz1,hz2⟩:=info_parts Tryz.infoIntR
 have fin:∀ gb cap wy,wy.ownsRow w0.heap.size 3 1 (.slice (some ⟨gb,0,none⟩) (bc.length+m) cap) (bc.length+m) (bc++news)→w.grownBy wy bv.ownBlock→(bv.ownBlock=some gb∨w.heap.size≤gb)→Smx w0 wy sb mb T jv (.slice (some ⟨gb,0,none⟩) (bc.length+m) cap) (bc++news) s:=fun gb cap wy ho hg hor=>by
  have kg:=kp_grownR (S:=bv.ownBlock.toList) hg (by simp)
  have hmem:∀ x∈bv.ownBlock.toList,bv.ownBlock=some x:=fun x hx=>by simpa using hx
  refine ⟨h.kp.pass kg fun x hx=>.inr (h.bs.lt x (hmem x hx)).1,h.sn.keep kg fun hm=>(h.bx _ (hmem _ hm)).1 rfl,h.mkv.keep kg fun hm=>(h.bx _ (hmem _ hm)).2 rfl,own_kp h.jb kg fun g hg hm=>(h.jx g hg).2.2 (hmem _ hm),by rw [List.length_append,hl];exact ho,h.slo,h.mlo,h.ne,fun g hg=>⟨(h.jx g hg).1,(h.jx g hg).2.1,fun e=>?_⟩,fun g hg=>?_⟩
  ·have e:gb=g:=Option.some.inj e
   subst e
   rcases hor with z | z
   ·exact (h.jx _ hg).2.2 z
   ·have:=(h.jb.lt gb hg).2;omega
  ·have e:gb=g:=Option.some.inj hg
   subst e
   rcases hor with z | z
   ·exact h.bx _ z
   ·have l1:=h.sn.lt
    have l2:=h.mkv.lt
    exact ⟨by omega,by omega⟩
 by_cases h0:0 < m
 ·refine wpList_app g3 _ _ 60 h3 w0.heap.size 3 i0 (.int .i64 0) 1 8 Tryz.underlying60 hi hz0 hz1 hz2 rfl (by decide) bv bc.length bc e3 h.bs ad m c news e2 (by rw [hl,Nat.mul_one]) hc h1 (by unfold maxLen;omega) (by omega) h.kp.size h0 ?_
  intro gb cap wy ho hg hor
  exact hn gb cap _ wy rfl (fin gb cap wy ho hg hor)
 ·refine wpList_plain g3 fun _ hK=>?_
  rcases h.bs.2 with ⟨q1,_⟩ | ⟨gb,cap,cur,q1,q2,q3,q4,_⟩
  ·rcases hm with z | z
   ·exact absurd z h0
   ·exact absurd q1 z
  ·have hb:=h.bs
   rw [q1] at hb
   obtain ⟨wy,hrun,r1,r2⟩:=run_append_fits (P:=Tryz.prog) w w0.heap.size 60 o3.type 3 i0 1 Tryz.underlying60 hi hz1 gb bc.length cap bc hb ad m c news (by rw [hl,Nat.mul_one]) hc h1 (by omega)
   unfold Oper.wp
   rw [q1] at e3
   simp [execOp,h3,resolve,invoke,builtin,e3,e2,hrun,Result.andThen]
   exact hK _ _ (hn gb cap _ wy rfl (fin gb cap wy r1 (by rw [q1];exact r2) (.inl (by rw [q1];rfl))))
end
