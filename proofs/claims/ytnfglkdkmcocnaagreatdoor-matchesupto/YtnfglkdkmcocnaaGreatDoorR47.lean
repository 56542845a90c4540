import Derived.Test.YtnfglkdkmcocnaaGreatDoorR46
set_option maxRecDepth 100000
set_option maxHeartbeats 16000000
set_option linter.all false
namespace Go.Proofs.YtnfglkdkmcocnaaGreatDoor
open Go.RowKit
theorem nf_take (y:Zt):∀ G,G≤9→(nf y).take (2+2 * G)=bsC G (some y)
 | 0,_=>rfl
 | 1,_=>rfl
 | 2,_=>rfl
 | 3,_=>rfl
 | 4,_=>rfl
 | 5,_=>rfl
 | 6,_=>rfl
 | 7,_=>rfl
 | 8,_=>rfl
 | 9,_=>rfl
 | _+10,h=>absurd h (by omega)
section
variable {src text:ByteArray} {w:World}
theorem matchP_any (hs:src.size < 4611686018427387904) (hw:Nm w):Calls Tryz.prog 19 #[.string src,.string text] w (MatR text w (matE src text)):=by
 refine (match_t src text hs hw).mono ?_
 intro e w' h
 unfold matE at h ⊢
 by_cases h1:1000 < text.size
 ·rw [if_pos h1] at h ⊢;exact h
 ·rw [if_neg h1] at h ⊢
  cases er:readP src 0 with
  | error p=>rw [er] at h;exact h
  | ok p=>
   obtain ⟨G,x⟩:=p
   rw [er] at h
   obtain ⟨k,s',runs,hr⟩:=h
   obtain ⟨f1,f2,f3,f4,f5⟩:=readP_facts er
   have hq:PatG G x:=by
    by_cases h2:100+0 < src.size
    ·rw [show readP src 0=.error (1,0) by unfold readP;rw [if_pos h2]] at er;cases er
    ·have:=readP_g (src:=src) (fr:=0) (by omega) (Nat.zero_le _)
     rw [er] at this
     exact this.1
   have e2:=runs_fnd hq (cokP hq) f4 f5 runs
   unfold MatR
   dsimp only
   cases hf:fnd text x with
   | none=>
    rw [hf] at e2
    rcases hr with ⟨hfd,rfl⟩ | ⟨hfd,q,c,rfl,ho⟩
    ·exact ⟨rfl,k⟩
    ·unfold bo at e2;rw [if_pos hfd] at e2;cases e2
   | some p=>
    obtain ⟨a,z⟩:=p
    rw [hf] at e2
    rcases hr with ⟨hfd,rfl⟩ | ⟨hfd,q,c,rfl,ho⟩
    ·unfold bo at e2;rw [if_neg (by rw [hfd];decide)] at e2;cases e2
    ·unfold bo at e2
     rw [if_pos hfd] at e2
     have e3:s'.best=zOf a z:=by injection e2
     rw [e3,nf_take _ G f1] at ho
     obtain ⟨z0,z1,z2⟩:=fnd_z f4 f5 hf
     rw [←outC_bs z0 z1 z2] at ho
     exact ⟨q,c,rfl,ho,k⟩
def mtX (text:ByteArray):Except (Nat×Nat) (Nat×Pn)→List Int×Nat×Nat
 | .error (E,k)=>([],E,k)
 | .ok (G,x)=>match fnd text x with
  | none=>([],0,0)
  | some (a,z)=>((a:Int)::(z.1:Int)::(List.range G).flatMap fun g=>[z.2 (2 * (g+1)),z.2 (2 * (g+1)+1)],0,0)
theorem outC_map (a:Nat) (z:Nat×Zt) (G:Nat):outC a z G=((a:Int)::(z.1:Int)::(List.range G).flatMap fun g=>[z.2 (2 * (g+1)),z.2 (2 * (g+1)+1)]).map (Value.int .i64):=by
 simp [outC,List.map_flatMap]
theorem outC_len (a:Nat) (z:Nat×Zt):∀ G,(outC a z G).length=2+2 * G
 | 0=>rfl
 | G+1=>by rw [outC_step,List.length_append,outC_len a z G];simp;omega
theorem MatR.gen {e:Ending} {w':World} (h:MatR text w (matE src text) e w'):∃ lv,e=.returned (.tuple #[lv,.int .i64 ((mtX text (matE src text)).2.1:Nat),.int .i64 ((mtX text (matE src text)).2.2:Nat)]) ∧
  w'.ownsRow w.heap.size 3 1 lv (mtX text (matE src text)).1.length ((mtX text (matE src text)).1.map (Value.int .i64))∧Kp [] w w'∧(mtX text (matE src text)).1.length≤20:=by
 cases hm:matE src text with
 | error p=>
  obtain ⟨E,k⟩:=p
  rw [hm] at h
  exact ⟨_,h.1,World.ownsRow_nil _ _ _ _,h.2,Nat.zero_le _⟩
 | ok p=>
  obtain ⟨G,x⟩:=p
  rw [hm] at h
  unfold MatR at h
  dsimp only at h
  unfold mtX
  dsimp only
  cases hf:fnd text x with
  | none=>
   rw [hf] at h
   exact ⟨_,h.1,World.ownsRow_nil _ _ _ _,h.2,Nat.zero_le _⟩
  | some p=>
   obtain ⟨a,z⟩:=p
   rw [hf] at h
   obtain ⟨q,c,e1,e2,e3⟩:=h
   have hG:G≤9:=by
    unfold matE at hm
    split at hm
    ·cases hm
    ·exact (readP_facts hm).1
   have hl:=outC_len a z G
   rw [outC_map] at hl
   rw [List.length_map] at hl
   dsimp only at hl ⊢
   refine ⟨_,e1,?_,e3,by rw [hl];omega⟩
   rw [hl,←outC_map];exact e2
end
theorem run_app2 {P:Program} {w:World} {base:Nat} {t ty e:TypeId} {i:TypeInfo} {z:Value} {size bytes:Nat} (ht:P.underlying t=some (.slice e)) (hi:P.info? e=some i) (hz:i.zero=some z)
  (hsize:i.size=size) (hby:i.bytes=bytes) (hzs:z.cells.size=size) (hsz:0 < size)
  {v:Value} {n:Nat} {xs:List Value} (hown:w.ownsRow base e size v n xs)
  {a:Addr} {m c:Nat} {news:List Value} (hl:news.length=m * size) (hnews:∀ j u,news[j]? = some u→w.cell? (a.add j)=some u) (h1:∀ u∈news,u.oneCell'=true)
  (h63:n+m≤maxLen) (hbytes:(n+m) * bytes≤140737488355328) (hbase:base≤w.heap.size) (hm:0 < m) :
  ∃ g cap w',(Builtin.append_ #[t,t] ty #[v,.slice (some a) m c]).run P w=.ok (.slice (some ⟨g,0,none⟩) (n+m) cap) w'∧w'.ownsRow base e size (.slice (some ⟨g,0,none⟩) (n+m) cap) (n+m) (xs++news) ∧
   ((v=.slice (some ⟨g,0,none⟩) n cap∧w.grownBy w' (some g))∨(w.heap.size≤g∧w.grownBy w' none)):=by
 rcases hown.2 with ⟨hv,hn⟩ | ⟨g,cap,cur,hv,hbg,hg,hnc,hcm,hcs,htake⟩
 ·subst hv;subst hn
  have hxs:xs=[]:=List.eq_nil_of_length_eq_zero (by simpa using hown.1)
  subst hxs
  obtain ⟨v',w',hrun,r1,r2,_⟩:=run_append_own (P:=P) w w.heap.size t ty e i z size bytes ht hi hz hsize hby hzs hsz (.slice none 0 0) 0 [] (World.ownsRow_nil w _ e size) a m c news hl hnews h1 h63 hbytes (Nat.le_refl _)
  rcases r1.2 with ⟨_,h0⟩ | ⟨g,cap,cur,hv',hbg,_⟩
  ·omega
  ·subst hv'
   exact ⟨g,cap,w',hrun,own_lower r1 hbase,.inr ⟨hbg,r2⟩⟩
 ·subst hv
  by_cases hroom:n+m≤cap
  ·obtain ⟨w',hrun,r1,r2⟩:=run_append_fits (P:=P) w base t ty e i size ht hi hsize g n cap xs hown a m c news hl hnews h1 hroom
   exact ⟨g,cap,w',hrun,r1,.inl ⟨rfl,r2⟩⟩
  ·have hcell:∀ j u,xs[j]? = some u→w.cell? ((⟨g,0,none⟩:Addr).add j)=some u:=fun j u hu=>by
    have hj:j < n * size:=by rw [←hown.1];exact (List.getElem?_eq_some_iff.1 hu).1
    rw [Addr.add_mid,Nat.zero_add,hown.cellAt j hj];exact hu
   obtain ⟨v',w',hrun,r1,r2⟩:=run_append_arg_grows (P:=P) w t ty e i z size bytes ht hi hz hsize hby hzs hsz ⟨g,0,none⟩ n cap xs hown.1 hcell a m c news hl hnews (by omega) h63 hbytes
   rcases r1.2 with ⟨_,h0⟩ | ⟨g',cap',cur',hv',hbg',_⟩
   ·omega
   ·subst hv'
    exact ⟨g',cap',w',hrun,own_lower r1 hbase,.inr ⟨hbg',⟨r2.os,r2.tape,r2.output,r2.size,fun k hk _=>r2.block k hk (by simp)⟩⟩⟩
theorem own_frontR {w:World} {base size n m:Nat} {e:TypeId} {A:Option Addr} {c:Nat} {xs:List Value} (h:w.ownsRow base e size (.slice A n c) n xs) (hm:m≤n):w.ownsRow base e size (.slice A m c) m (xs.take (m * size)):=by
 have hms:m * size≤n * size:=Nat.mul_le_mul_right _ hm
 refine ⟨by rw [List.length_take,h.1];omega,?_⟩
 rcases h.2 with ⟨q1,q2⟩ | ⟨g,cap,cur,q1,q2,q3,q4,q5,q6,q7⟩
 ·injection q1 with e1 e2 e3
  exact .inl ⟨by rw [e1,e3,show m=0 by omega],by omega⟩
 ·injection q1 with e1 e2 e3
  refine .inr ⟨g,cap,cur,by rw [e1,e3],q2,q3,by omega,q5,q6,?_⟩
  rw [←q7,List.take_take,Nat.min_eq_left hms]
def Fl (w:World) (X:Nat→Prop) (N:Nat) (lv:Value) (m:Int):Prop:=∃ A n c,lv=.slice A n c∧n≤N∧(0 < n→∃ g,A=some ⟨g,0,none⟩∧X g∧g < w.heap.size∧∀ i,i < n→w.cell? ⟨g,i,none⟩=some (.int .i64 m))
section
variable {w w':World} {X Y:Nat→Prop} {N N':Nat} {lv:Value} {m:Int}
theorem Fl.keep {S:List Nat} (h:Fl w X N lv m) (k:Kp S w w') (hS:∀ g,X g→g∉S) (hN:N≤N') (hY:∀ g,g < w.heap.size→X g→Y g):Fl w' Y N' lv m:=by
 obtain ⟨A,n,c,e,hn,h⟩:=h
 refine ⟨A,n,c,e,by omega,fun h0=>?_⟩
 obtain ⟨g,e1,e2,e3,e4⟩:=h h0
 exact ⟨g,e1,hY g e3 e2,Nat.lt_of_lt_of_le e3 k.size,fun i hi=>(k.cell (p:=⟨g,i,none⟩) e3 (hS g e2)).trans (e4 i hi)⟩
theorem Fl.of {B k:Nat} (o:w.ownsRow B 3 1 lv k (List.replicate k (.int .i64 m))) (hk:k≤N) (hX:∀ g,lv.ownBlock=some g→X g):Fl w X N lv m:=by
 rcases o.2 with ⟨q1,q2⟩ | ⟨g,c,cur,q1,q2,q3,_⟩
 ·exact ⟨none,0,0,q1,Nat.zero_le _,fun h=>absurd h (by omega)⟩
 ·refine ⟨_,k,c,q1,hk,fun h0=>⟨g,rfl,hX g (by rw [q1];rfl),(o.lt g (by rw [q1];rfl)).2,fun i hi=>?_⟩⟩
  have:=o.cells (g:=g) (by rw [q1];rfl) i (.int .i64 m) (by rw [List.getElem?_replicate,if_pos hi])
  rwa [Addr.add_mid,Nat.zero_add] at this
theorem wpList_appF {ops:Array Oper} {rest:List Oper} {o:Oper} {a:Act} {Q:Exit→Act→World→Prop} (hgd:o.guard=none) (x y:Operand) (hop:o.op=Op.call { callee:=Callee.builtin Builtin.append,args:=#[x,y],argTypes:=#[60,60] })
  {B k j:Nat} (e1:a.eval x=lv) (hown:w.ownsRow B 3 1 lv k (List.replicate k (.int .i64 m))) (ad:Addr) (c:Nat) (e2:a.eval y=.slice (some ad) j c) (hc:∀ i,i < j→w.cell? (ad.add i)=some (.int .i64 m)) (hj:0 < j) (hjb:j≤3) (hk:k≤20) (hB:B≤w.heap.size) (acc:List Value) (hacc:∀ v∈acc,Fl w X (k+j) v m) (hX1:∀ g,lv.ownBlock=some g→X g) (hX2:∀ g,w.heap.size≤g→X g)
  (h:∀ v w',w'.ownsRow B 3 1 lv k (List.replicate k (.int .i64 m))→Fl w' X (k+j) v m→(∀ v∈acc,Fl w' X (k+j) v m)→Kp lv.ownBlock.toList w w'→(∃ g c,v=.slice (some ⟨g,0,none⟩) (k+j) c)→wpList Tryz.prog ops Q rest (a.put o.dst v) w'):wpList Tryz.prog ops Q (o::rest) a w:=
 wpList_plain hgd fun _ hK=>by
  obtain ⟨i0,hi,hz0,hz1,hz2⟩:=info_parts Tryz.infoIntR
  obtain ⟨g,cap,w',hrun,r1,r2⟩:=run_app2 (P:=Tryz.prog) (ty:=o.type) (c:=c) Tryz.underlying60 hi hz0 hz1 hz2 rfl (by decide) hown (news:=List.replicate j (.int .i64 m)) (m:=j) (a:=ad) (by simp) (fun i u hu=>by
   rw [List.getElem?_replicate] at hu
   split at hu
   ·rename_i hij;cases hu;exact hc i hij
   ·cases hu) (fun u hu=>by rw [(List.mem_replicate.1 hu).2];rfl) (by unfold maxLen;omega) (by omega) hB hj
  unfold Oper.wp
  simp [execOp,hop,resolve,invoke,builtin,e1,e2,hrun,Result.andThen]
  rw [List.replicate_append_replicate] at r1
  refine hK _ _ (h _ w' ?_ ?_ ?_ ?_ ⟨g,cap,rfl⟩)
  ·rcases r2 with ⟨z1,z2⟩ | ⟨z1,z2⟩
   ·have:=own_frontR r1 (show k≤k+j by omega)
    rw [List.take_replicate,Nat.mul_one,Nat.min_eq_left (by omega)] at this
    rw [z1];exact this
   ·exact own_kp hown (kp_grownR (S:=[]) z2 (fun _ q=>by cases q)) (by simp)
  ·refine Fl.of r1 (Nat.le_refl _) fun g' hg'=>?_
   have e:g=g':=Option.some.inj hg'
   subst e
   rcases r2 with ⟨z1,_⟩ | ⟨z1,_⟩
   ·exact hX1 g (by rw [z1];rfl)
   ·exact hX2 g z1
  ·intro v hv
   rcases r2 with ⟨z1,z2⟩ | ⟨z1,z2⟩
   ·have kg:Kp [g] w w':=kp_grownR z2 (fun p hp=>by cases hp;simp)
    obtain ⟨A,n,c,e,hn,hf⟩:=hacc v hv
    refine ⟨A,n,c,e,hn,fun h0=>?_⟩
    obtain ⟨g',f1,f2,f3,f4⟩:=hf h0
    refine ⟨g',f1,f2,Nat.lt_of_lt_of_le f3 kg.size,fun i hi=>?_⟩
    by_cases eg:g'=g
    ·subst eg
     have:=r1.cells (g:=g') rfl i (.int .i64 m) (by rw [List.getElem?_replicate,if_pos (by omega)])
     rwa [Addr.add_mid,Nat.zero_add] at this
    ·exact (kg.cell (p:=⟨g',i,none⟩) f3 (by simpa using eg)).trans (f4 i hi)
   ·exact (hacc v hv).keep (kp_grownR (S:=[]) z2 (fun _ q=>by cases q)) (by simp) (Nat.le_refl _) fun _ _ x=>x
  ·rcases r2 with ⟨z1,z2⟩ | ⟨z1,z2⟩
   ·exact kp_grownR z2 (fun p hp=>by cases hp;rw [z1];simp [Value.ownBlock])
   ·exact (kp_grownR (S:=[]) z2 (fun _ q=>by cases q)).mono (by simp)
end
structure Be where
 l:Value
 a:Value
 b:Value
 c:Value
 m:Int
def beC (e:Be):List Value:=[e.l,e.a,e.b,e.c,.int .i64 e.m]
def flatB (l:List Be):List Value:=l.flatMap beC
theorem flatB_snoc (l:List Be) (p:Be):flatB (l++[p])=flatB l++beC p:=by simp [flatB]
theorem flatB_at:∀ (l:List Be) (i:Nat) (p:Be),l[i]? = some p→∀ j,j < 5→(flatB l)[i * 5+j]? = (beC p)[j]?
 | p::l,0,q,h,j,hj=>by
  cases h
  show (beC p++flatB l)[0 * 5+j]? = _
  rw [Nat.zero_mul,Nat.zero_add,List.getElem?_append_left (by show j < 5;exact hj)]
 | p::l,i+1,q,h,j,hj=>by
  have ih:=flatB_at l i q (by simpa using h) j hj
  show (beC p++flatB l)[(i+1) * 5+j]? = _
  rw [List.getElem?_append_right (by show 5≤_;omega),show (i+1) * 5+j - (beC p).length=i * 5+j by show (i+1) * 5+j - 5=_;omega]
  exact ih
structure Bkx (w0 w:World) (wb:Nat) (iv:Value) (es:List Be) (n:Nat):Prop where
 kp:Kp [] w0 w
 bl:Bl w wb [.slice none 0 0,.slice none 0 0,.int .i64 (n:Nat),iv,.slice none 0 0]
 wlo:w0.heap.size≤wb
 own:w.ownsRow w0.heap.size 62 5 iv es.length (flatB es)
 ne:iv.ownBlock≠some wb
 fl:∀ e∈es,∀ lv∈[e.l,e.a,e.b,e.c],Fl w (fun g=>w0.heap.size≤g∧g≠wb∧iv.ownBlock≠some g) 1000 lv e.m
theorem Bkx.keep {w0 w w':World} {wb:Nat} {iv:Value} {es:List Be} {n:Nat} (h:Bkx w0 w wb iv es n) (k:Kp [] w w'):Bkx w0 w' wb iv es n:=
 ⟨h.kp.trans k,h.bl.keep k (by simp),h.wlo,own_kp h.own k (by simp),h.ne,fun e he lv hl=>(h.fl e he lv hl).keep k (by simp) (Nat.le_refl _) fun _ _ x=>x⟩
section
variable {w w0:World}
theorem fullInts_any {X:Nat→Prop} {lv:Value} {m:Int} (h:Fl w X 1000 lv m):Calls Tryz.prog 17 #[lv,.int .i64 m] w fun e w'=>e=.returned (.bool true)∧Kp [] w w':=by
 obtain ⟨A,n,c,rfl,hn,h⟩:=h
 have HF:=hid h
 clear h
 go_enter Tryz.func17,Tryz.ntmps17
 go_wp2_with fail
 go_loopw [5] (fun ix wr=>∃ i:Nat,ix=.int .i64 i∧i≤n∧Kp [] w wr) (fun ix _=>2000 - (intOf ix).toNat)
 case atStart=>exact ⟨0,rfl,Nat.zero_le _,Kp.refl _ _⟩
 case round=>
  obtain ⟨i,rfl,hi,kr⟩:=hrel
  by_cases hil:i < n
  ·obtain ⟨g,rfl,_,hg,hc⟩:=HF.out (by omega)
   have d0:=(kr.cell (p:=⟨g,i,none⟩) hg (by simp)).trans (hc i hil)
   have q1:(i:Int) < (n:Int):=by omega
   have q2:(0:Int)≤(i:Int):=by omega
   have hc1:IntKind.i64.wrap ((i:Int)+1)=((i+1:Nat):Int):=wrap_i64_succ i (i+1) rfl (by omega)
   clear hc
   go_wp2_with fail
   go_roundw
   ·exact ⟨i+1,by go_num,by omega,kr⟩
   ·simp [intOf];omega
  ·have q1:¬ (i:Int) < (n:Int):=by omega
   go_wp2_with fail
   go_ret
   exact ⟨rfl,kr⟩
theorem Tryz.szInts:(Tryz.prog.info? 62).map (·.size)=some 5:=by kernel_rfl
theorem Fl.one {X:Nat→Prop} {N:Nat} {lv:Value} {m:Int} (h:Fl w X N lv m):lv.oneCell'=true:=by
 obtain ⟨A,n,c,rfl,_⟩:=h;rfl
theorem Bkx.one {wb n:Nat} {iv:Value} {es:List Be} (h:Bkx w0 w wb iv es n) {e:Be} (he:e∈es):∀ u∈beC e,u.oneCell'=true:=fun u hu=>by
 have hf:=h.fl e he
 simp only [beC,List.mem_cons,List.not_mem_nil,or_false] at hu
 rcases hu with rfl | rfl | rfl | rfl | rfl
 ·exact (hf _ (by simp)).one
 ·exact (hf _ (by simp)).one
 ·exact (hf _ (by simp)).one
 ·exact (hf _ (by simp)).one
 ·rfl
theorem Bkx.at_ {wb n i:Nat} {iv:Value} {es:List Be} (h:Bkx w0 w wb iv es n) {e:Be} (he:es[i]? = some e):∃ g c,iv=.slice (some ⟨g,0,none⟩) es.length c∧w.rangeAt g (i * 5) (beC e):=by
 rcases h.own.2 with ⟨_,q2⟩ | ⟨g,c,cur,q1,_⟩
 ·have:=(List.getElem?_eq_some_iff.1 he).1;omega
 ·refine ⟨g,c,q1,fun j u hu=>?_⟩
  have hj:j < 5:=(List.getElem?_eq_some_iff.1 hu).1
  have:=h.own.cells (g:=g) (by rw [q1];rfl) (i * 5+j) u (by rw [flatB_at es i e he j hj];exact hu)
  rwa [Addr.add_mid,Nat.zero_add] at this
theorem Bkx.form {wb n:Nat} {iv:Value} {es:List Be} (h:Bkx w0 w wb iv es n):∃ a c,iv=.slice a es.length c:=by
 rcases h.own.2 with ⟨q1,q2⟩ | ⟨gb,c,cur,q1,_⟩
 ·exact ⟨none,0,by rw [q1,q2]⟩
 ·exact ⟨_,c,q1⟩
theorem looks_any {wb n:Nat} {iv:Value} {es:List Be} (h:Bkx w0 w wb iv es n) (hl:es.length≤2000000):Calls Tryz.prog 6 #[.pointer (some ⟨wb,2,none⟩)] w fun e w'=>e=.returned (.bool true)∧Kp [] w w':=by
 have HB:=hid h
 obtain ⟨ia,ic,rfl⟩:=h.form
 clear h
 go_enter Tryz.func6,Tryz.ntmps6
 go_wp2_with fail
 go_loopw [3,4] (fun ok ix wr=>∃ i:Nat,ok=.bool true∧ix=.int .i64 i∧i≤es.length∧Kp [] w wr) (fun _ ix _=>3000000 - (intOf ix).toNat)
 case atStart=>exact ⟨0,rfl,rfl,Nat.zero_le _,Kp.refl _ _⟩
 case round=>
  obtain ⟨i,rfl,rfl,hi,kr⟩:=hrel
  have hB:=HB.out.keep kr
  have d3:=hB.bl.at_ 3 _ rfl
  by_cases hil:i < es.length
  ·obtain ⟨e,he⟩:∃ e,es[i]? = some e:=⟨_,List.getElem?_eq_getElem hil⟩
   obtain ⟨g,c,hf,RG⟩:=hB.at_ he
   have hem:=List.mem_of_getElem? he
   obtain ⟨rfl,rfl⟩:ia=some ⟨g,0,none⟩∧ic=c:=by injection hf with z1 _ z3;exact ⟨z1,z3⟩
   have h1:=hB.one hem
   obtain ⟨L,hL⟩:∃ L,L=es.length:=⟨_,rfl⟩
   have q1:(i:Int) < (es.length:Int):=by omega
   have q2:(0:Int)≤(i:Int):=by omega
   have hc1:IntKind.i64.wrap ((i:Int)+1)=((i+1:Nat):Int):=wrap_i64_succ i (i+1) rfl (by omega)
   have RGH:=hid RG
   have H1:=hid h1
   have HBR:=hid (And.intro hB hem)
   obtain ⟨xb,hxb⟩:∃ xb,xb=wr.heap.size:=⟨_,rfl⟩
   clear RG h1 hB hf hem he hL
   go_upto_region 6 with (first | (show wpList _ _ _ (⟨_,.load 62 _,_,_,_,_⟩::_) _ _;refine wpList_load_mid rfl 62 (.tmp 30) rfl g (i * 5) rfl (beC e) _ RGH.out Tryz.underlying62 rfl Tryz.szInts ?_) | (show wpList _ _ _ (⟨_,.store 62 _ _,_,_,_,_⟩::_) _ _;refine newVarR (w1:=wr) rfl 62 (.tmp 5) (.tmp 31) rfl _ _ (beC e) rfl rfl rfl Tryz.szInts H1.out ?_;intro w5 b5 k5))
   rw [←hxb] at b5 ⊢
   clear hxb RGH H1 d3
   have F:=fun lv hl=>(HBR.out.1.fl e HBR.out.2 lv hl).keep k5 (by simp) (Nat.le_refl _) (fun _ _ x=>x)
   have c0:=b5.at_ 0 _ rfl
   have c4:=b5.at_ 4 _ rfl
   have HQ:=hid (And.intro F (And.intro b5 (kr.trans k5)))
   clear F b5 k5
   go_wp2_with fail
   refine (fullInts_any (HQ.out.1 e.l (by simp))).mono ?_
   rintro e' w6 ⟨rfl,k6⟩
   have c1:=(HQ.out.2.1.keep k6 (by simp)).at_ 1 _ rfl
   have c4:=(HQ.out.2.1.keep k6 (by simp)).at_ 4 _ rfl
   have H6:=hid k6
   clear k6 c0
   go_wp2_with fail
   refine (fullInts_any ((HQ.out.1 e.a (by simp)).keep H6.out (by simp) (Nat.le_refl _) (fun _ _ x=>x))).mono ?_
   rintro e' w7 ⟨rfl,k7⟩
   have c2:=(HQ.out.2.1.keep (H6.out.trans k7) (by simp)).at_ 2 _ rfl
   have c4:=(HQ.out.2.1.keep (H6.out.trans k7) (by simp)).at_ 4 _ rfl
   have H7:=hid (H6.out.trans k7)
   clear k7 c1
   go_wp2_with fail
   refine (fullInts_any ((HQ.out.1 e.b (by simp)).keep H7.out (by simp) (Nat.le_refl _) (fun _ _ x=>x))).mono ?_
   rintro e' w8 ⟨rfl,k8⟩
   have c3:=(HQ.out.2.1.keep (H7.out.trans k8) (by simp)).at_ 3 _ rfl
   have c4:=(HQ.out.2.1.keep (H7.out.trans k8) (by simp)).at_ 4 _ rfl
   have H8:=hid (H7.out.trans k8)
   clear k8 c2
   go_wp2_with fail
   refine (fullInts_any ((HQ.out.1 e.c (by simp)).keep H8.out (by simp) (Nat.le_refl _) (fun _ _ x=>x))).mono ?_
   rintro e' w9 ⟨rfl,k9⟩
   have H9:=hid (H8.out.trans k9)
   clear k9 c3
   go_wp2_with fail
   go_roundw
   ·exact ⟨i+1,rfl,by go_num,by omega,HQ.out.2.2.trans H9.out⟩
   ·simp [intOf];omega
  ·have q1:¬ (i:Int) < (es.length:Int):=by omega
   go_wp2_with fail
   go_loopw [3,10] (fun ok ix wr2=>ok=.bool true∧ix=.int .i64 0∧Kp [] w wr2) (fun _ _ _=>0)
   case atStart=>exact ⟨rfl,rfl,kr⟩
   case round=>
    obtain ⟨rfl,rfl,kr2⟩:=hrel
    have d4:=(HB.out.keep kr2).bl.at_ 4 _ rfl
    go_wp2_with fail
    go_ret
    exact ⟨rfl,kr2⟩
end
structure Ist (w0 w:World) (wb:Nat) (iv:Value) (es:List Be) (n:Nat) (lv:Value) (k:Nat) (m:Int) (xb:Nat) (ws:List Value) (N:Nat) (acc:List Value):Prop where
 kp:Kp [] w0 w
 bl:Bl w wb [.slice none 0 0,.slice none 0 0,.int .i64 (n:Nat),iv,.slice none 0 0]
 wlo:w0.heap.size≤wb
 own:w.ownsRow w0.heap.size 62 5 iv es.length (flatB es)
 ne:iv.ownBlock≠some wb
 fl:∀ e∈es,∀ v∈[e.l,e.a,e.b,e.c],Fl w (fun g=>w0.heap.size≤g∧g≠wb∧iv.ownBlock≠some g∧lv.ownBlock≠some g∧g≠xb) 1000 v e.m
 lo:w.ownsRow w0.heap.size 3 1 lv k (List.replicate k (.int .i64 m))
 ln:∀ g,lv.ownBlock=some g→w0.heap.size≤g∧g≠wb∧iv.ownBlock≠some g∧g≠xb
 xv:Bl w xb ws
 xn:w0.heap.size≤xb∧xb≠wb∧iv.ownBlock≠some xb
 acc:∀ v∈acc,Fl w (fun g=>w0.heap.size≤g∧g≠wb∧iv.ownBlock≠some g∧g≠xb) N v m
section
variable {w0 w w':World} {wb n k xb N N':Nat} {iv lv:Value} {es:List Be} {m:Int} {ws acc acc':List Value}
theorem Ist.keep (h:Ist w0 w wb iv es n lv k m xb ws N acc) (q:Kp [] w w'):Ist w0 w' wb iv es n lv k m xb ws N acc:=
 ⟨h.kp.trans q,h.bl.keep q (by simp),h.wlo,own_kp h.own q (by simp),h.ne,fun e he v hv=>(h.fl e he v hv).keep q (by simp) (Nat.le_refl _) fun _ _ x=>x,own_kp h.lo q (by simp),h.ln,h.xv.keep q (by simp),h.xn,fun v hv=>(h.acc v hv).keep q (by simp) (Nat.le_refl _) fun _ _ x=>x⟩
theorem Ist.app (h:Ist w0 w wb iv es n lv k m xb ws N acc) (q:Kp lv.ownBlock.toList w w') (lo:w'.ownsRow w0.heap.size 3 1 lv k (List.replicate k (.int .i64 m))) (ha:∀ v∈acc',Fl w' (fun g=>w0.heap.size≤g∧g≠wb∧iv.ownBlock≠some g∧g≠xb) N' v m):Ist w0 w' wb iv es n lv k m xb ws N' acc':=by
 have hm:∀ x∈lv.ownBlock.toList,lv.ownBlock=some x:=fun x hx=>by simpa using hx
 exact ⟨h.kp.pass q fun x hx=>.inr (h.ln x (hm x hx)).1,h.bl.keep q fun hx=>(h.ln _ (hm _ hx)).2.1 rfl,h.wlo,own_kp h.own q fun g hg hx=>(h.ln g (hm _ hx)).2.2.1 hg,h.ne,fun e he v hv=>(h.fl e he v hv).keep q (fun g hg hx=>hg.2.2.2.1 (hm g hx)) (Nat.le_refl _) fun _ _ x=>x,lo,h.ln,h.xv.keep q fun hx=>(h.ln _ (hm _ hx)).2.2.2 rfl,h.xn,ha⟩
theorem Ist.set (h:Ist w0 w wb iv es n lv k m xb ws N acc) (j:Nat) (u:Value) (hj:j < ws.length):Ist w0 (w.setCell ⟨xb,j,none⟩ u) wb iv es n lv k m xb (ws.set j u) N acc:=by
 have q:Kp [xb] w (w.setCell ⟨xb,j,none⟩ u):=Kp.setCell _ _ (by simp)
 exact ⟨h.kp.pass q fun x hx=>.inr (by rw [List.mem_singleton.1 hx];exact h.xn.1),h.bl.keep q (by simpa using h.xn.2.1.symm),h.wlo,own_kp h.own q (fun g hg hx=>h.xn.2.2 (by rw [←List.mem_singleton.1 hx];exact hg)),h.ne,fun e he v hv=>(h.fl e he v hv).keep q (fun g hg hx=>hg.2.2.2.2 (List.mem_singleton.1 hx)) (Nat.le_refl _) fun _ _ x=>x,own_kp h.lo q (fun g hg hx=>(h.ln g hg).2.2.2 (List.mem_singleton.1 hx)),h.ln,h.xv.set j u hj,h.xn,fun v hv=>(h.acc v hv).keep q (fun g hg hx=>hg.2.2.2 (List.mem_singleton.1 hx)) (Nat.le_refl _) fun _ _ x=>x⟩
theorem Ist.far (h:Ist w0 w wb iv es n lv k m xb ws N acc) (g:Nat) (hg:w.heap.size≤g):w0.heap.size≤g∧g≠wb∧iv.ownBlock≠some g∧g≠xb:=by
 have h1:=h.kp.size
 have h2:=h.bl.lt
 have h3:=h.xv.lt
 exact ⟨by omega,by omega,fun e=>by have:=(h.own.lt g e).2;omega,by omega⟩
theorem Ist.done {e:Be} {wa:World} {gb cap:Nat} (h:Ist w0 w wb iv es n lv k m xb ws N acc) (hN:N≤1000) (he:e.m=m) (hacc:∀ v∈[e.l,e.a,e.b,e.c],v∈acc) (ka:Kp [] w wa) (ho:w'.ownsRow w0.heap.size 62 5 (.slice (some ⟨gb,0,none⟩) (es.length+1) cap) (es.length+1) (flatB es++beC e)) (hg:wa.grownBy w' iv.ownBlock) (hor:iv.ownBlock=some gb∨wa.heap.size≤gb) :
  Bkx w0 (w'.setCell ⟨wb,3,none⟩ (.slice (some ⟨gb,0,none⟩) (es.length+1) cap)) wb (.slice (some ⟨gb,0,none⟩) (es.length+1) cap) (es++[e]) n:=by
 have hm:∀ x∈iv.ownBlock.toList,iv.ownBlock=some x:=fun x hx=>by simpa using hx
 have h1:=h.keep ka
 have q:Kp iv.ownBlock.toList wa w':=kp_grownR hg (by simp)
 obtain ⟨u,hu⟩:∃ u,u=Value.slice (some ⟨gb,0,none⟩) (es.length+1) cap:=⟨_,rfl⟩
 rw [←hu]
 have q2:Kp [wb] w' (w'.setCell ⟨wb,3,none⟩ u):=Kp.setCell _ _ (by simp)
 have b1:Bl w' wb [.slice none 0 0,.slice none 0 0,.int .i64 (n:Nat),iv,.slice none 0 0]:=h1.bl.keep q fun hx=>h.ne (hm _ hx)
 have hgn:gb≠wb:=by
  rcases hor with z | z
  ·intro e;rw [e] at z;exact h.ne z
  ·have:=h1.bl.lt;omega
 have hub:u.ownBlock=some gb:=by rw [hu];rfl
 have hX:∀ g,g < wa.heap.size→iv.ownBlock≠some g→u.ownBlock≠some g:=fun g hl hn e=>by
  rw [hub] at e
  have e:gb=g:=Option.some.inj e
  subst e
  rcases hor with z | z
  ·exact hn z
  ·omega
 refine ⟨(h1.kp.pass q fun x hx=>.inr (h.own.lt x (hm x hx)).1).pass q2 fun x hx=>.inr (by rw [List.mem_singleton.1 hx];exact h.wlo),b1.set 3 u (by simp),h.wlo,?_,by rw [hub];exact fun e=>hgn (Option.some.inj e),fun e' he' v hv=>?_⟩
 ·rw [List.length_append,flatB_snoc]
  refine own_kp (by rw [hu];exact ho) q2 fun g hg hx=>hgn ?_
  rw [hub] at hg
  rw [Option.some.inj hg];exact List.mem_singleton.1 hx
 ·rcases List.mem_append.1 he' with z | z
  ·exact ((h1.fl e' z v hv).keep (Y:=fun g=>w0.heap.size≤g∧g≠wb∧u.ownBlock≠some g) q (fun g hg hx=>hg.2.2.1 (hm g hx)) (Nat.le_refl _) fun g hl x=>⟨x.1,x.2.1,hX g hl x.2.2.1⟩).keep q2 (fun g hg hx=>hg.2.1 (List.mem_singleton.1 hx)) (Nat.le_refl _) fun _ _ x=>x
  ·have e1:=List.mem_singleton.1 z
   subst e1
   rw [he]
   exact ((h1.acc v (hacc v hv)).keep (Y:=fun g=>w0.heap.size≤g∧g≠wb∧u.ownBlock≠some g) q (fun g hg hx=>hg.2.2.1 (hm g hx)) hN fun g hl x=>⟨x.1,x.2.1,hX g hl x.2.2.1⟩).keep q2 (fun g hg hx=>hg.2.1 (List.mem_singleton.1 hx)) (Nat.le_refl _) fun _ _ x=>x
theorem ints_parts:∃ i z,Tryz.prog.info? 62=some i∧i.zero=some z∧i.size=5∧i.bytes=104∧z.cells.size=5:=by
 have h:(Tryz.prog.info? 62).map (fun i=>(i.size,i.bytes,i.zero.map (·.cells.size)))=some (5,104,some 5):=by kernel_rfl
 cases e:Tryz.prog.info? 62 with
 | none=>rw [e] at h;cases h
 | some i=>
  rw [e] at h
  simp only [Option.map_some,Option.some.injEq,Prod.mk.injEq] at h
  obtain ⟨h1,h2,h3⟩:=h
  cases ez:i.zero with
  | none=>rw [ez] at h3;cases h3
  | some z=>
   rw [ez] at h3
   exact ⟨i,z,rfl,ez,h1,h2,Option.some.inj h3⟩
theorem built_ints (A:Option Addr) (k c:Nat) (m:Int):Tryz.prog.built 62 [(0,.slice A k c),(4,.int .i64 m)]=some [.slice A k c,.slice none 0 0,.slice none 0 0,.slice none 0 0,.int .i64 m].toArray:=by kernel_rfl
theorem fill_step {k i:Nat} {xs:List Value} (m:Value) (hl:xs.length=k) (hi:i < k):(List.replicate i m++xs.drop i).set i m=List.replicate (i+1) m++xs.drop (i+1):=by
 rw [List.set_append_right _ _ (by simp),List.length_replicate,Nat.sub_self,List.drop_eq_getElem_cons (by omega),List.set_cons_zero,List.replicate_succ',List.append_assoc];rfl
theorem ints_any {wA:World} {xs:List Value} (h:Bkx w0 wA wb iv es n) (kA:Kp [] wA w) (o:w.ownsRow wA.heap.size 3 1 lv k xs) (hk:k≤20) (hn:n≤2000000) (hl:es.length≤2000000) :
  Calls Tryz.prog 21 #[.pointer (some ⟨wb,2,none⟩),lv] w fun e w'=>e=.returned (.tuple #[])∧∃ iv' e',Bkx w0 w' wb iv' (es++[e']) (n+1):=by
 have hw:=h.keep kA
 have d2:=hw.bl.at_ 2 _ rfl
 have f2:=hw.bl.free 2
 obtain ⟨n1,hn1⟩:∃ n1,n1=n+1:=⟨_,rfl⟩
 obtain ⟨m,hm⟩:∃ m,m=100000+n1:=⟨_,rfl⟩
 have hwn:IntKind.i64.wrap ((n:Int)+1)=(n1:Int):=by rw [hn1];exact wrap_i64_succ n (n+1) rfl (by omega)
 have hwm:IntKind.i64.wrap (100000+(n1:Int))=(m:Int):=by rw [IntKind.wrap_i64];omega
 obtain ⟨w1,hw1⟩:∃ w1,w1=w.setCell ⟨wb,2,none⟩ (.int .i64 (n1:Int)):=⟨_,rfl⟩
 have k1:Kp [wb] w w1:=by rw [hw1];exact Kp.setCell _ _ (by simp)
 have hwbl:wb < wA.heap.size:=h.bl.lt
 have o1:w1.ownsRow wA.heap.size 3 1 lv k xs:=own_kp o k1 fun g hg hx=>by
  have:=(o.lt g hg).1
  have:=List.mem_singleton.1 hx
  omega
 have b1:Bl w1 wb [.slice none 0 0,.slice none 0 0,.int .i64 (n1:Nat),iv,.slice none 0 0]:=by rw [hw1];exact hw.bl.set 2 _ (by simp)
 have c2:=b1.at_ 2 _ rfl
 have hlg:∀ g,lv.ownBlock=some g→wA.heap.size≤g:=fun g hg=>(o.lt g hg).1
 obtain ⟨lA,lc,rfl,_,_⟩:=own_form o
 have HH:=hid (And.intro h (And.intro kA (And.intro k1 (And.intro b1 (And.intro o1 (And.intro hn1 hlg))))))
 clear h kA o hw o1 b1 hn1 hm hlg k1 hwbl
 go_enter Tryz.func21,Tryz.ntmps21
 go_upto_region 1 with fail
 rw [←hw1]
 clear hw1 d2 f2
 go_wp2_with fail
 go_loopw [5] (fun ix wr=>∃ i:Nat,ix=.int .i64 i∧i≤k∧Hid (wr.ownsRow wA.heap.size 3 1 (.slice lA k lc) k (List.replicate i (.int .i64 (m:Int))++xs.drop i)∧Kp (Value.slice lA k lc).ownBlock.toList w1 wr)) (fun ix _=>2000 - (intOf ix).toNat)
 case atStart=>exact ⟨0,rfl,Nat.zero_le _,hid ⟨HH.out.2.2.2.2.1,Kp.refl _ _⟩⟩
 case round=>
  obtain ⟨i,rfl,hi,HR⟩:=hrel
  by_cases hil:i < k
  ·obtain ⟨g,hg⟩:∃ g,lA=some ⟨g,0,none⟩:=by
    rcases HR.out.1.2 with ⟨_,z2⟩ | ⟨g,_,_,z1,_⟩
    ·omega
    ·injection z1 with z1;exact ⟨g,z1⟩
   subst hg
   have hxl:xs.length=k:=by have:=HH.out.2.2.2.2.1.1;omega
   have dl:=HR.out.1.cells (g:=g) rfl i _ (List.getElem?_eq_getElem (by rw [List.length_append,List.length_replicate,List.length_drop];omega))
   rw [Addr.add_mid,Nat.zero_add] at dl
   have fl:=HR.out.1.frozenAt i
   have q1:(i:Int) < (k:Int):=by omega
   have q2:(0:Int)≤(i:Int):=by omega
   have hc1:IntKind.i64.wrap ((i:Int)+1)=((i+1:Nat):Int):=wrap_i64_succ i (i+1) rfl (by omega)
   have HX:=hid hxl
   generalize (List.replicate i (Value.int .i64 (m:Int))++xs.drop i)[i]'(by rw [List.length_append,List.length_replicate,List.length_drop];omega)=old at dl
   clear hxl
   go_wp2_with fail
   go_roundw
   ·refine ⟨i+1,by go_num,by omega,hid ⟨?_,HR.out.2.trans (Kp.setCell _ _ (by simp [Value.ownBlock]))⟩⟩
    rw [←fill_step _ HX.out hil]
    exact (HR.out.1.stored i _).1
   ·simp [intOf];omega
  ·have q1:¬ (i:Int) < (k:Int):=by omega
   have ei:i=k:=by omega
   subst ei
   have hxl:xs.length=i:=by have:=HH.out.2.2.2.2.1.1;omega
   obtain ⟨hh,kA,k1,b1,o1,hn1,hlg⟩:=HH.out
   have o3:=HR.out.1
   rw [List.drop_eq_nil_of_le (by omega),List.append_nil] at o3
   have k3:=HR.out.2
   have HB:Hid (Tryz.prog.built 62 [(0,.slice lA i lc),(4,.int .i64 (m:Int))]=some [.slice lA i lc,.slice none 0 0,.slice none 0 0,.slice none 0 0,.int .i64 (m:Int)].toArray):=hid (built_ints _ _ _ _)
   obtain ⟨xb,hxb⟩:∃ xb,xb=wr.heap.size:=⟨_,rfl⟩
   have hmm:∀ x∈(Value.slice lA i lc).ownBlock.toList,(Value.slice lA i lc).ownBlock=some x:=fun x hx=>by simpa using hx
   have hsz:wA.heap.size≤wr.heap.size:=Nat.le_trans kA.size (Nat.le_trans k1.size k3.size)
   have st:∀ w4,Bl w4 xb [.slice lA i lc,.slice none 0 0,.slice none 0 0,.slice none 0 0,.int .i64 (m:Int)]→Kp [] wr w4→Ist w0 w4 wb iv es n1 (.slice lA i lc) i m xb [.slice lA i lc,.slice none 0 0,.slice none 0 0,.slice none 0 0,.int .i64 (m:Int)] i [.slice lA i lc]:=fun w4 b4 k4=>by
    have lo4:=own_kp o3 k4 (by simp)
    have wl:=hh.bl.lt
    have ivn:∀ g,iv.ownBlock=some g→g < wA.heap.size:=fun g hg=>(hh.own.lt g hg).2
    have lnn:∀ g,(Value.slice lA i lc).ownBlock=some g→w0.heap.size≤g∧g≠wb∧iv.ownBlock≠some g∧g≠xb:=fun g hg=>by
     have h1:=hlg g hg
     have h2:=(o3.lt g hg).2
     have h3:=hh.kp.size
     exact ⟨by omega,by omega,fun e=>by have:=ivn g e;omega,by omega⟩
    refine ⟨((hh.kp.trans kA).pass k1 fun x hx=>.inr (by rw [List.mem_singleton.1 hx];exact hh.wlo)).pass k3 (fun x hx=>.inr (lnn x (hmm x hx)).1) |>.trans k4,(b1.keep k3 fun hx=>(lnn _ (hmm _ hx)).2.1 rfl).keep k4 (by simp),hh.wlo,?_,hh.ne,fun e he v hv=>?_,own_lower lo4 hh.kp.size,lnn,b4,⟨?_,?_,?_⟩,fun v hv=>?_⟩
    ·refine own_kp (own_kp (own_kp (own_kp hh.own kA (by simp)) k1 fun g hg hx=>hh.ne ?_) k3 fun g hg hx=>(lnn g (hmm g hx)).2.2.1 hg) k4 (by simp)
     rw [←List.mem_singleton.1 hx];exact hg
    ·exact ((((hh.fl e he v hv).keep kA (by simp) (Nat.le_refl _) (Y:=fun g=>w0.heap.size≤g∧g≠wb∧iv.ownBlock≠some g∧g < wA.heap.size) fun g hl x=>⟨x.1,x.2.1,x.2.2,hl⟩).keep k1 (fun g hg hx=>hg.2.1 (List.mem_singleton.1 hx)) (Nat.le_refl _) fun _ _ x=>x).keep k3 (fun g hg hx=>by have:=hlg g (hmm g hx);have:=hg.2.2.2;omega) (Nat.le_refl _) fun _ _ x=>x).keep k4 (by simp) (Nat.le_refl _) fun g hl x=>⟨x.1,x.2.1,x.2.2.1,fun e=>by have:=hlg g e;have:=x.2.2.2;omega,by have:=x.2.2.2;omega⟩
    ·have:=hh.kp.size;omega
    ·omega
    ·exact fun e=>by have:=ivn xb e;omega
    ·rw [List.mem_singleton.1 hv]
     exact Fl.of lo4 (Nat.le_refl _) lnn
   have HST:=hid st
   have HFI:=hid (And.intro hn1 hh.kp.size)
   clear hh kA k1 b1 o1 hn1 hlg o3 k3 st HR HH hmm hsz hxl c2
   go_upto_region 7 with (first | (show wpList _ _ _ (⟨_,.build 62 _,_,_,_,_⟩::_) _ _;refine wpList_bld rfl 62 [(0,.tmp 29),(4,.tmp 30)] rfl _ _ rfl HB.out ?_) | (show wpList _ _ _ (⟨_,.store 62 _ _,_,_,_,_⟩::_) _ _;refine newVarR (w1:=wr) rfl 62 (.tmp 6) (.tmp 31) rfl _ _ [.slice lA i lc,.slice none 0 0,.slice none 0 0,.slice none 0 0,.int .i64 (m:Int)] rfl rfl rfl Tryz.szInts (fun u hu=>by simp at hu;rcases hu with rfl | rfl | rfl <;> rfl) ?_;intro w4 b4 k4))
   rw [←hxb] at b4 ⊢
   have H4:=hid (HST.out w4 b4 k4)
   clear b4 k4 hxb HST HB
   have HH4a:=hid (H4.out.keep (Kp.alloc [] w4 (.cells #[.int .i64 (m:Int)] 3)))
   go_upto_region 8 with (first | (at_builtin;refine wpList_appF rfl (.tmp 32) (.tmp 34) rfl (j:=1) rfl HH4a.out.lo ⟨w4.heap.size,0,none⟩ 1 rfl (fun q hq=>by rw [Addr.add_mid,Nat.zero_add];exact (Bl.alloc w4 [.int .i64 (m:Int)] 3).at_ q _ (by match q,hq with | 0,_=>rfl)) (by decide) (by decide) hk HH4a.out.kp.size [.slice lA i lc] (fun v hv=>(HH4a.out.acc v hv).keep (Kp.refl [] _) (by simp) (by omega) (fun _ _ x=>x)) HH4a.out.ln (fun g hg=>HH4a.out.far g hg) ?_;intro v1 w5p lo1 fv1 fa1 kp1 hv1;obtain ⟨g1,cp1,rfl⟩:=hv1;have HH5p:=hid (HH4a.out.app (N':=i+1) (acc':=.slice (some ⟨g1,0,none⟩) (i+1) cp1::[.slice lA i lc]) kp1 lo1 (fun v hv=>Or.elim (List.mem_cons.1 hv) (fun e=>by rw [e];exact fv1) (fun h=>fa1 v h)));have cx1:=HH5p.out.xv.at_ 1 _ rfl;have fx1:=HH5p.out.xv.free 1;clear lo1 fv1 fa1 kp1))
   clear cx1 fx1
   obtain ⟨w5,hw5⟩:∃ w5,w5=w5p.setCell ⟨xb,1,none⟩ (.slice (some ⟨g1,0,none⟩) (i+1) cp1):=⟨_,rfl⟩
   rw [←hw5]
   have H5:Hid (Ist w0 w5 wb iv es n1 (.slice lA i lc) i m xb [.slice lA i lc,.slice (some ⟨g1,0,none⟩) (i+1) cp1,.slice none 0 0,.slice none 0 0,.int .i64 (m:Int)] (i+1) [.slice (some ⟨g1,0,none⟩) (i+1) cp1,.slice lA i lc]):=hid (by rw [hw5];exact HH5p.out.set 1 _ (by simp))
   clear HH4a HH5p hw5
   have HH5a:=hid (H5.out.keep (Kp.alloc [] w5 (.cells #[.int .i64 (m:Int),.int .i64 (m:Int)] 3)))
   go_upto_region 9 with (first | (at_builtin;refine wpList_appF rfl (.tmp 37) (.tmp 40) rfl (j:=2) rfl HH5a.out.lo ⟨w5.heap.size,0,none⟩ 2 rfl (fun q hq=>by rw [Addr.add_mid,Nat.zero_add];exact (Bl.alloc w5 [.int .i64 (m:Int),.int .i64 (m:Int)] 3).at_ q _ (by match q,hq with | 0,_=>rfl | 1,_=>rfl)) (by decide) (by decide) hk HH5a.out.kp.size [.slice (some ⟨g1,0,none⟩) (i+1) cp1,.slice lA i lc] (fun v hv=>(HH5a.out.acc v hv).keep (Kp.refl [] _) (by simp) (by omega) (fun _ _ x=>x)) HH5a.out.ln (fun g hg=>HH5a.out.far g hg) ?_;intro v2 w6p lo2 fv2 fa2 kp2 hv2;obtain ⟨g2,cp2,rfl⟩:=hv2;have HH6p:=hid (HH5a.out.app (N':=i+2) (acc':=.slice (some ⟨g2,0,none⟩) (i+2) cp2::[.slice (some ⟨g1,0,none⟩) (i+1) cp1,.slice lA i lc]) kp2 lo2 (fun v hv=>Or.elim (List.mem_cons.1 hv) (fun e=>by rw [e];exact fv2) (fun h=>fa2 v h)));have cx2:=HH6p.out.xv.at_ 2 _ rfl;have fx2:=HH6p.out.xv.free 2;clear lo2 fv2 fa2 kp2))
   clear cx2 fx2
   obtain ⟨w6,hw6⟩:∃ w6,w6=w6p.setCell ⟨xb,2,none⟩ (.slice (some ⟨g2,0,none⟩) (i+2) cp2):=⟨_,rfl⟩
   rw [←hw6]
   have H6:Hid (Ist w0 w6 wb iv es n1 (.slice lA i lc) i m xb [.slice lA i lc,.slice (some ⟨g1,0,none⟩) (i+1) cp1,.slice (some ⟨g2,0,none⟩) (i+2) cp2,.slice none 0 0,.int .i64 (m:Int)] (i+2) [.slice (some ⟨g2,0,none⟩) (i+2) cp2,.slice (some ⟨g1,0,none⟩) (i+1) cp1,.slice lA i lc]):=hid (by rw [hw6];exact HH6p.out.set 2 _ (by simp))
   clear HH5a HH6p hw6
   have HH6a:=hid (H6.out.keep (Kp.alloc [] w6 (.cells #[.int .i64 (m:Int),.int .i64 (m:Int),.int .i64 (m:Int)] 3)))
   go_upto_region 10 with (first | (at_builtin;refine wpList_appF rfl (.tmp 43) (.tmp 47) rfl (j:=3) rfl HH6a.out.lo ⟨w6.heap.size,0,none⟩ 3 rfl (fun q hq=>by rw [Addr.add_mid,Nat.zero_add];exact (Bl.alloc w6 [.int .i64 (m:Int),.int .i64 (m:Int),.int .i64 (m:Int)] 3).at_ q _ (by match q,hq with | 0,_=>rfl | 1,_=>rfl | 2,_=>rfl)) (by decide) (by decide) hk HH6a.out.kp.size [.slice (some ⟨g2,0,none⟩) (i+2) cp2,.slice (some ⟨g1,0,none⟩) (i+1) cp1,.slice lA i lc] (fun v hv=>(HH6a.out.acc v hv).keep (Kp.refl [] _) (by simp) (by omega) (fun _ _ x=>x)) HH6a.out.ln (fun g hg=>HH6a.out.far g hg) ?_;intro v3 w7p lo3 fv3 fa3 kp3 hv3;obtain ⟨g3,cp3,rfl⟩:=hv3;have HH7p:=hid (HH6a.out.app (N':=i+3) (acc':=.slice (some ⟨g3,0,none⟩) (i+3) cp3::[.slice (some ⟨g2,0,none⟩) (i+2) cp2,.slice (some ⟨g1,0,none⟩) (i+1) cp1,.slice lA i lc]) kp3 lo3 (fun v hv=>Or.elim (List.mem_cons.1 hv) (fun e=>by rw [e];exact fv3) (fun h=>fa3 v h)));have cx3:=HH7p.out.xv.at_ 3 _ rfl;have fx3:=HH7p.out.xv.free 3;clear lo3 fv3 fa3 kp3))
   clear cx3 fx3
   obtain ⟨w7,hw7⟩:∃ w7,w7=w7p.setCell ⟨xb,3,none⟩ (.slice (some ⟨g3,0,none⟩) (i+3) cp3):=⟨_,rfl⟩
   rw [←hw7]
   have H7:Hid (Ist w0 w7 wb iv es n1 (.slice lA i lc) i m xb [.slice lA i lc,.slice (some ⟨g1,0,none⟩) (i+1) cp1,.slice (some ⟨g2,0,none⟩) (i+2) cp2,.slice (some ⟨g3,0,none⟩) (i+3) cp3,.int .i64 (m:Int)] (i+3) [.slice (some ⟨g3,0,none⟩) (i+3) cp3,.slice (some ⟨g2,0,none⟩) (i+2) cp2,.slice (some ⟨g1,0,none⟩) (i+1) cp1,.slice lA i lc]):=hid (by rw [hw7];exact HH7p.out.set 3 _ (by simp))
   clear HH6a HH7p hw7
   obtain ⟨e,he⟩:∃ e:Be,e=⟨.slice lA i lc,.slice (some ⟨g1,0,none⟩) (i+1) cp1,.slice (some ⟨g2,0,none⟩) (i+2) cp2,.slice (some ⟨g3,0,none⟩) (i+3) cp3,(m:Int)⟩:=⟨_,rfl⟩
   have HE:=hid he
   have h7:=H7.out
   rw [show [.slice lA i lc,.slice (some ⟨g1,0,none⟩) (i+1) cp1,.slice (some ⟨g2,0,none⟩) (i+2) cp2,.slice (some ⟨g3,0,none⟩) (i+3) cp3,.int .i64 (m:Int)]=beC e by rw [he];rfl] at h7
   have he1:∀ u∈beC e,u.oneCell'=true:=by
    rw [he]
    intro u hu
    simp only [beC,List.mem_cons,List.not_mem_nil,or_false] at hu
    rcases hu with rfl | rfl | rfl | rfl | rfl <;> rfl
   have HE1:=hid he1
   have hel:(beC e).length=5:=rfl
   obtain ⟨t0,zt,hj,hz0,hz1,hz2,hz3⟩:=ints_parts
   have HJ:=hid (And.intro hj (And.intro hz0 (And.intro hz1 (And.intro hz2 hz3))))
   have c3:=h7.bl.at_ 3 _ rfl
   have ka:Kp [] w7 (w7.drew.alloc (.cells (beC e).toArray 62)):=(Kp.drew _ _).trans (Kp.alloc _ _ _)
   have hS:(fun w':World=>w'.cell? ⟨wb,3,none⟩=some iv∧w'.rangeAt xb 0 (beC e)) w7.drew:=⟨c3,h7.xv.range⟩
   have HS8:Hid ((fun w':World=>w'.cell? ⟨wb,3,none⟩=some iv∧w'.rangeAt xb 0 (beC e)) (w7.drew.alloc (.cells (beC e).toArray 62))):=hid ⟨(h7.bl.keep ka (by simp)).at_ 3 _ rfl,(h7.xv.keep ka (by simp)).range⟩
   have OW:Hid ((w7.drew.alloc (.cells (beC e).toArray 62)).ownsRow w0.heap.size 62 5 iv es.length (flatB es)):=hid (own_kp h7.own ka (by simp))
   have NW:Hid (∀ j u,(beC e)[j]? = some u→(w7.drew.alloc (.cells (beC e).toArray 62)).cell? ((⟨w7.heap.size,0,none⟩:Addr).add j)=some u):=hid (fun j u hu=>by
    rw [Addr.add_mid,Nat.zero_add]
    exact (Bl.alloc w7.drew _ 62).at_ j u hu)
   have HSZ:Hid (w0.heap.size≤(w7.drew.alloc (.cells (beC e).toArray 62)).heap.size):=hid (Nat.le_trans h7.kp.size ka.size)
   have HG:Hid (∀ gb8 cap8 w8,w8.ownsRow w0.heap.size 62 5 (.slice (some ⟨gb8,0,none⟩) (es.length+1) cap8) (es.length+1) (flatB es++beC e)→(w7.drew.alloc (.cells (beC e).toArray 62)).grownBy w8 iv.ownBlock→(iv.ownBlock=some gb8∨(w7.drew.alloc (.cells (beC e).toArray 62)).heap.size≤gb8)→Bl w8 wb [.slice none 0 0,.slice none 0 0,.int .i64 (n1:Nat),iv,.slice none 0 0]∧Bl w8 xb (beC e)∧Bkx w0 (w8.setCell ⟨wb,3,none⟩ (.slice (some ⟨gb8,0,none⟩) (es.length+1) cap8)) wb (.slice (some ⟨gb8,0,none⟩) (es.length+1) cap8) (es++[e]) n1):=hid (fun gb8 cap8 w8 ho8 hg8 hor8=>by
    have q:Kp iv.ownBlock.toList (w7.drew.alloc (.cells (beC e).toArray 62)) w8:=kp_grownR hg8 (by simp)
    have hm:∀ x∈iv.ownBlock.toList,iv.ownBlock=some x:=fun x hx=>by simpa using hx
    exact ⟨(h7.bl.keep ka (by simp)).keep q fun hx=>h7.ne (hm _ hx),(h7.xv.keep ka (by simp)).keep q fun hx=>h7.xn.2.2 (hm _ hx),h7.done (by omega) (by rw [HE.out]) (by rw [HE.out];intro v hv;simp at hv ⊢;rcases hv with rfl | rfl | rfl | rfl <;> simp) ka ho8 hg8 hor8⟩)
   clear hj hz0 hz1 hz2 hz3 ka c3 h7 he1 he H7
   refine wp_region_T (fun w':World=>w'.cell? ⟨wb,3,none⟩=some iv∧w'.rangeAt xb 0 (beC e)) 10 (by kernel_rfl) ?_
   refine tk1 0 (v:=?_) rfl (by kernel_rfl) (fun _ _ _ h=>h) ⟨rfl,fun w hSw=>?_⟩ hS ?_;rotate_left;· ((try dsimp only at hSw);go_simp;(try with_reducible rfl))
   (try simp only [List.getElem_toArray,List.getElem_cons_succ,List.getElem_cons_zero,Act.put,List.setIfInBounds_toArray,List.set_cons_zero,List.set_cons_succ])
   refine tk1 1 (v:=?_) rfl (by kernel_rfl) (fun _ _ _ h=>h) ⟨rfl,fun w hSw=>?_⟩ hS ?_;rotate_left;· ((try dsimp only at hSw);go_simp;(try with_reducible rfl))
   (try simp only [List.getElem_toArray,List.getElem_cons_succ,List.getElem_cons_zero,Act.put,List.setIfInBounds_toArray,List.set_cons_zero,List.set_cons_succ])
   refine tk1 2 (v:=?_) rfl (by kernel_rfl) (fun _ _ _ h=>h) ⟨rfl,fun w hSw=>?_⟩ hS ?_;rotate_left;· ((try dsimp only at hSw);go_simp;(try with_reducible rfl))
   (try simp only [List.getElem_toArray,List.getElem_cons_succ,List.getElem_cons_zero,Act.put,List.setIfInBounds_toArray,List.set_cons_zero,List.set_cons_succ])
   refine tk1 3 (v:=?_) rfl (by kernel_rfl) (fun _ _ _ h=>h) ⟨rfl,fun w hSw=>?_⟩ hS ?_;rotate_left;· ((try dsimp only at hSw);go_simp;(try with_reducible rfl))
   (try simp only [List.getElem_toArray,List.getElem_cons_succ,List.getElem_cons_zero,Act.put,List.setIfInBounds_toArray,List.set_cons_zero,List.set_cons_succ])
   refine tk1 4 (v:=?_) rfl (by kernel_rfl) (fun _ _ _ h=>h) ⟨rfl,fun w hSw=>?_⟩ hS ?_;rotate_left;· ((try dsimp only at hSw);go_simp;(try with_reducible rfl))
   (try simp only [List.getElem_toArray,List.getElem_cons_succ,List.getElem_cons_zero,Act.put,List.setIfInBounds_toArray,List.set_cons_zero,List.set_cons_succ])
   refine' wpAnyT_take (i:=5) (v:=_) rfl (by kernel_rfl) (by kernel_rfl) (by kernel_rfl) (by kernel_rfl) (fun _ _ _ h=>h) (yieldsIf_load_mid (by rfl) _ _ rfl _ _ rfl (beC e) _ ?hS6 ?hu6 ?hd6 ?hi6) hS ?r6
   case hS6=>(intro w hw;exact hw.2)
   case hu6=>exact Tryz.underlying62
   case hd6=>rfl
   case hi6=>exact Tryz.szInts
   simp only [List.getElem_toArray,List.getElem_cons_succ,List.getElem_cons_zero,Act.put,List.setIfInBounds_toArray,List.set_cons_zero,List.set_cons_succ]
   refine wpAnyT_one (i:=6) (by kernel_rfl) rfl (fun K hK=>?_)
   refine step_one (by rfl) 28 62 (.tmp 55) (by rfl) (beC e) t0 zt 5 (by rfl) Tryz.underlying28 HJ.out.1 HJ.out.2.1 HJ.out.2.2.1 HJ.out.2.2.2.2 hel (by omega) (by omega) ?_
   refine hK.out _ _ (.inr HS8.out) ?_
   clear hK K
   simp only [List.getElem_toArray,List.getElem_cons_succ,List.getElem_cons_zero,Act.put,List.setIfInBounds_toArray,List.set_cons_zero,List.set_cons_succ]
   refine wpAnyT_one (i:=7) (by kernel_rfl) rfl (fun K hK=>?_)
   refine step_append2 (by rfl) (.tmp 54) (.tmp 56) 28 (by rfl) w0.heap.size 62 t0 zt 5 104 Tryz.underlying28 HJ.out.1 HJ.out.2.1 HJ.out.2.2.1 HJ.out.2.2.2.1 HJ.out.2.2.2.2 (by decide) iv es.length (flatB es) (by rfl) OW.out ⟨w7.heap.size,0,none⟩ 1 1 (beC e) (by rfl) (by rw [hel]) NW.out HE1.out (by unfold maxLen;omega) (by omega) HSZ.out (by omega) ?_
   intro gb8 cap8 w8 ho8 hg8 hor8
   obtain ⟨b8,x8,K8⟩:=HG.out gb8 cap8 w8 ho8 hg8 hor8
   have c3:=b8.at_ 3 _ rfl
   have f3:=b8.free 3
   have S8:(fun w':World=>w'.cell? ⟨wb,3,none⟩=some iv∧w'.rangeAt xb 0 (beC e)) w8:=⟨c3,x8.range⟩
   have H8:=hid K8
   clear ho8 hg8 hor8 b8 x8 K8
   refine hK.out _ _ (.inr S8) ?_
   clear hK K
   simp only [List.getElem_toArray,List.getElem_cons_succ,List.getElem_cons_zero,Act.put,List.setIfInBounds_toArray,List.set_cons_zero,List.set_cons_succ]
   refine wpAnyT_one (i:=8) (by kernel_rfl) rfl (fun K hK=>?_)
   go_simp
   refine hK.out _ _ (.inr S8) ?_
   clear hK K
   refine wpAnyT_one (i:=9) (by kernel_rfl) rfl (fun K hK=>?_)
   go_simp
   refine hK.out _ _ (.inr S8) ?_
   clear hK K
   refine wpAnyT_one (i:=10) (by kernel_rfl) rfl (fun K hK=>?_)
   go_simp
   refine hK.out _ _ (.inl rfl) ?_
   clear hK K
   refine wpAnyT_done (by kernel_rfl) ?_ _
   clear S8 hS c3 f3
   go_wp2_with fail
   go_end0
   exact ⟨rfl,_,e,by rw [←HFI.out.1];exact H8.out⟩
end
