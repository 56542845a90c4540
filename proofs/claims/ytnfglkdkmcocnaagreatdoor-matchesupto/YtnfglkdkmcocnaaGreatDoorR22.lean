import Derived.Test.YtnfglkdkmcocnaaGreatDoorR20
import Derived.Test.YtnfglkdkmcocnaaGreatDoorR21
import Derived.Test.YtnfglkdkmcocnaaGreatDoorR16
set_option maxRecDepth 100000
set_option maxHeartbeats 16000000
set_option linter.all false
namespace Go.Proofs.YtnfglkdkmcocnaaGreatDoor
open Go.RowKit
inductive Pn.Ok:Pn→Prop
 | one (m:Nat→Bool):Pn.Ok (.one m)
 | edge {k:Nat} (h:k=1∨k=2):Pn.Ok (.edge k)
 | group {g:Nat} {x:Pn} (h1:1≤g) (h2:g≤9) (h:Pn.Ok x):Pn.Ok (.group g x)
 | rep {x:Pn} {a:Nat} {b:Option Nat} (hb:okB a b) (h:Pn.Ok x):Pn.Ok (.rep x a b)
 | row {l:List Pn} (h:∀ x∈l,Pn.Ok x):Pn.Ok (.row l)
 | brs {l:List Pn} (hl:l≠[]) (h:∀ x∈l,Pn.Ok x):Pn.Ok (.brs l)
theorem num_ok {src:ByteArray} {k l v:Nat} (h:numP src k=.ok (l,v)):v≤20:=by
 have:=num_g (src:=src) (k:=k)
 rw [h] at this
 exact this.2.1
theorem rep_ok {src:ByteArray} {k l:Nat} {r:Option (Nat×Option Nat)} (hk:k≤src.size) (h:repP src k=.ok (l,r)):okR r:=by
 have:=rep_g (src:=src) (k:=k) hk
 rw [h] at this
 exact this.1
theorem Pn.Ok.times {x:Pn} (h:x.Ok) {r:Option (Nat×Option Nat)} (hr:okR r):(x.times r).Ok:=by
 cases r with
 | none=>exact h
 | some p=>exact .rep hr h
theorem repP_big {src:ByteArray} {k:Nat} (h:src.size < k):repP src k=.ok (k,none):=by
 have hs:∀ x,saw src k x=false:=fun x=>by unfold saw;rw [dif_neg (by omega)]
 simp [repP,hs]
theorem nodes_ok (src:ByteArray):∀ n,(∀ k g l g' x,g≤9→atomP src n k g=.ok (l,g',x)→x.Ok∧g≤g'∧g'≤9) ∧
  (∀ k g l g' x,g≤9→pieceP src n k g=.ok (l,g',x)→x.Ok∧g≤g'∧g'≤9) ∧
  (∀ k g l g' xs,g≤9→rowP src n k g=.ok (l,g',xs)→(∀ x∈xs,Pn.Ok x)∧g≤g'∧g'≤9) ∧
  (∀ k g l g' xs,g≤9→moreP src n k g=.ok (l,g',xs)→(∀ x∈xs,Pn.Ok x)∧g≤g'∧g'≤9) ∧
  (∀ k g l g' x,g≤9→brsP src n k g=.ok (l,g',x)→x.Ok∧g≤g'∧g'≤9)
 | 0=>⟨fun _ _ _ _ _ _ h=>(by unfold atomP at h;cases h),fun _ _ _ _ _ _ h=>(by unfold pieceP at h;cases h),fun _ _ _ _ _ _ h=>(by unfold rowP at h;cases h),fun _ _ _ _ _ _ h=>(by unfold moreP at h;cases h),fun _ _ _ _ _ _ h=>(by unfold brsP at h;cases h)⟩
 | n+1=>by
  obtain ⟨hA,hP,hR,hM,hB⟩:=nodes_ok src n
  refine ⟨fun k g l g' x hg h=>?_,fun k g l g' x hg h=>?_,fun k g l g' xs hg h=>?_,fun k g l g' xs hg h=>?_,fun k g l g' x hg h=>?_⟩
  ·unfold atomP at h
   split at h
   ·split at h
    ·cases h
    ·split at h
     ·cases h
     ·rename_i h9 _ l1 g1 x1 hb
      split at h
      ·injection h with h
       injection h with h1 h
       injection h with h2 h3
       subst h1 h2 h3
       obtain ⟨b1,b2,b3⟩:=hB _ _ _ _ _ (by omega) hb
       exact ⟨.group (by omega) (by omega) b1,by omega,b3⟩
      ·cases h
   ·split at h
    ·injection h with h
     injection h with h1 h
     injection h with h2 h3
     subst h1 h2 h3
     exact ⟨.one _,Nat.le_refl _,hg⟩
    ·split at h
     ·split at h
      ·cases h
      ·injection h with h
       injection h with h1 h
       injection h with h2 h3
       subst h1 h2 h3
       exact ⟨.one _,Nat.le_refl _,hg⟩
     ·split at h
      ·cases h
      ·injection h with h
       injection h with h1 h
       injection h with h2 h3
       subst h1 h2 h3
       exact ⟨.one _,Nat.le_refl _,hg⟩
  ·unfold pieceP at h
   split at h
   ·injection h with h
    injection h with h1 h
    injection h with h2 h3
    subst h1 h2 h3
    exact ⟨.edge (.inl rfl),Nat.le_refl _,hg⟩
   ·split at h
    ·injection h with h
     injection h with h1 h
     injection h with h2 h3
     subst h1 h2 h3
     exact ⟨.edge (.inr rfl),Nat.le_refl _,hg⟩
    ·split at h
     ·cases h
     ·rename_i l1 g1 x1 ha
      split at h
      ·cases h
      ·rename_i l2 r hr
       injection h with h
       injection h with h1 h
       injection h with h2 h3
       subst h1 h2 h3
       obtain ⟨a1,a2,a3⟩:=hA _ _ _ _ _ hg ha
       refine ⟨a1.times ?_,a2,a3⟩
       by_cases hl:l1≤src.size
       ·exact rep_ok hl hr
       ·rw [repP_big (by omega)] at hr
        injection hr with hr
        injection hr with _ hr
        subst hr
        trivial
  ·unfold rowP at h
   split at h
   ·split at h
    ·cases h
    ·rename_i l1 g1 x1 ha
     split at h
     ·cases h
     ·rename_i l2 g2 xs2 hr
      injection h with h
      injection h with h1 h
      injection h with h2 h3
      subst h1 h2 h3
      obtain ⟨a1,a2,a3⟩:=hP _ _ _ _ _ hg ha
      obtain ⟨c1,c2,c3⟩:=hR _ _ _ _ _ a3 hr
      exact ⟨fun x hx=>by
       rcases List.mem_cons.1 hx with e | e
       ·subst e;exact a1
       ·exact c1 x e,by omega,c3⟩
   ·injection h with h
    injection h with h1 h
    injection h with h2 h3
    subst h1 h2 h3
    exact ⟨fun x hx=>(by cases hx),Nat.le_refl _,hg⟩
  ·unfold moreP at h
   split at h
   ·split at h
    ·cases h
    ·rename_i l1 g1 x1 ha
     split at h
     ·cases h
     ·rename_i l2 g2 xs2 hr
      injection h with h
      injection h with h1 h
      injection h with h2 h3
      subst h1 h2 h3
      obtain ⟨a1,a2,a3⟩:=hR _ _ _ _ _ hg ha
      obtain ⟨c1,c2,c3⟩:=hM _ _ _ _ _ a3 hr
      exact ⟨fun x hx=>by
       rcases List.mem_cons.1 hx with e | e
       ·subst e;exact .row a1
       ·exact c1 x e,by omega,c3⟩
   ·injection h with h
    injection h with h1 h
    injection h with h2 h3
    subst h1 h2 h3
    exact ⟨fun x hx=>(by cases hx),Nat.le_refl _,hg⟩
  ·unfold brsP at h
   split at h
   ·cases h
   ·rename_i l1 g1 x1 ha
    split at h
    ·cases h
    ·rename_i l2 g2 xs2 hr
     injection h with h
     injection h with h1 h
     injection h with h2 h3
     subst h1 h2 h3
     obtain ⟨a1,a2,a3⟩:=hR _ _ _ _ _ hg ha
     obtain ⟨c1,c2,c3⟩:=hM _ _ _ _ _ a3 hr
     exact ⟨.brs (by simp) fun x hx=>by
      rcases List.mem_cons.1 hx with e | e
      ·subst e;exact .row a1
      ·exact c1 x e,by omega,c3⟩
mutual
def Pn.rl (text:ByteArray):Pn→Nat→Rl
 | .one m=>mOne text m
 | .edge k=>fun _=>mEdge text k
 | .group g x=>fun d=>mGroup g (x.rl text d)
 | .rep x a b=>mRep (x.rl text) a b
 | .row l=>mRowF (rlL text l)
 | .brs l=>mAny (rlL text l)
def rlL (text:ByteArray):List Pn→List (Nat→Rl)
 | []=>[]
 | x::l=>x.rl text::rlL text l
end
theorem zip_pi (text:ByteArray):∀ l:List Pn,(l.map fun x=>((x.pi,x.rl text):Mn)).map (·.1)=piL l∧(l.map fun x=>((x.pi,x.rl text):Mn)).map (·.2)=rlL text l
 | []=>⟨rfl,rfl⟩
 | x::l=>by
  have:=zip_pi text l
  exact ⟨by simp [piL,this.1],by simp [rlL,this.2]⟩
theorem Pn.Ok.sm (text:ByteArray) {x:Pn} (h:x.Ok):SmP text x.pi (x.rl text):=by
 induction h with
 | one m=>exact smP_one m
 | edge h=>exact smP_edge _ h
 | group h1 h2 _ ih=>exact smP_group ih h1 h2
 | rep hb _ ih=>exact smP_rep ih _ _ (fun m e=>by subst e;exact hb.1)
 | @row l _ ih=>
  have z:=zip_pi text l
  have:=smP_row (text:=text) (l.map fun x=>((x.pi,x.rl text):Mn)) (fun p hp=>by
   obtain ⟨x,hx,rfl⟩:=List.mem_map.1 hp
   exact ih x hx)
  rw [z.1,z.2] at this
  exact this
 | @brs l hl _ ih=>
  have z:=zip_pi text l
  have:=smP_branches (text:=text) (l.map fun x=>((x.pi,x.rl text):Mn)) (by simpa using hl) (fun p hp=>by
   obtain ⟨x,hx,rfl⟩:=List.mem_map.1 hp
   exact ih x hx)
  rw [z.1,z.2] at this
  exact this
structure PatG (G:Nat) (x:Pn):Prop where
 ok:x.Ok
 g:G≤9
 sz:x.pi.sz≤300
 len:1+x.pi.len≤601
 dd:(1+x.pi.len) * (x.pi.dd+1)≤9000
def ReadFP (src:ByteArray) (fr E pl:Nat):Prop:=∀ w:World,Nm w→Calls Tryz.prog 63 #[.string src,.int .i64 (fr:Int)] w fun e w'=>e=Flt E pl∧Kp [] w w'
section
variable {src:ByteArray} {fr:Nat}
theorem readF_longP (h:100+fr < src.size) (hsz:src.size < 4611686018427387904):ReadFP src fr 1 fr:=by
 intro w _
 have hlen:IntKind.i64.wrap ((src.size:Int) - (fr:Int))=((src.size - fr:Nat):Int):=by rw [IntKind.wrap_i64];omega
 have hlen2:(100:Int) < ((src.size - fr:Nat):Int):=by omega
 clear h
 go_enter Tryz.func63,Tryz.ntmps63
 go_wp2_with fail
 exact ⟨rfl,rfl,Kp.refl _ _⟩
theorem readF_whole {pl:Nat} (hs:src.size≤2000) (hf:fr≤src.size) (h1:src.size≤100+fr) (h:FailN 111 src fr 0 pl):ReadFP src fr 2 pl:=by
 intro w hw
 have hb0:w.heap.size≠4:=by have:=hw.lt;omega
 obtain ⟨o,ho⟩:∃ o:Obj,o=.cells #[.string src,.int .i64 (fr:Int),.int .i64 2,.int .i64 0] 218:=⟨_,rfl⟩
 have k0:=Kp.alloc [] w o
 have r0:Rd (w.alloc o) w.heap.size src fr 0:=by
  rw [ho];exact ⟨by simp,hf,hs,by simp,by simp,by simp,by simp,fun i=>by simp⟩
 have hlen:IntKind.i64.wrap ((src.size:Int) - (fr:Int))=((src.size - fr:Nat):Int):=by rw [IntKind.wrap_i64];omega
 have hlen2:¬ (100:Int) < ((src.size - fr:Nat):Int):=by omega
 go_enter Tryz.func63,Tryz.ntmps63
 go_wp2_with fail
 rw [←ho]
 refine (h _ _ hb0 r0 (hw.keep k0 (by simp))).mono ?_
 rintro e w1 ⟨rfl,k1⟩
 go_wp2_with fail
 exact ⟨rfl,rfl,(Kp.own (x:=w.heap.size) ((k0.mono (by simp)).trans k1) (Nat.le_refl _))⟩
theorem readF_size {G:Nat} {p:Pi} (hs:src.size≤2000) (hf:fr≤src.size) (h1:src.size≤100+fr) (h:ReadsN src fr G p) (hp:p.sz=301):ReadFP src fr 3 src.size:=by
 intro w hw
 have hb0:w.heap.size≠4:=by have:=hw.lt;omega
 obtain ⟨o,ho⟩:∃ o:Obj,o=.cells #[.string src,.int .i64 (fr:Int),.int .i64 2,.int .i64 0] 218:=⟨_,rfl⟩
 have k0:=Kp.alloc [] w o
 have r0:Rd (w.alloc o) w.heap.size src fr 0:=by
  rw [ho];exact ⟨by simp,hf,hs,by simp,by simp,by simp,by simp,fun i=>by simp⟩
 have hlen:IntKind.i64.wrap ((src.size:Int) - (fr:Int))=((src.size - fr:Nat):Int):=by rw [IntKind.wrap_i64];omega
 have hlen2:¬ (100:Int) < ((src.size - fr:Nat):Int):=by omega
 go_enter Tryz.func63,Tryz.ntmps63
 go_wp2_with fail
 rw [←ho]
 refine (h _ _ hb0 r0 (hw.keep k0 (by simp))).mono ?_
 rintro e w1 ⟨i,rfl,htv,⟨e1,e2,e3,e4⟩,⟨lo,hi,hhi,nd⟩,r1,k1⟩
 obtain ⟨fs,m1,_,cs⟩:=nd.sized
 have q1:=m1 w1
 rw [htv] at q1
 have hfs:fs=308:=ok_fst (q1.symm.trans (size_of_branches i.xv w1))
 subst hfs
 have CS:=hid (cs w1 (Same.refl lo hhi))
 rw [e1,hp] at CS
 clear cs m1 q1 nd h hp e1 e2 e3 e4
 unfold It.v
 rw [htv]
 have hm:=size_of_branches
 obtain ⟨xv,hxv⟩:∃ xv,i.xv=xv:=⟨_,rfl⟩
 rw [hxv] at CS ⊢
 go_wp2_with fail
 refine CS.out.mono ?_
 rintro e w2 ⟨rfl,k2⟩
 clear hm
 go_wp2_with fail
 exact ⟨rfl,rfl,(Kp.own (x:=w.heap.size) ((k0.mono (by simp)).trans (k1.trans (k2.mono (by simp)))) (Nat.le_refl _))⟩
theorem readP_g (hs:src.size≤2000) (hf:fr≤src.size):match readP src fr with
  | .ok (G,x)=>PatG G x∧src.size≤100+fr∧Reads src fr G (1+x.pi.len) ((x.pi.em 1 0 0).2:Nat) x.pi.dd (flatI (codeOf x.pi))
  | .error (E,pl)=>ReadFP src fr E pl∧1≤E∧E≤3:=by
 unfold readP
 by_cases h1:100+fr < src.size
 ·rw [if_pos h1]
  exact ⟨readF_longP h1 (by omega),by omega,by omega⟩
 rw [if_neg h1]
 have hb:=(read_all src (4 * (src.size - fr)+4)).2.2.2.2 fr 0 hf (by omega) (by omega) (by omega)
 unfold BrsR at hb
 cases hr:brsP src (4 * (src.size - fr)+4) fr 0 with
 | error pl=>
  rw [hr] at hb
  exact ⟨readF_whole hs hf (by omega) (whole_fail hb),by omega,by omega⟩
 | ok p=>
  obtain ⟨l,g,x⟩:=p
  rw [hr] at hb
  obtain ⟨b1,b2,b3,b4,b5,b6,b7,b8⟩:=hb
  dsimp only
  by_cases hl:l < src.size
  ·rw [if_pos hl]
   exact ⟨readF_whole hs hf (by omega) (whole_left b1 hl),by omega,by omega⟩
  ·rw [if_neg hl]
   have e:l=src.size:=by omega
   subst e
   by_cases hz:300 < x.pi.sz
   ·rw [if_pos hz]
    exact ⟨readF_size hs hf (by omega) (readsN_of b1) (by omega),by omega,by omega⟩
   ·rw [if_neg hz]
    have hlen:=b6 (by omega)
    have hok:=(nodes_ok src _).2.2.2.2 _ _ _ _ _ (by omega) hr
    have hd:x.pi.dd≤10:=by omega
    refine ⟨⟨hok.1,b5,by omega,by omega,?_⟩,by omega,reads_node (readsN_of b1) (by omega) (by omega)⟩
    calc (1+x.pi.len) * (x.pi.dd+1)≤601 * 11:=Nat.mul_le_mul (by omega) (by omega)
     _≤9000:=by omega
end
mutual
def Pn.wt (text:ByteArray):Pn→Wt
 | .one m=>wOne text m
 | .edge k=>wEdge text k
 | .group g x=>wGroup g (x.wt text)
 | .rep x a b=>wRep text (x.wt text) a b
 | .row l=>wRowF (wtL text l)
 | .brs l=>wAny (wtL text l)
def wtL (text:ByteArray):List Pn→List Wt
 | []=>[]
 | x::l=>x.wt text::wtL text l
end
mutual
def Pn.vt (text:ByteArray):Pn→Rt
 | .one m=>vOne text m
 | .edge k=>vEdge text k
 | .group g x=>vGroup g (x.vt text)
 | .rep x a b=>vRep text (x.vt text) a b
 | .row l=>vRow (vtL text l)
 | .brs l=>vAny (vtL text l)
def vtL (text:ByteArray):List Pn→List Rt
 | []=>[]
 | x::l=>x.vt text::vtL text l
end
mutual
def Pn.fm:Pn→Fm
 | .one m=>(1,fOne m)
 | .edge k=>(1,fEdge k)
 | .group g x=>(x.fm.1+2,fGroup g x.fm.1 x.fm.2)
 | .rep x a b=>(match b with | some m=>a * x.fm.1+(m - a) * (x.fm.1+1) | none=>a * x.fm.1+(x.fm.1+2),fRep x.fm.1 x.fm.2 a b)
 | .row l=>(fLen (fmL l),fRow (fmL l))
 | .brs l=>(fLen (fmL l)+2 * ((fmL l).length - 1),fun n d=>fBrs (fmL l) n d (n+(fLen (fmL l)+2 * ((fmL l).length - 1))))
def fmL:List Pn→List Fm
 | []=>[]
 | x::l=>x.fm::fmL l
end
mutual
def Pn.gs:Pn→Nat→Prop
 | .one _,_=>False
 | .edge _,_=>False
 | .group g x,k=>x.gs k∨k=g
 | .rep x _ _,k=>x.gs k
 | .row l,k=>gsL l k
 | .brs l,k=>gsL l k
def gsL:List Pn→Nat→Prop
 | [],_=>False
 | x::l,k=>x.gs k∨gsL l k
end
inductive Pn.Gk:Pn→Prop
 | one (m:Nat→Bool):Pn.Gk (.one m)
 | edge (k:Nat):Pn.Gk (.edge k)
 | group {g:Nat} {x:Pn} (h1:1≤g) (hg:¬ x.gs g) (h:Pn.Gk x):Pn.Gk (.group g x)
 | rep {x:Pn} (a:Nat) (b:Option Nat) (h:Pn.Gk x):Pn.Gk (.rep x a b)
 | row {l:List Pn} (h:∀ x∈l,Pn.Gk x):Pn.Gk (.row l)
 | brs {l:List Pn} (h:∀ x∈l,Pn.Gk x):Pn.Gk (.brs l)
theorem wtL_map (text:ByteArray):∀ l:List Pn,wtL text l=l.map (Pn.wt text)
 | []=>rfl
 | x::l=>by rw [wtL,wtL_map text l,List.map_cons]
theorem vtL_map (text:ByteArray):∀ l:List Pn,vtL text l=l.map (Pn.vt text)
 | []=>rfl
 | x::l=>by rw [vtL,vtL_map text l,List.map_cons]
theorem fmL_map:∀ l:List Pn,fmL l=l.map Pn.fm
 | []=>rfl
 | x::l=>by rw [fmL,fmL_map l,List.map_cons]
theorem gsL_iff (k:Nat):∀ l:List Pn,gsL l k ↔ ∃ x∈l,x.gs k
 | []=>by simp [gsL]
 | x::l=>by simp [gsL,gsL_iff k l]
theorem Pn.Gk.rel (text:ByteArray) {x:Pn} (h:x.Gk):RelV text x.gs (x.wt text) (x.vt text):=by
 induction h with
 | one m=>rw [Pn.wt,Pn.vt];exact RelV.one m
 | edge k=>rw [Pn.wt,Pn.vt];exact RelV.edge k
 | group _ hg _ ih=>rw [Pn.wt,Pn.vt];exact (RelV.group ih hg).imp fun g q=>q
 | rep a b _ ih=>rw [Pn.wt,Pn.vt];exact (RelV.rep ih a b).imp fun g q=>q
 | @row l _ ih=>
  rw [Pn.wt,Pn.vt,wtL_map,vtL_map]
  have:=RelV.rowF (text:=text) (G:=Pn.gs (.row l)) (l.map fun x=>(x.wt text,x.vt text)) fun p hp=>by
   obtain ⟨x,hx,rfl⟩:=List.mem_map.1 hp
   exact (ih x hx).imp fun g q=>(gsL_iff g l).2 ⟨x,hx,q⟩
  simpa [Function.comp_def] using this
 | @brs l _ ih=>
  rw [Pn.wt,Pn.vt,wtL_map,vtL_map]
  have:=RelV.any (text:=text) (G:=Pn.gs (.brs l)) (l.map fun x=>(x.wt text,x.vt text)) fun p hp=>by
   obtain ⟨x,hx,rfl⟩:=List.mem_map.1 hp
   exact (ih x hx).imp fun g q=>(gsL_iff g l).2 ⟨x,hx,q⟩
  simpa [Function.comp_def] using this
theorem Pn.Ok.sf (text:ByteArray) {x:Pn} (h:x.Ok):Sfo text x.fm.1 x.fm.2 (x.wt text):=by
 induction h with
 | one m=>rw [Pn.wt,Pn.fm];exact sf_one m
 | edge h=>rw [Pn.wt,Pn.fm];exact sf_edge _ h
 | group _ _ _ ih=>rw [Pn.wt,Pn.fm];exact sf_group ih
 | @rep x a b _ _ ih=>
  have:=sf_rep ih a b
  cases b
  all_goals
   rw [Pn.wt,Pn.fm]
   exact this
 | @row l _ ih=>
  rw [Pn.wt,Pn.fm,wtL_map,fmL_map]
  have:=sf_row (text:=text) (l.map fun x=>(x.fm,x.wt text)) fun p hp=>by
   obtain ⟨x,hx,rfl⟩:=List.mem_map.1 hp
   exact ih x hx
  simpa [Function.comp_def] using this
 | @brs l hl _ ih=>
  rw [Pn.wt,Pn.fm,wtL_map,fmL_map]
  have:=sf_brs (text:=text) (l.map fun x=>(x.fm,x.wt text)) (by simpa using hl) fun p hp=>by
   obtain ⟨x,hx,rfl⟩:=List.mem_map.1 hp
   exact ih x hx
  simpa [Function.comp_def] using this
def Pw (N:Nat) (i:In):Prop:=i.kind≤7∧i.kind≠6∧i.nx≤N∧i.ot≤N∧(i.kind=3→2≤i.sl∧i.sl < 20)
theorem Pw.mono {N M:Nat} {i:In} (h:Pw N i) (hm:N≤M):Pw M i:=⟨h.1,h.2.1,by have:=h.2.2.1;omega,by have:=h.2.2.2.1;omega,h.2.2.2.2⟩
def Wfm (p:Fm):Prop:=∀ n d,(p.2 n d).length=p.1∧∀ i∈p.2 n d,Pw (n+p.1) i
theorem wfm_row:∀ l:List Fm,(∀ p∈l,Wfm p)→Wfm (fLen l,fRow l)
 | [],_=>fun n d=>⟨rfl,fun i hi=>by cases hi⟩
 | p::l,h=>fun n d=>by
  have hp:=h p (by simp) n d
  have ih:=wfm_row l (fun q hq=>h q (by simp [hq])) (n+p.1) d
  have el:fLen (p::l)=p.1+fLen l:=by simp [fLen]
  refine ⟨?_,fun i hi=>?_⟩
  ·show (p.2 n d++fRow l (n+p.1) d).length=fLen (p::l)
   rw [List.length_append,hp.1,ih.1,el]
  ·show Pw (n+fLen (p::l)) i
   rcases List.mem_append.1 (show i∈p.2 n d++fRow l (n+p.1) d from hi) with q | q
   ·exact (hp.2 i q).mono (by rw [el];omega)
   ·exact (ih.2 i q).mono (by rw [el];show n+p.1+fLen l≤_;omega)
theorem wfm_brs:∀ l:List Fm,(∀ p∈l,Wfm p)→∀ n d e,n+(fLen l+2 * (l.length - 1))≤e→(fBrs l n d e).length=fLen l+2 * (l.length - 1)∧∀ i∈fBrs l n d e,Pw e i
 | [],_,_,_,_,_=>⟨rfl,fun i hi=>by cases hi⟩
 | [p],h,n,d,e,he=>by
  have hp:=h p (by simp) n d
  have el:fLen [p]=p.1:=by simp [fLen]
  refine ⟨by show (p.2 n d).length=_;rw [hp.1,el];rfl,fun i hi=>(hp.2 i hi).mono ?_⟩
  rw [el] at he;have he:n+(p.1+2 * 0)≤e:=he;omega
 | p::q::l,h,n,d,e,he=>by
  have hp:=h p (by simp) (n+1) d
  have el:fLen (p::q::l)=p.1+fLen (q::l):=by simp [fLen]
  rw [el] at he
  have he:n+(p.1+fLen (q::l)+2 * (l.length+1))≤e:=he
  have ih:=wfm_brs (q::l) (fun r hr=>h r (by simp at hr;simp [hr])) (n+p.1+2) d e (by show n+p.1+2+(fLen (q::l)+2 * (l.length))≤e;omega)
  refine ⟨?_,fun i hi=>?_⟩
  ·show ((_::(p.2 (n+1) d++(_::fBrs (q::l) _ _ _))):List In).length=_
   rw [List.length_cons,List.length_append,List.length_cons,ih.1,hp.1,el]
   show _+(_+2 * (l.length)+1)+1=_+2 * (l.length+1)
   omega
  ·rcases List.mem_cons.1 (show i∈noIn 4 (n+1) (n+p.1+2) 0 0::(p.2 (n+1) d++(noIn 7 e e 0 0::fBrs (q::l) (n+p.1+2) d e)) from hi) with rfl | hi
   ·exact ⟨by simp,by simp,by show n+1≤e;omega,by show n+p.1+2≤e;omega,fun q=>by cases q⟩
   ·rcases List.mem_append.1 hi with hi | hi
    ·exact (hp.2 i hi).mono (by omega)
    ·rcases List.mem_cons.1 hi with rfl | hi
     ·exact ⟨by simp,by simp,Nat.le_refl _,Nat.le_refl _,fun q=>by cases q⟩
     ·exact ih.2 i hi
theorem wfm_times {p:Fm} (h:Wfm p):∀ k n d,(fTimes p.1 p.2 k n d).length=k * p.1∧∀ i∈fTimes p.1 p.2 k n d,Pw (n+k * p.1) i
 | 0,_,_=>⟨by simp [fTimes],fun i hi=>by cases hi⟩
 | k+1,n,d=>by
  have hp:=h n d
  have ih:=wfm_times h k (n+p.1) d
  have ek:(k+1) * p.1=k * p.1+p.1:=by rw [Nat.add_mul];omega
  refine ⟨by rw [fTimes,List.length_append,hp.1,ih.1,ek];omega,fun i hi=>?_⟩
  rcases List.mem_append.1 (show i∈p.2 n d++fTimes p.1 p.2 k (n+p.1) d from hi) with q | q
  ·exact (hp.2 i q).mono (by omega)
  ·exact (ih.2 i q).mono (by omega)
theorem wfm_up {p:Fm} (h:Wfm p):∀ k n d e,n+k * (p.1+1)≤e→(fUpTo p.1 p.2 k n d e).length=k * (p.1+1)∧∀ i∈fUpTo p.1 p.2 k n d e,Pw e i
 | 0,_,_,_,_=>⟨by simp [fUpTo],fun i hi=>by cases hi⟩
 | k+1,n,d,e,he=>by
  have hp:=h (n+1) d
  have ek:(k+1) * (p.1+1)=k * (p.1+1)+(p.1+1):=by rw [Nat.add_mul];omega
  rw [ek] at he
  have ih:=wfm_up h k (n+p.1+1) d e (by omega)
  refine ⟨by rw [fUpTo,List.length_cons,List.length_append,hp.1,ih.1,ek];omega,fun i hi=>?_⟩
  rcases List.mem_cons.1 (show i∈noIn 4 (n+1) e 0 0::(p.2 (n+1) d++fUpTo p.1 p.2 k (n+p.1+1) d e) from hi) with rfl | hi
  ·exact ⟨by simp,by simp,by show n+1≤e;omega,Nat.le_refl _,fun q=>by cases q⟩
  ·rcases List.mem_append.1 hi with hi | hi
   ·exact (hp.2 i hi).mono (by omega)
   ·exact ih.2 i hi
theorem Pn.Ok.wfm {x:Pn} (h:x.Ok):Wfm x.fm:=by
 induction h with
 | one m=>intro n d;rw [Pn.fm];exact ⟨rfl,fun i hi=>by rw [List.mem_singleton.1 hi];exact ⟨by simp,by simp,Nat.le_refl _,Nat.zero_le _,fun q=>by cases q⟩⟩
 | @edge k h=>intro n d;rw [Pn.fm];exact ⟨rfl,fun i hi=>by
   rw [List.mem_singleton.1 hi]
   exact ⟨by show k≤7;omega,by show k≠6;omega,Nat.le_refl _,Nat.zero_le _,fun q=>by have q:k=3:=q;omega⟩⟩
 | @group g x h1 h2 _ ih=>
  intro n d
  rw [Pn.fm]
  have hp:=ih (n+1) d
  refine ⟨?_,fun i hi=>?_⟩
  ·show ((_::(x.fm.2 (n+1) d++[_])):List In).length=x.fm.1+2
   rw [List.length_cons,List.length_append,hp.1];rfl
  ·show Pw (n+(x.fm.1+2)) i
   rcases List.mem_cons.1 (show i∈noIn 3 (n+1) 0 (2 * g) 0::(x.fm.2 (n+1) d++[noIn 3 (n+x.fm.1+2) 0 (2 * g+1) 0]) from hi) with rfl | hi
   ·exact ⟨by simp,by simp,by show n+1≤_;omega,Nat.zero_le _,fun _=>⟨by show 2≤2 * g;omega,by show 2 * g < 20;omega⟩⟩
   ·rcases List.mem_append.1 hi with hi | hi
    ·exact (hp.2 i hi).mono (by omega)
    ·rw [List.mem_singleton.1 hi]
     exact ⟨by simp,by simp,by show n+x.fm.1+2≤_;omega,Nat.zero_le _,fun _=>⟨by show 2≤2 * g+1;omega,by show 2 * g+1 < 20;omega⟩⟩
 | @rep x a b hb _ ih=>
  intro n d
  have ht:=wfm_times ih a n d
  cases b with
  | some m=>
   rw [Pn.fm]
   have hu:=wfm_up ih (m - a) (n+a * x.fm.1) d (n+(a * x.fm.1+(m - a) * (x.fm.1+1))) (by omega)
   refine ⟨?_,fun i hi=>?_⟩
   ·show (fTimes x.fm.1 x.fm.2 a n d++_).length=_
    rw [List.length_append,ht.1,hu.1]
   ·rcases List.mem_append.1 (show i∈fTimes x.fm.1 x.fm.2 a n d++fUpTo x.fm.1 x.fm.2 (m - a) (n+a * x.fm.1) d (n+(a * x.fm.1+(m - a) * (x.fm.1+1))) from hi) with hi | hi
    ·exact (ht.2 i hi).mono (by show n+a * x.fm.1≤n+(a * x.fm.1+(m - a) * (x.fm.1+1));omega)
    ·exact hu.2 i hi
  | none=>
   rw [Pn.fm]
   have hp:=ih (n+a * x.fm.1+1) (d+1)
   refine ⟨?_,fun i hi=>?_⟩
   ·show (fTimes x.fm.1 x.fm.2 a n d++(_::(x.fm.2 (n+a * x.fm.1+1) (d+1)++[_]))).length=a * x.fm.1+(x.fm.1+2)
    rw [List.length_append,ht.1,List.length_cons,List.length_append,hp.1];rfl
   ·show Pw (n+(a * x.fm.1+(x.fm.1+2))) i
    rcases List.mem_append.1 (show i∈fTimes x.fm.1 x.fm.2 a n d++(noIn 4 (n+a * x.fm.1+1) (n+a * x.fm.1+x.fm.1+2) 0 0::(x.fm.2 (n+a * x.fm.1+1) (d+1)++[noIn 5 (n+a * x.fm.1) 0 0 d])) from hi) with hi | hi
    ·exact (ht.2 i hi).mono (by omega)
    ·rcases List.mem_cons.1 hi with rfl | hi
     ·exact ⟨by simp,by simp,by show n+a * x.fm.1+1≤_;omega,by show n+a * x.fm.1+x.fm.1+2≤_;omega,fun q=>by cases q⟩
     ·rcases List.mem_append.1 hi with hi | hi
      ·exact (hp.2 i hi).mono (by omega)
      ·rw [List.mem_singleton.1 hi]
       exact ⟨by simp,by simp,by show n+a * x.fm.1≤_;omega,Nat.zero_le _,fun q=>by cases q⟩
 | @row l _ ih=>
  rw [Pn.fm,fmL_map]
  exact wfm_row _ fun p hp=>by
   obtain ⟨x,hx,rfl⟩:=List.mem_map.1 hp
   exact ih x hx
 | @brs l hl _ ih=>
  intro n d
  rw [Pn.fm,fmL_map]
  exact wfm_brs _ (fun p hp=>by
   obtain ⟨x,hx,rfl⟩:=List.mem_map.1 hp
   exact ih x hx) n d _ (Nat.le_refl _)
mutual
def Pn.raw:Pn→Nat
 | .one _=>1
 | .edge _=>1
 | .group _ x=>x.raw+2
 | .rep x a (some m)=>m * x.raw+(m - a)
 | .rep x a none=>(a+1) * x.raw+1
 | .row l=>rawL l
 | .brs l=>rawL l+(l.length - 1)
def rawL:List Pn→Nat
 | []=>0
 | x::l=>x.raw+rawL l
end
theorem fLen_raw:∀ l:List Pn,(∀ x∈l,x.fm.1≤2 * x.raw)→fLen (fmL l)≤2 * rawL l
 | [],_=>by simp [fmL,fLen,rawL]
 | x::l,h=>by
  have h1:=h x (by simp)
  have h2:=fLen_raw l fun y hy=>h y (by simp [hy])
  have el:fLen (fmL (x::l))=x.fm.1+fLen (fmL l):=by simp [fmL,fLen]
  rw [el,rawL];omega
theorem Pn.Ok.fm_le {x:Pn} (h:x.Ok):x.fm.1≤2 * x.raw:=by
 induction h with
 | one m=>simp [Pn.fm,Pn.raw]
 | edge h=>simp [Pn.fm,Pn.raw]
 | group _ _ _ ih=>rw [Pn.fm,Pn.raw];show _+2≤_;omega
 | @rep x a b hb _ ih=>
  cases b with
  | some m=>
   rw [Pn.fm,Pn.raw]
   show a * x.fm.1+(m - a) * (x.fm.1+1)≤_
   have hm:a+(m - a)=m:=by have:=hb.1;omega
   have e1:a * x.fm.1+(m - a) * (x.fm.1+1)=m * x.fm.1+(m - a):=by
    rw [Nat.mul_add,Nat.mul_one,←Nat.add_assoc,←Nat.add_mul,hm]
   have e2:m * x.fm.1≤m * (2 * x.raw):=Nat.mul_le_mul_left _ ih
   have e3:m * (2 * x.raw)=2 * (m * x.raw):=by rw [Nat.mul_left_comm]
   omega
  | none=>
   rw [Pn.fm,Pn.raw]
   show a * x.fm.1+(x.fm.1+2)≤_
   have e1:a * x.fm.1+(x.fm.1+2)=(a+1) * x.fm.1+2:=by rw [Nat.add_mul];omega
   have e2:(a+1) * x.fm.1≤(a+1) * (2 * x.raw):=Nat.mul_le_mul_left _ ih
   have e3:(a+1) * (2 * x.raw)=2 * ((a+1) * x.raw):=by rw [Nat.mul_left_comm]
   omega
 | @row l _ ih=>rw [Pn.fm,Pn.raw];exact fLen_raw l ih
 | @brs l hl _ ih=>
  rw [Pn.fm,Pn.raw]
  have:=fLen_raw l ih
  have hl:(fmL l).length=l.length:=by rw [fmL_map,List.length_map]
  show fLen (fmL l)+2 * ((fmL l).length - 1)≤_
  rw [hl];omega
theorem piL_map:∀ l:List Pn,piL l=l.map Pn.pi
 | []=>rfl
 | x::l=>by rw [piL,piL_map l,List.map_cons]
theorem Pn.Ok.sw (text:ByteArray) {x:Pn} (h:x.Ok):Sw text x.pi.len x.pi.em (x.wt text):=by
 induction h with
 | one m=>rw [Pn.wt,Pn.pi];exact sw_one m
 | edge h=>rw [Pn.wt,Pn.pi];exact sw_edge _ h
 | group _ _ _ ih=>rw [Pn.wt,Pn.pi];exact sw_group ih
 | @rep x a b _ _ ih=>rw [Pn.wt,Pn.pi];exact sw_rep ih a b
 | @row l _ ih=>
  rw [Pn.wt,Pn.pi,wtL_map,piL_map]
  have:=sw_row (text:=text) ((l.map fun x=>(x.pi.it,x.wt text)).reverse) fun p hp=>by
   obtain ⟨x,hx,rfl⟩:=List.mem_map.1 (List.mem_reverse.1 hp)
   exact ih x hx
  rw [List.map_reverse,List.map_reverse,lenL_rev,wRow_rev,List.map_map,List.map_map] at this
  simpa [piRow,rowIt,It.pi,Function.comp_def,List.map_map] using this
 | @brs l hl _ ih=>
  rw [Pn.wt,Pn.pi,wtL_map,piL_map]
  cases e:(l.map fun x=>(x.pi.it,x.wt text)).reverse with
  | nil=>simp at e;exact absurd e hl
  | cons p r=>
   have hr:∀ q∈p::r,Sw text q.1.len q.1.em q.2:=fun q hq=>by
    rw [←e] at hq
    obtain ⟨x,hx,rfl⟩:=List.mem_map.1 (List.mem_reverse.1 hq)
    exact ih x hx
   have:=sw_branches (text:=text) p r hr
   have hrl:r.length=l.length - 1:=by
    have:=congrArg List.length e
    simp at this;omega
   rw [←e,List.map_reverse,List.map_reverse,lenL_rev,wBranches_rev _ (by simpa using hl),List.map_map,List.map_map,hrl] at this
   simpa [piBranches,branchesIt,It.pi,Function.comp_def,List.map_map] using this
theorem cdL_big {l:List In} {a:Nat} (h:l.length≤a):cdL l a=noIn 6 0 0 0 0:=by
 unfold cdL;rw [List.getElem?_eq_none h];rfl
theorem atC_cdL (l m r:List In):AtC (cdL (l++(m++r))) l.length m:=fun k i hk=>by
 unfold cdL
 have hlt:=(List.getElem?_eq_some_iff.1 hk).1
 rw [List.getElem?_append_right (by omega),Nat.add_sub_cancel_left,List.getElem?_append_left hlt,hk];rfl
def fnd (text:ByteArray) (x:Pn):Option (Nat×Nat×Zt):=findT (fun i=>ddT (x.vt text i)) (text.size+1) 0
theorem vt_0 {text:ByteArray} {x:Pn} (h:x.Gk) (h0:¬ x.gs 0) {a:Nat} (ha:a≤text.size) {p:Nat×Zt} (hp:p∈x.vt text a):p.2 0 = -1:=by
 rcases (h.rel text).nt a p ha hp 0 with q | q
 ·exact absurd q.2 h0
 ·exact q.1
theorem runs_fnd {G:Nat} {x:Pn} {text:ByteArray} {s':Mc} (h:PatG G x) (hc:Cok (cdL (codeOf x.pi)) (1+x.pi.len) x.pi.dd (x.pi.em 1 0 0).2) (hg:x.Gk) (h0:¬ x.gs 0)
  (hr:Runs (cdL (codeOf x.pi)) (1+x.pi.len) x.pi.dd text (x.pi.em 1 0 0).2 (text.size+1) 0 [] mc0 s'):bo s'=(fnd text x).map fun r=>zOf r.1 r.2:=by
 have hsw:=h.ok.sw text
 have hm:=h.ok.sm text
 have hlen:(codeOf x.pi).length=1+x.pi.len:=by unfold codeOf;rw [List.length_cons,hm.lens];omega
 have at1:AtC (cdL (codeOf x.pi)) 1 (x.pi.em 1 0 0).1:=by
  have:=atC_cdL [noIn 6 0 0 0 0] (x.pi.em 1 0 0).1 []
  simpa [codeOf] using this
 have go:=hsw.goes _ 1 0 0 at1
 have c6:(cdL (codeOf x.pi) 0).kind=6:=by simp [cdL,codeOf]
 have hw:=fun a (ha:a≤text.size)=>cmp_ways go c6 (hg.rel text) ha
 obtain ⟨wf1,_⟩:=hm.wf 1 0 0 (1+x.pi.len) x.pi.dd (by omega) (by omega) (by omega)
 have hs:∀ a,(cdL (codeOf x.pi) a).kind=3→2≤(cdL (codeOf x.pi) a).sl:=fun a e=>by
  by_cases q:a < 1+x.pi.len
  ·exact hc.sl a q e
  ·rw [cdL_big (by omega)] at e;cases e
 have h60:∀ a,a < 1+x.pi.len→(cdL (codeOf x.pi) a).kind=6→a=0:=fun a ha e=>by
  cases a with
  | zero=>rfl
  | succ a=>
   have hk:(x.pi.em 1 0 0).1[a]? = some (cdL (codeOf x.pi) (a+1)):=by
    have:=cdL_at (l:=codeOf x.pi) (a:=a+1) (by omega)
    simpa [codeOf] using this
   have:=(wf1 _ (List.mem_of_getElem? hk)).1
   omega
 have r:=runs_v hc hs h60 (fun a ha=>(hw a ha).1) (text.size+1) 0 [] mc0 s' hr rfl rfl rfl .nil (fun _ h=>by cases h) (fun q=>by cases q) (fun _ _ _ _=>rfl)
 have r:bo s'=firstZ (cdL (codeOf x.pi)) text (x.pi.em 1 0 0).2 (text.size+1) 0:=r
 rw [r,first_find (fun a ha=>(hw a ha).2) (fun a ha p hp=>vt_0 hg h0 ha hp) (text.size+1) 0 rfl]
 rfl
def codeD (x:Pn):List In:=x.fm.2 0 0++[noIn 6 0 0 0 0]
theorem codeD_len {x:Pn} (h:x.Ok):(codeD x).length=x.fm.1+1:=by unfold codeD;rw [List.length_append,(h.wfm 0 0).1];rfl
theorem codeD_ok {x:Pn} (h:x.Ok) {R:Nat} (hR:∀ i∈codeD x,i.dp < R):CokD (cdL (codeD x)) (x.fm.1+1) R:=fun a ha=>by
 have hk:(codeD x)[a]? = some (cdL (codeD x) a):=cdL_at (by rw [codeD_len h];exact ha)
 have hm:=List.mem_of_getElem? hk
 have hd:=hR _ hm
 rcases List.mem_append.1 (show cdL (codeD x) a∈x.fm.2 0 0++[noIn 6 0 0 0 0] from hm) with q | q
 ·obtain ⟨b1,_,b2,b3,b4⟩:=(h.wfm 0 0).2 _ q
  exact ⟨b1,by omega,by omega,hd,fun e=>(b4 e).1⟩
 ·rw [List.mem_singleton.1 q] at hd ⊢
  exact ⟨by simp,by simp,by simp,hd,fun e=>by cases e⟩
theorem srD_fnd {x:Pn} {text:ByteArray} {R:Nat} {r:Option Zt} (h:x.Ok) (hg:x.Gk) (h0:¬ x.gs 0) (hR:∀ i∈codeD x,i.dp < R) (hR0:0 < R)
  (hr:SrD (cdL (codeD x)) text R (text.size+1) 0 noBytes r):r=(fnd text x).map fun r=>zOf r.1 r.2:=by
 have hsf:=h.sf text
 have at0:AtC (cdL (codeD x)) 0 (x.fm.2 0 0):=by
  have:=atC_cdL [] (x.fm.2 0 0) [noIn 6 0 0 0 0]
  simpa [codeD] using this
 have go:=hsf.goes _ 0 0 at0
 rw [Nat.zero_add] at go
 have c6:(cdL (codeD x) x.fm.1).kind=6:=by
  unfold cdL codeD
  rw [List.getElem?_append_right (by rw [(h.wfm 0 0).1];exact Nat.le_refl _),(h.wfm 0 0).1,Nat.sub_self];rfl
 have hw:=fun a (ha:a≤text.size)=>cmp_ways go c6 (hg.rel text) ha
 have hc:=codeD_ok h hR
 have hs:∀ a,(cdL (codeD x) a).kind=3→2≤(cdL (codeD x) a).sl:=fun a e=>by
  by_cases q:a < x.fm.1+1
  ·exact (hc a q).2.2.2.2 e
  ·rw [cdL_big (by rw [codeD_len h];omega)] at e;cases e
 rw [srD_first hc hs (by omega) hR0 (fun a ha=>(hw a ha).1) _ _ _ _ hr (by omega) (fun q u _ hx=>by cases hx),first_find (fun a ha=>(hw a ha).2) (fun a ha p hp=>vt_0 hg h0 ha hp) (text.size+1) 0 rfl]
 rfl
def Gq (g g':Nat) (x:Pn):Prop:=x.Gk∧g≤g'∧∀ j,x.gs j→g < j∧j≤g'
def GqL (g g':Nat) (l:List Pn):Prop:=(∀ x∈l,x.Gk)∧g≤g'∧∀ j,gsL l j→g < j∧j≤g'
theorem Gq.leaf_one (g:Nat) (m:Nat→Bool):Gq g g (.one m):=⟨.one m,Nat.le_refl _,fun j h=>by simp [Pn.gs] at h⟩
theorem Gq.leaf_edge (g k:Nat):Gq g g (.edge k):=⟨.edge k,Nat.le_refl _,fun j h=>by simp [Pn.gs] at h⟩
theorem Gq.group {g g':Nat} {x:Pn} (h:Gq (g+1) g' x):Gq g g' (.group (g+1) x):=
 ⟨.group (by omega) (fun q=>by have:=(h.2.2 _ q).1;omega) h.1,by have:=h.2.1;omega,fun j q=>by
   rw [Pn.gs] at q
   rcases q with q | q
   ·have:=h.2.2 j q;omega
   ·have:=h.2.1;omega⟩
theorem Gq.times {g g':Nat} {x:Pn} (h:Gq g g' x) (r:Option (Nat×Option Nat)):Gq g g' (x.times r):=by
 cases r with
 | none=>exact h
 | some p=>exact ⟨.rep _ _ h.1,h.2.1,fun j q=>h.2.2 j (by simpa [Pn.times,Pn.gs] using q)⟩
theorem GqL.nil (g:Nat):GqL g g []:=⟨fun _ h=>(by cases h),Nat.le_refl _,fun j h=>by simp [gsL] at h⟩
theorem GqL.cons {g g1 g2:Nat} {x:Pn} {l:List Pn} (h:Gq g g1 x) (hl:GqL g1 g2 l):GqL g g2 (x::l):=
 ⟨fun y hy=>by
   rcases List.mem_cons.1 hy with rfl | hy
   ·exact h.1
   ·exact hl.1 y hy,by have:=h.2.1;have:=hl.2.1;omega,fun j q=>by
   rw [gsL] at q
   have:=h.2.1
   have:=hl.2.1
   rcases q with q | q
   ·have:=h.2.2 j q;omega
   ·have:=hl.2.2 j q;omega⟩
theorem GqL.row {g g':Nat} {l:List Pn} (h:GqL g g' l):Gq g g' (.row l):=⟨.row h.1,h.2.1,fun j q=>h.2.2 j (by simpa [Pn.gs] using q)⟩
theorem GqL.brs {g g':Nat} {l:List Pn} (h:GqL g g' l):Gq g g' (.brs l):=⟨.brs h.1,h.2.1,fun j q=>h.2.2 j (by simpa [Pn.gs] using q)⟩
theorem gk_all (src:ByteArray):∀ n,(∀ k g l g' x,atomP src n k g=.ok (l,g',x)→Gq g g' x)∧(∀ k g l g' x,pieceP src n k g=.ok (l,g',x)→Gq g g' x) ∧
  (∀ k g l g' xs,rowP src n k g=.ok (l,g',xs)→GqL g g' xs)∧(∀ k g l g' xs,moreP src n k g=.ok (l,g',xs)→GqL g g' xs)∧(∀ k g l g' x,brsP src n k g=.ok (l,g',x)→Gq g g' x)
 | 0=>by
  refine ⟨?_,?_,?_,?_,?_⟩
  all_goals
   intro k g l g' x h
   first | (unfold atomP at h;cases h;done) | (unfold pieceP at h;cases h;done) | (unfold rowP at h;cases h;done) | (unfold moreP at h;cases h;done) | (unfold brsP at h;cases h)
 | n+1=>by
  obtain ⟨hA,hP,hR,hM,hB⟩:=gk_all src n
  refine ⟨fun k g l g' x h=>?_,fun k g l g' x h=>?_,fun k g l g' x h=>?_,fun k g l g' x h=>?_,fun k g l g' x h=>?_⟩
  ·unfold atomP at h
   split at h
   ·split at h
    ·cases h
    ·split at h
     ·cases h
     ·rename_i hb
      split at h
      ·cases h;exact Gq.group (hB _ _ _ _ _ hb)
      ·cases h
   ·split at h
    ·cases h;exact Gq.leaf_one _ _
    ·split at h
     ·split at h
      ·cases h
      ·cases h;exact Gq.leaf_one _ _
     ·split at h
      ·cases h
      ·cases h;exact Gq.leaf_one _ _
  ·unfold pieceP at h
   split at h
   ·cases h;exact Gq.leaf_edge _ _
   ·split at h
    ·cases h;exact Gq.leaf_edge _ _
    ·split at h
     ·cases h
     ·rename_i ha
      split at h
      ·cases h
      ·cases h;exact (hA _ _ _ _ _ ha).times _
  ·unfold rowP at h
   split at h
   ·split at h
    ·cases h
    ·rename_i hp
     split at h
     ·cases h
     ·rename_i hr
      cases h;exact GqL.cons (hP _ _ _ _ _ hp) (hR _ _ _ _ _ hr)
   ·cases h;exact GqL.nil _
  ·unfold moreP at h
   split at h
   ·split at h
    ·cases h
    ·rename_i hp
     split at h
     ·cases h
     ·rename_i hr
      cases h;exact GqL.cons (hR _ _ _ _ _ hp).row (hM _ _ _ _ _ hr)
   ·cases h;exact GqL.nil _
  ·unfold brsP at h
   split at h
   ·cases h
   ·rename_i hp
    split at h
    ·cases h
    ·rename_i hr
     cases h;exact (GqL.cons (hR _ _ _ _ _ hp).row (hM _ _ _ _ _ hr)).brs
theorem cap_mul (m n c:Nat):min (m * min n 301+c) 301=min (m * n+c) 301:=by
 by_cases h:n≤301
 ·have e:min n 301=n:=by omega
  rw [e]
 ·have e:min n 301=301:=by omega
  rw [e]
  cases m with
  | zero=>simp
  | succ m=>
   have h1:301≤(m+1) * 301+c:=by rw [Nat.add_mul];omega
   have h2:301≤(m+1) * n+c:=by rw [Nat.add_mul];omega
   omega
theorem szs_raw:∀ l:List Pn,(∀ x∈l,x.pi.sz=min x.raw 301)→∀ c,min (((piL l).map Pi.sz).sum+c) 301=min (rawL l+c) 301
 | [],_,c=>by simp [piL,rawL]
 | x::l,h,c=>by
  have h1:=h x (by simp)
  have h2:=szs_raw l (fun y hy=>h y (by simp [hy])) (c+min x.raw 301)
  rw [piL,List.map_cons,List.sum_cons,rawL,h1]
  omega
theorem Pn.Ok.sz {x:Pn} (h:x.Ok):x.pi.sz=min x.raw 301:=by
 induction h with
 | one m=>rw [Pn.pi,Pn.raw];rfl
 | edge h=>rw [Pn.pi,Pn.raw];rfl
 | @group g x _ _ _ ih=>
  rw [Pn.pi,Pn.raw]
  show min (x.pi.sz+2) 301=_
  rw [ih];omega
 | @rep x a b _ _ ih=>
  cases b with
  | some m=>
   rw [Pn.pi,Pn.raw]
   show min (m * x.pi.sz+(m - a)) 301=_
   rw [ih,cap_mul]
  | none=>
   rw [Pn.pi,Pn.raw]
   show min ((a+1) * x.pi.sz+1) 301=_
   rw [ih,cap_mul]
 | @row l _ ih=>
  rw [Pn.pi,Pn.raw,piRow_sz]
  exact szs_raw l ih 0
 | @brs l _ _ ih=>
  rw [Pn.pi,Pn.raw,piBr_sz,piL_len]
  exact szs_raw l ih _
theorem le_side {a b k l m Q:Nat} (h1:a≤(l - k) * Q) (h2:b≤(m - l) * Q) (hk:k≤l) (hl:l≤m):a+b≤(m - k) * Q:=by
 rw [show m - k=(l - k)+(m - l) by omega,Nat.add_mul];omega
theorem pw_mono {a b:Nat} (h:a≤b):40 ^ a≤40 ^ b:=Nat.pow_le_pow_right (by omega) h
theorem pw_pos (a:Nat):1≤40 ^ a:=Nat.pow_pos (by omega)
theorem times_raw {x:Pn} {r:Option (Nat×Option Nat)} (hr:okR r) (h1:1≤x.raw):(x.times r).raw≤40 * x.raw:=by
 match r,hr with
 | none,_=>show x.raw≤_;omega
 | some (a,some m),hr=>
  have hr:a≤m∧m≤20:=hr
  show (Pn.rep x a (some m)).raw≤_
  rw [Pn.raw]
  have:=Nat.mul_le_mul_right x.raw hr.2
  omega
 | some (a,none),hr=>
  have hr:a≤20:=hr
  show (Pn.rep x a none).raw≤_
  rw [Pn.raw]
  have:=Nat.mul_le_mul_right x.raw (show a+1≤21 by omega)
  omega
theorem raw_all (src:ByteArray):∀ n,(∀ k g l g' x,k < src.size→g≤9→src.size≤k+100→4 * (src.size - k)+1≤n→atomP src n k g=.ok (l,g',x)→1≤x.raw∧x.raw≤(l - k) * 40 ^ (9 - g)) ∧
  (∀ k g l g' x,k < src.size→g≤9→src.size≤k+100→4 * (src.size - k)+2≤n→pieceP src n k g=.ok (l,g',x)→x.raw≤(l - k) * 40 ^ (10 - g)) ∧
  (∀ k g l g' xs,k≤src.size→g≤9→src.size≤k+100→4 * (src.size - k)+3≤n→rowP src n k g=.ok (l,g',xs)→rawL xs≤(l - k) * 40 ^ (10 - g)) ∧
  (∀ k g l g' xs,k≤src.size→g≤9→src.size≤k+100→4 * (src.size - k)+3≤n→moreP src n k g=.ok (l,g',xs)→rawL xs+xs.length≤(l - k) * 40 ^ (10 - g)) ∧
  (∀ k g l g' x,k≤src.size→g≤9→src.size≤k+100→4 * (src.size - k)+4≤n→brsP src n k g=.ok (l,g',x)→x.raw≤(l - k) * 40 ^ (10 - g))
 | 0=>⟨fun _ _ _ _ _ _ _ _ h=>by omega,fun _ _ _ _ _ _ _ _ h=>by omega,fun _ _ _ _ _ _ _ _ h=>by omega,fun _ _ _ _ _ _ _ _ h=>by omega,fun _ _ _ _ _ _ _ _ h=>by omega⟩
 | n+1=>by
  obtain ⟨hA,hP,hR,hM,hB⟩:=raw_all src n
  obtain ⟨rA,rP,rR,rM,rB⟩:=read_all src n
  have qA:∀ {k g l g' x},k < src.size→g≤9→src.size≤k+100→4 * (src.size - k)+1≤n→atomP src n k g=.ok (l,g',x)→k < l∧l≤src.size∧g≤g'∧g'≤9:=fun {k g l g' x} h1 h2 h3 h4 e=>by
   have:=rA k g h1 h2 h3 h4;unfold AtomR at this;rw [e] at this;exact ⟨this.2.1,this.2.2.1,this.2.2.2.1,this.2.2.2.2.1⟩
  have qP:∀ {k g l g' x},k < src.size→g≤9→src.size≤k+100→4 * (src.size - k)+2≤n→pieceP src n k g=.ok (l,g',x)→k < l∧l≤src.size∧g≤g'∧g'≤9:=fun {k g l g' x} h1 h2 h3 h4 e=>by
   have:=rP k g h1 h2 h3 h4;unfold PieceR at this;rw [e] at this;exact ⟨this.2.1,this.2.2.1,this.2.2.2.1,this.2.2.2.2.1⟩
  have qR:∀ {k g l g' x},k≤src.size→g≤9→src.size≤k+100→4 * (src.size - k)+3≤n→rowP src n k g=.ok (l,g',x)→k≤l∧l≤src.size∧g≤g'∧g'≤9:=fun {k g l g' x} h1 h2 h3 h4 e=>by
   have:=rR k g h1 h2 h3 h4;unfold RowR at this;rw [e] at this;exact ⟨this.2.1,this.2.2.1,this.2.2.2.1,this.2.2.2.2.1⟩
  have qM:∀ {k g l g' x},k≤src.size→g≤9→src.size≤k+100→4 * (src.size - k)+3≤n→moreP src n k g=.ok (l,g',x)→k≤l∧l≤src.size∧g≤g'∧g'≤9:=fun {k g l g' x} h1 h2 h3 h4 e=>by
   have:=rM k g h1 h2 h3 h4;unfold MoreR at this;rw [e] at this;exact ⟨this.2.1,this.2.2.1,this.2.2.2.1,this.2.2.2.2.1⟩
  have qB:∀ {k g l g' x},k≤src.size→g≤9→src.size≤k+100→4 * (src.size - k)+4≤n→brsP src n k g=.ok (l,g',x)→k≤l∧l≤src.size∧g≤g'∧g'≤9:=fun {k g l g' x} h1 h2 h3 h4 e=>by
   have:=rB k g h1 h2 h3 h4;unfold BrsR at this;rw [e] at this;exact ⟨this.2.1,this.2.2.1,this.2.2.2.1,this.2.2.2.2.1⟩
  obtain ⟨sA,sP,_,_,_⟩:=read_all src (n+1)
  refine ⟨fun k g l g' x h1 h2 h3 h4 h=>?_,fun k g l g' x h1 h2 h3 h4 h=>?_,fun k g l g' x h1 h2 h3 h4 h=>?_,fun k g l g' x h1 h2 h3 h4 h=>?_,fun k g l g' x h1 h2 h3 h4 h=>?_⟩
  ·have hkl:k < l:=by have:=sA k g h1 h2 h3 h4;unfold AtomR at this;rw [h] at this;exact this.2.1
   have one:1≤(l - k) * 40 ^ (9 - g):=Nat.mul_pos (by omega) (pw_pos _)
   unfold atomP at h
   split at h
   ·split at h
    ·cases h
    ·rename_i h40 h9
     split at h
     ·cases h
     ·rename_i hb
      split at h
      ·cases h
       obtain ⟨b1,b2,b3,b4⟩:=qB (by omega) (by omega) (by omega) (by omega) hb
       have b:=hB _ _ _ _ _ (by omega) (by omega) (by omega) (by omega) hb
       rw [show 10 - (g+1)=9 - g by omega] at b
       rw [Pn.raw]
       have key:∀ l1 r:Nat,k+1≤l1→r≤(l1 - (k+1)) * 40 ^ (9 - g)→r+2≤(l1+1 - k) * 40 ^ (9 - g):=fun l1 r q1 q2=>by
        rw [show l1+1 - k=(l1 - (k+1))+2 by omega,Nat.add_mul]
        have:=pw_pos (9 - g)
        omega
       exact ⟨by omega,key _ _ b1 b⟩
      ·cases h
   ·split at h
    ·cases h;rw [Pn.raw];exact ⟨Nat.le_refl _,one⟩
    ·split at h
     ·split at h
      ·cases h
      ·cases h;rw [Pn.raw];exact ⟨Nat.le_refl _,one⟩
     ·split at h
      ·cases h
      ·cases h;rw [Pn.raw];exact ⟨Nat.le_refl _,one⟩
  ·have hkl:k < l:=by have:=sP k g h1 h2 h3 h4;unfold PieceR at this;rw [h] at this;exact this.2.1
   have one:1≤(l - k) * 40 ^ (10 - g):=Nat.mul_pos (by omega) (pw_pos _)
   unfold pieceP at h
   split at h
   ·cases h;rw [Pn.raw];exact one
   ·split at h
    ·cases h;rw [Pn.raw];exact one
    ·split at h
     ·cases h
     ·rename_i ha
      obtain ⟨a1,a2,a3,a4⟩:=qA h1 h2 h3 (by omega) ha
      obtain ⟨b1,b2⟩:=hA _ _ _ _ _ h1 h2 h3 (by omega) ha
      split at h
      ·cases h
      ·rename_i hr
       cases h
       have hok:=rep_ok a2 hr
       have ht:=times_raw hok b1
       have hll:=rep_g (src:=src) a2
       rw [hr] at hll
       have hll:=hll.2.1
       have e:40 ^ (10 - g)=40 * 40 ^ (9 - g):=by rw [show 10 - g=(9 - g)+1 by omega,Nat.pow_succ,Nat.mul_comm]
       refine Nat.le_trans ht ?_
       rw [e,Nat.mul_left_comm]
       refine Nat.mul_le_mul_left 40 (Nat.le_trans b2 (Nat.mul_le_mul_right _ ?_))
       omega
  ·unfold rowP at h
   split at h
   ·rename_i hc
    split at h
    ·cases h
    ·rename_i hp
     obtain ⟨p1,p2,p3,p4⟩:=qP hc.1 h2 h3 (by omega) hp
     have b1:=hP _ _ _ _ _ hc.1 h2 h3 (by omega) hp
     split at h
     ·cases h
     ·rename_i hr
      obtain ⟨r1,r2,r3,r4⟩:=qR p2 p4 (by omega) (by omega) hr
      have b2:=hR _ _ _ _ _ p2 p4 (by omega) (by omega) hr
      cases h
      rw [rawL]
      exact le_side b1 (Nat.le_trans b2 (Nat.mul_le_mul_left _ (pw_mono (by omega)))) (by omega) r1
   ·cases h;rw [rawL];exact Nat.zero_le _
  ·unfold moreP at h
   split at h
   ·rename_i hc
    have hk:=saw_lt hc
    split at h
    ·cases h
    ·rename_i hp
     obtain ⟨p1,p2,p3,p4⟩:=qR (by omega) h2 (by omega) (by omega) hp
     have b1:=hR _ _ _ _ _ (by omega) h2 (by omega) (by omega) hp
     split at h
     ·cases h
     ·rename_i hr
      obtain ⟨r1,r2,r3,r4⟩:=qM p2 p4 (by omega) (by omega) hr
      have b2:=hM _ _ _ _ _ p2 p4 (by omega) (by omega) hr
      cases h
      rw [rawL,Pn.raw,List.length_cons]
      have c0:1≤(k+1 - k) * 40 ^ (10 - g):=Nat.mul_pos (by omega) (pw_pos _)
      have c1:=le_side c0 b1 (by omega) p1
      have c2:=le_side c1 (Nat.le_trans b2 (Nat.mul_le_mul_left _ (pw_mono (by omega)))) (by omega) r1
      omega
   ·cases h;rw [rawL];exact Nat.zero_le _
  ·unfold brsP at h
   split at h
   ·cases h
   ·rename_i hp
    obtain ⟨p1,p2,p3,p4⟩:=qR h1 h2 h3 (by omega) hp
    have b1:=hR _ _ _ _ _ h1 h2 h3 (by omega) hp
    split at h
    ·cases h
    ·rename_i hr
     obtain ⟨r1,r2,r3,r4⟩:=qM p2 p4 (by omega) (by omega) hr
     have b2:=hM _ _ _ _ _ p2 p4 (by omega) (by omega) hr
     cases h
     rw [Pn.raw,rawL,Pn.raw,List.length_cons]
     have c:=le_side b1 (Nat.le_trans b2 (Nat.mul_le_mul_left _ (pw_mono (by omega)))) (by omega) r1
     omega
