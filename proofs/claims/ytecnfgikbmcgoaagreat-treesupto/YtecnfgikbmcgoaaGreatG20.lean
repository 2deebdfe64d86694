import Derived.Test.YtecnfgikbmcgoaaGreatG19
import Derived.Test.YtecnfgikbmcgoaaGreatG17
import Derived.Test.YtecnfgikbmcgoaaGreatG10
import Derived.Test.YtecnfgikbmcgoaaGreatG9
import Derived.Test.YtecnfgikbmcgoaaGreatG15
namespace Go.Proofs.YtecnfgikbmcgoaaGreat
open Go.RowKit
def isLk (b:Nat) (from_:Int) (l:Rln):Bool:=((l.fr:Int)==(b:Int))&&((l.to:Int)==from_)
def fromM (from_:Int) (X:List Hm):List Ky:=(X.filter fun x=>x.1.fr==from_).map fun x=>x.1.key
theorem Tryz.infoRKey:(Tryz.prog.info? 200).map (fun i=>(i.zero,i.size,i.bytes))=some (some (.agg #[.int .i64 0,.int .i64 0]),2,16):=by kernel_rfl
def HfP (c:Bool) (e:Ending) (w w':World) (l:List Ky):Prop:=(c=true → ∃ v,e = .returned (.tuple #[v,.int .i64 0])∧w'.ownsRow w.heap.size 200 2 v l.length (kcells l))∧(c=false→e = .returned (.tuple #[.slice none 0 0,.int .i64 5]))
theorem fromM_succ (from_:Int) (X:List Hm) (q:Nat) (h:q<X.length):fromM from_ (X.take (q+1))=fromM from_ (X.take q)++(if (hat X q).1.fr=from_ then [(hat X q).1.key] else []):=by
 unfold fromM
 rw [takeM_snoc X q h,List.filter_append,List.map_append]
 by_cases hk:(hat X q).1.fr=from_ <;> simp [hk]
theorem fromM_len (from_:Int) (X:List Hm) (q:Nat):(fromM from_ (X.take q)).length≤X.length:=by
 unfold fromM
 rw [List.length_map]
 exact Nat.le_trans (List.length_filter_le _ _) (List.length_take_le' q X)
set_option maxRecDepth 100000 in
set_option maxHeartbeats 4000000 in
theorem heldFrom_row (TB HB nb hcap:Nat) (al:Option Addr) (lcap:Nat) (K:List Rln) (hK:K.length≤14) (ad:Option Addr) (cap:Nat) (X:List Hm) (b:Nat) (hb:b<nb) (from_:Int) (w:World)
  (htb:w.cell? ⟨TB,0,none⟩=some (.slice (some ⟨HB,0,none⟩) nb hcap)) (htk:w.cell? ⟨TB,1,none⟩=some (.slice al K.length lcap)) (htl:TB<w.heap.size) (hhl:HB<w.heap.size) (hrk:RowAt w al (lcellsR K))
  (hhb:w.cell? ⟨HB,b,none⟩=some (.slice ad X.length cap)) (hrow:RowAt w ad (hcells X)) (hlen:X.length≤1048576) :
  Calls Tryz.prog 105 #[.pointer (some ⟨TB,0,none⟩),.int .i64 b,.int .i64 from_] w fun e w'=>HfP ((from_ == -1)||K.any (isLk b from_)) e w w' (fromM from_ X)∧Gr w w':=by
 obtain ⟨i0,hi,hz0,hz1,hz2⟩:=info_parts Tryz.infoRKey
 have ROW:=Hid.mk' hrow
 have RK:=Hid.mk' hrk
 have CT:Hid (∀ W,Gr w W→W.cell? ⟨TB,0,none⟩=some (.slice (some ⟨HB,0,none⟩) nb hcap)∧W.cell? ⟨TB,1,none⟩=some (.slice al K.length lcap)∧W.cell? ⟨HB,b,none⟩=some (.slice ad X.length cap)):=fun W g=>by
  rw [(bcell g).1 _ _ htl,(bcell g).1 _ _ htl,(bcell g).1 _ _ hhl];exact ⟨htb,htk,hhb⟩
 clear hrow hrk
 go_enter Tryz.func105,Tryz.ntmps105
 go_wp2_with fail
 generalize hf0:(from_ == -1)=f0 at *
 have HF0:=Hid.mk' hf0
 clear hf0
 go_loop [8,9] (fun d i=>∃ (q:Nat) (is:Bool),q≤K.length∧d = .bool is∧i = .int .i64 q∧Hid (is=(f0||(K.take q).any (isLk b from_)))) (fun _ i=>K.length - (intOf i).toNat)
 case atStart=>exact ⟨0,f0,Nat.zero_le _,rfl,rfl,by show _=_;simp⟩
 case round =>
  obtain ⟨q,is,hq,rfl,rfl,HI⟩:=hrel
  by_cases hql:q<K.length
  ·have HS:Hid ((K.take (q+1)).any (isLk b from_)=((K.take q).any (isLk b from_)||isLk b from_ (lnat K q))):=any_taken _ K q _ hql
   obtain ⟨lb,loff,rfl,hlb,c0,c1,_,_⟩:=RK.out.lnk hql
   generalize lnat K q=x at *
   have HL:Hid (isLk b from_ x=(((x.fr:Int)==(b:Int))&&((x.to:Int)==from_))):=rfl
   cases is with
   | true =>
    have HN:Hid (true=(f0||(K.take (q+1)).any (isLk b from_))):=by
     show _=_;rw [HS.out, ← Bool.or_assoc, ← HI.out];rfl
    go_wp2_with fail
    exact ⟨⟨q+1,true,hql,rfl,by simp,HN⟩,measM_dec _ _ hql⟩
   | false =>
    have HN:Hid (isLk b from_ x=(f0||(K.take (q+1)).any (isLk b from_))):=by
     show _=_;rw [HS.out, ← Bool.or_assoc, ← HI.out];rfl
    by_cases e1:(x.fr:Int)=(b:Int)
    ·have e2:((x.fr:Int)==(b:Int))=true:=by simpa using e1
     have HM:Hid (isLk b from_ x=((x.to:Int)==from_)):=by show _=_;rw [HL.out,e2];rfl
     rw [e1] at c0
     clear e1 e2
     go_wp2_with fail
     exact ⟨⟨q+1,_,hql,rfl,by simp,HM.out.symm.trans HN.out⟩,measM_dec _ _ hql⟩
    ·have e2:((x.fr:Int)==(b:Int))=false:=by simpa using e1
     have HM:Hid (isLk b from_ x=false):=by show _=_;rw [HL.out,e2];rfl
     clear e1
     go_wp2_with fail
     exact ⟨⟨q+1,_,hql,rfl,by simp,HM.out.symm.trans HN.out⟩,measM_dec _ _ hql⟩
  ·have hqe:q=K.length:=by omega
   subst hqe
   rw [List.take_length] at HI
   cases is with
   | false =>
    go_wp2_with fail
    exact bodyPost_ret (v:=.tuple #[.slice none 0 0,.int .i64 5]) (by simp [results,Tryz.results105,go_sem]) rfl ⟨⟨fun h=>(by rw [HF0.out, ← HI.out] at h;cases h),fun _=>rfl⟩,Gr.refl _⟩
   | true =>
    go_wp2_with fail
    have HC:Hid (((from_ == -1)||K.any (isLk b from_))=true):=by show _=_;rw [HF0.out, ← HI.out]
    clear HI HF0 htb htk hhb
    go_loopw [10,11] (fun v i wr=>∃ (q:Nat) (va:Option Addr) (vk:Nat),q≤X.length∧v = .slice va (fromM from_ (X.take q)).length vk∧i = .int .i64 q∧Hid (Gr w wr)∧Hid (wr.ownsRow w.heap.size 200 2 v (fromM from_ (X.take q)).length (kcells (fromM from_ (X.take q))))) (fun _ i _=>X.length - (intOf i).toNat)
    case atStart=>exact ⟨0,none,0,Nat.zero_le _,rfl,rfl,Gr.refl _,World.ownsRow_nil _ _ _ _⟩
    case round =>
     obtain ⟨q,va,vk,hq,rfl,rfl,G,O⟩:=hrel
     obtain ⟨t0,_,t1⟩:=CT.out _ G.out
     have HLN:=Hid.mk' (fromM_len from_ X q)
     by_cases hql:q<X.length
     ·have HS:=Hid.mk' (fromM_succ from_ X q hql)
      obtain ⟨b',off,rfl,hb',c0,c1,c2,c3⟩:=(ROW.out.gr G.out).hold hql
      generalize hat X q=x at *
      by_cases e1:x.1.fr=from_
      ·have HR:Hid (fromM from_ (X.take (q+1))=fromM from_ (X.take q)++[x.1.key]):=by show _=_;rw [HS.out,if_pos e1]
       rw [e1] at c3
       clear e1
       go_wp2_with (at_builtin;refine wpList_append_own _ rfl _ _ 194 rfl w.heap.size 200 i0 _ 2 16 Tryz.underlying194 hi hz0 hz1 hz2 rfl (by decide) _ _ _ rfl (O.out.alloc _) ⟨wr.heap.size,0,none⟩ 1 1 [.int .i64 x.1.key.1,.int .i64 x.1.key.2] rfl rfl (World.news_of_block (new_atK rfl)) ?k2 ?k3 ?k4 ?k5 ?_)
       case k2=>intro t ht;simp at ht;rcases ht with rfl | rfl <;> rfl
       case k3=>have:=HLN.out;unfold maxLen;omega
       case k4=>have:=HLN.out;omega
       case k5=>simp;have:=G.out.size;omega
       intro v5 w5 ho5 hg5 _
       have low5:=own_low O.out
       have G5:Hid (Gr w w5):=Below.grown (G.out.alloc _) hg5 (Nat.le_trans G.out.size (by simp)) (fun q hq=>by have:=low5 q hq;omega)
       have O5:Hid (w5.ownsRow w.heap.size 200 2 v5 (fromM from_ (X.take (q+1))).length (kcells (fromM from_ (X.take (q+1))))):=by
        show World.ownsRow _ _ _ _ _ _ _
        rw [HR.out,kcells_snoc,List.length_append];exact ho5
       obtain ⟨ya,yk,rfl,_⟩:=owns_shape O5.out
       clear ho5 hg5 low5 c0 c1 c2 c3 t0 t1
       go_wp2_with fail
       exact ⟨⟨q+1,ya,yk,hql,rfl,by simp,G5,O5⟩,measM_dec _ _ hql⟩
      ·have HR:Hid (fromM from_ (X.take (q+1))=fromM from_ (X.take q)):=by show _=_;rw [HS.out,if_neg e1,List.append_nil]
       have e2:(x.1.fr==from_)=false:=by simp [e1]
       clear e1
       go_wp2_with fail
       exact ⟨⟨q+1,va,vk,hql,by rw [HR.out],by simp,G,by rw [HR.out];exact O⟩,measM_dec _ _ hql⟩
     ·have hqe:q=X.length:=by omega
      subst hqe
      rw [List.take_length] at O
      rw [List.take_length]
      go_wp2_with fail
      exact bodyPost_ret (v:=.tuple #[.slice va (fromM from_ X).length vk,.int .i64 0]) (by simp [results,Tryz.results105,go_sem]) rfl ⟨⟨fun _=>⟨_,rfl,O.out⟩,fun h=>by rw [HC.out] at h;cases h⟩,G.out⟩
def toldM (n:Int) (X:List Hm):List Hm:=X.filter fun x => !(x.1.fr==n) && !(hidB X x.1 n)
theorem toldM_told (n:Int) (X:List Hm):(toldM n X).map (·.1)=told cov (X.map (·.1)) n:=by
 simp [toldM,told,hidB,List.filter_map,List.any_map,Function.comp_def]
theorem any_hasK (l:List Hw) (k:Ky):(l.map fun h=>h.key).any (fun x=>x==k)=hasK l k:=by
 simp [hasK,List.any_map,Function.comp_def]
def toldTo (n:Int) (X:List Hm) (q:Nat):List Hm:=(X.take q).filter fun x => !(x.1.fr==n) && !(hidB X x.1 n)
theorem toldTo_succ (n:Int) (X:List Hm) (q:Nat) (h:q<X.length):toldTo n X (q+1)=toldTo n X q++(if (hat X q).1.fr=n∨hidB X (hat X q).1 n=true then [] else [hat X q]):=by
 unfold toldTo
 rw [takeM_snoc X q h,List.filter_append]
 by_cases h1:(hat X q).1.fr=n
 ·simp [h1]
 ·cases h2:hidB X (hat X q).1 n <;> simp [h1,h2]
theorem toldTo_all (n:Int) (X:List Hm):toldTo n X X.length=toldM n X:=by
 unfold toldTo toldM;rw [List.take_length]
theorem rAttach_out (TB HB nb hcap:Nat) (w:World) (n b:Int) (htb:w.cell? ⟨TB,0,none⟩=some (.slice (some ⟨HB,0,none⟩) nb hcap)) (hb:b<0∨(nb:Int)≤b) :
  Calls Tryz.prog 59 #[.pointer (some ⟨TB,0,none⟩),.int .i64 n,.int .i64 b] w fun e w'=>e = .returned (.int .i64 5)∧w'=w:=by
 by_cases h0:b<0
 ·go_enter Tryz.func59,Tryz.ntmps59
  go_wp2_with fail
  go_ret
  exact ⟨rfl,rfl⟩
 ·have h1:(nb:Int)≤b:=by omega
  clear hb
  go_enter Tryz.func59,Tryz.ntmps59
  go_wp2_with fail
  go_ret
  exact ⟨rfl,rfl⟩
set_option maxRecDepth 100000 in
set_option maxHeartbeats 1000000 in
theorem rAttach_no (TB HB nb hcap:Nat) (ac:Option Addr) (ccap:Nat) (cs:List Rcl) (w:World) (n:Int) (b:Nat) (hb:b<nb) (htb:w.cell? ⟨TB,0,none⟩=some (.slice (some ⟨HB,0,none⟩) nb hcap)) (htc:w.cell? ⟨TB,2,none⟩=some (.slice ac cs.length ccap)) (hrc:RowAt w ac (rcells cs)) (hcl:cs.length≤16)
  (h:(∃ c∈cs,c.num=n)∨15<cs.length) :
  Calls Tryz.prog 59 #[.pointer (some ⟨TB,0,none⟩),.int .i64 n,.int .i64 b] w fun e w'=>((∃ c∈cs,c.num=n)→e = .returned (.int .i64 6))∧((∀ c∈cs,c.num≠n)→e = .returned (.int .i64 7))∧w'=w:=by
 have CL:=Hid.mk' (client_row TB ac ccap cs n w htc hrc hcl)
 have HH:=Hid.mk' h
 clear h hrc
 go_enter Tryz.func59,Tryz.ntmps59
 go_wp2_with fail
 refine CL.out.mono ?_
 rintro e w1 ⟨hcase,hw⟩
 subst hw
 rcases hcase with ⟨j,hj,hk,rfl⟩ | ⟨hno,rfl⟩
 ·have HK:=Hid.mk' hk
  clear hk
  go_wp2_with fail
  go_ret
  exact ⟨fun _=>rfl,fun hall=>absurd HK.out (hall _ (kat_mem hj)),rfl⟩
 ·have HN:=Hid.mk' hno
  have h15:15<cs.length:=by
   rcases HH.out with ⟨c,hc,e⟩ | h
   ·exact absurd e (hno c hc)
   ·exact h
  clear hno
  go_wp2_with fail
  go_ret
  exact ⟨fun ⟨c,hc,e⟩=>absurd e (HN.out c hc),fun _=>rfl,rfl⟩
set_option maxRecDepth 100000 in
set_option maxHeartbeats 1000000 in
theorem rSub_none (TB:Nat) (ac:Option Addr) (ccap:Nat) (cs:List Rcl) (w:World) (n id:Int) (v:Value) (htc:w.cell? ⟨TB,2,none⟩=some (.slice ac cs.length ccap)) (hrc:RowAt w ac (rcells cs)) (hcl:cs.length≤16) (h:∀ c∈cs,c.num≠n) :
  Calls Tryz.prog 61 #[.pointer (some ⟨TB,0,none⟩),.int .i64 n,.int .i64 id,v] w fun e w'=>e = .returned (.int .i64 5)∧w'=w:=by
 have CL:=Hid.mk' (client_row TB ac ccap cs n w htc hrc hcl)
 have HH:=Hid.mk' h
 clear h hrc
 go_enter Tryz.func61,Tryz.ntmps61
 go_wp2_with fail
 refine CL.out.mono ?_
 rintro e w1 ⟨hcase,hw⟩
 subst hw
 rcases hcase with ⟨j,hj,hk,rfl⟩ | ⟨_,rfl⟩
 ·exact absurd hk (HH.out _ (kat_mem hj))
 ·go_wp2_with fail
  go_ret
  exact ⟨rfl,rfl⟩
set_option maxRecDepth 100000 in
set_option maxHeartbeats 1000000 in
theorem rUns_none (TB:Nat) (ac:Option Addr) (ccap:Nat) (cs:List Rcl) (w:World) (n id:Int) (htc:w.cell? ⟨TB,2,none⟩=some (.slice ac cs.length ccap)) (hrc:RowAt w ac (rcells cs)) (hcl:cs.length≤16) (h:∀ c∈cs,c.num≠n) :
  Calls Tryz.prog 62 #[.pointer (some ⟨TB,0,none⟩),.int .i64 n,.int .i64 id] w fun e w'=>e = .returned (.int .i64 5)∧w'=w:=by
 have CL:=Hid.mk' (client_row TB ac ccap cs n w htc hrc hcl)
 have HH:=Hid.mk' h
 clear h hrc
 go_enter Tryz.func62,Tryz.ntmps62
 go_wp2_with fail
 refine CL.out.mono ?_
 rintro e w1 ⟨hcase,hw⟩
 subst hw
 rcases hcase with ⟨j,hj,hk,rfl⟩ | ⟨_,rfl⟩
 ·exact absurd hk (HH.out _ (kat_mem hj))
 ·go_wp2_with fail
  go_ret
  exact ⟨rfl,rfl⟩
def okF (f:List Wnt):Prop:=filterOk f=true ∧ ∀ x∈f,Wnt.Wf x
theorem preF:Pre cov okF:=⟨fun _ h=>cov_sub h.1 h.1 h.2 (fun _ hx=>hx),fun _ _ _ a b c h1 h2=>cov_trans a.2 b.2 c.2 h1 h2⟩
end Go.Proofs.YtecnfgikbmcgoaaGreat
namespace Go.Proofs.YtecnfgikbmcgoaaGreat
section
variable {F E:Type}
variable {cov:F→F→Bool} {adj:Nat→Nat→Bool} {nxt:Nat→Nat→Int} {home:Int→Nat} {ok:F→Prop} {rank:Nat→Nat→Nat}
theorem links_count {nb:Nat} (N:Nx adj nxt) (Z:Nz nb adj nxt) (R:Rk adj nxt rank) (hnb:0<nb):sm nb (fun a=>sm nb fun b=>if adj a b=true then 1 else 0)+2=2*nb:=by
 have cell:∀ a b,a<nb→b<nb→(if adj a b=true then 1 else 0)=(if nxt a 0=(b:Int) then 1 else 0)+(if nxt b 0=(a:Int) then 1 else 0):=by
  intro a b ha hb
  have down:∀ x y:Nat,nxt x 0=(y:Int)→adj y x=true:=by
   intro x y e
   rcases R.nb x 0 with h | ⟨m,h1,h2⟩
   ·rw [e] at h;omega
   ·have:m=y:=by omega
    rw [← this];exact h2
  by_cases hab:adj a b=true
  ·rw [if_pos hab]
   by_cases h1:nxt a 0=(b:Int)
   ·have:=Z.excl a b 0 hnb hab h1
    rw [if_pos h1,if_neg this]
   ·rw [if_neg h1,if_pos (N.back a b 0 hab h1)]
  ·rw [if_neg hab,if_neg (fun e=>hab (N.sym _ _ (down a b e))),if_neg (fun e=>hab (down b a e))]
 have e1:sm nb (fun a=>sm nb fun b=>if adj a b=true then 1 else 0)=sm nb (fun a=>sm nb fun b=>(if nxt a 0=(b:Int) then 1 else 0))+sm nb (fun a=>sm nb fun b=>(if nxt b 0=(a:Int) then 1 else 0)):=by
  rw [← sm_add]
  refine sm_congr nb (fun a ha=>?_)
  rw [← sm_add]
  exact sm_congr nb (fun b hb=>cell a b ha hb)
 have up:sm nb (fun a=>sm nb fun b=>(if nxt a 0=(b:Int) then 1 else 0))+1=nb:=by
  have:sm nb (fun a=>(sm nb fun b=>(if nxt a 0=(b:Int) then 1 else 0))+(if a=0 then 1 else 0))=sm nb fun _=>1:=by
   refine sm_congr nb (fun a ha=>?_)
   by_cases h0:a=0
   ·subst h0
    rw [if_pos rfl,sm_congr nb (g:=fun _=>0) (fun b _=>if_neg (by rw [N.self];omega)),sm_zero]
   ·rw [if_neg h0]
    rcases R.nb a 0 with h | ⟨m,h1,h2⟩
    ·exact absurd (Z.one a 0 ha hnb h) h0
    ·rw [sm_congr nb (g:=fun b=>if b=m then 1 else 0) (fun b _=>by
      by_cases hb:b=m
      ·rw [if_pos hb,if_pos (by rw [h1,hb])]
      ·rw [if_neg hb,if_neg (by rw [h1];omega)]),sm_one,if_pos (Z.inn m a h2).1]
  rw [sm_add,sm_one,if_pos hnb,sm_const] at this
  omega
 have e2:=sm_swap (fun a b=>if nxt b 0=(a:Int) then 1 else 0) nb nb
 rw [e1,e2]
 omega
end
section
variable {F E:Type}
structure Pc (E:Type) where
 num:Int
 at':Nat
 lost:Int
 box:List E
def Pc.hear (e:E) (c:Pc E):Pc E:=if c.box.length<16 then { c with box:=c.box++[e] } else { c with lost:=c.lost+1 }
def sd (h:Hd F):Bool × Int:=if h.fr = -1 then (true,h.key.1) else (false,h.fr)
def asksP (mt:E→F→Bool) (l:List (Hd F)) (s:Bool × Int) (e:E):Bool:=l.any fun h=>decide (sd h=s)&&mt e h.f
def hearAt (mt:E→F→Bool) (l:List (Hd F)) (fr:Bool × Int) (e:E) (c:Pc E):Pc E:=if (true,c.num)≠fr∧asksP mt l (true,c.num) e=true then c.hear e else c
def hrs (mt:E→F→Bool) (l:List (Hd F)) (a:Nat) (m:Ms F E) (cs:List (Pc E)):List (Pc E) :=
 match m with
 | .ev e=>cs.map (hearAt mt l (false,(a:Int)) e)
 | _=>cs
theorem hear_num (e:E) (c:Pc E):(c.hear e).num=c.num∧(c.hear e).at'=c.at':=by unfold Pc.hear;split <;> exact ⟨rfl,rfl⟩
theorem hear_lost (e:E) (c:Pc E):c.lost≤(c.hear e).lost∧(c.hear e).lost≤c.lost+1∧(c.box.length≤16→(c.hear e).box.length≤16):=by
 unfold Pc.hear
 split
 ·rename_i h
  refine ⟨Int.le_refl _,by show c.lost≤c.lost+1;omega,fun _=>?_⟩
  show (c.box++[e]).length≤16
  rw [List.length_append,List.length_singleton];omega
 ·exact ⟨by show c.lost≤c.lost+1;omega,Int.le_refl _,fun h=>h⟩
variable {cov:F→F→Bool} {adj:Nat→Nat→Bool} {nxt:Nat→Nat→Int} {home:Int→Nat} {ok:F→Prop} {rank:Nat→Nat→Nat} {mt:E→F→Bool}
theorem hearAt_num (l:List (Hd F)) (fr:Bool × Int) (e:E) (c:Pc E):(hearAt mt l fr e c).num=c.num∧(hearAt mt l fr e c).at'=c.at':=by
 unfold hearAt;split
 ·exact hear_num e c
 ·exact ⟨rfl,rfl⟩
theorem hearAt_lost (l:List (Hd F)) (fr:Bool × Int) (e:E) (c:Pc E):c.lost≤(hearAt mt l fr e c).lost∧(hearAt mt l fr e c).lost≤c.lost+1∧(c.box.length≤16→(hearAt mt l fr e c).box.length≤16):=by
 unfold hearAt;split
 ·exact hear_lost e c
 ·exact ⟨Int.le_refl _,by omega,fun h=>h⟩
end
end Go.Proofs.YtecnfgikbmcgoaaGreat
namespace Go.Proofs.YtecnfgikbmcgoaaGreat
open Go.RowKit
open Go.Maps (Keyed)
open Go.ChangeMaps (setBlock)
theorem EvM.len8 {w:World} {ad:Option Addr} {l:List Atr} (h:EvM w ad l):1≤l.length∧l.length≤8:=by
 have:=h.ok
 simp only [evOk,Bool.and_eq_true,decide_eq_true_eq] at this
 omega
def sdP (s:Bool × Int) (x:Hm):Bool:=decide (sd x.1=s)
theorem Tryz.infoFil:(Tryz.prog.info? 48).map (fun i=>(i.zero,i.size,i.bytes))=some (some (.slice none 0 0),1,24):=by kernel_rfl
set_option maxRecDepth 100000 in
set_option maxHeartbeats 4000000 in
theorem side_any (h:Hw) (a:Option Addr) (c:Nat) (w:World):Calls Tryz.prog 117 #[.agg (hv h a c)] w fun e w'=>e = .returned (.agg #[.bool (sd h).1,.int .i64 (sd h).2])∧Gr w w':=by
 unfold hv
 have hsz:∀ o:Obj,(w.alloc o).heap.size=w.heap.size+1:=fun o=>by simp
 by_cases hf:h.fr = -1
 ·have HS:Hid (sd h=(true,h.key.1)):=if_pos hf
  go_enter Tryz.func117,Tryz.ntmps117
  rw [hf]
  go_wp2_with fail
  exact bodyPost_ret (v:=.agg #[.bool true,.int .i64 h.key.1]) (by simp [results,Tryz.results117,go_sem]) rfl ⟨by rw [HS.out],((Gr.refl w).alloc _).alloc _⟩
 ·have HS:Hid (sd h=(false,h.fr)):=if_neg hf
  have hf':(h.fr == -1)=false:=by simpa using hf
  go_enter Tryz.func117,Tryz.ntmps117
  go_wp2_with fail
  exact bodyPost_ret (v:=.agg #[.bool false,.int .i64 h.fr]) (by simp [results,Tryz.results117,go_sem]) rfl ⟨by rw [HS.out],((Gr.refl w).alloc _).alloc _⟩
def fcells (L:List Hm):List Value:=L.map fun x=>.slice x.2.1 x.1.f.length x.2.2
theorem fcells_snoc (L:List Hm) (x:Hm):fcells (L++[x])=fcells L++[.slice x.2.1 x.1.f.length x.2.2]:=by simp [fcells]
set_option maxRecDepth 100000 in
set_option maxHeartbeats 4000000 in
theorem Match_none (l:List Atr) (ad va:Option Addr) (cap vk:Nat) (w:World) (h:EvM w ad l) :
  Calls Tryz.prog 56 #[.slice ad l.length cap,.slice va 0 vk] w fun e w'=>e = .returned (.tuple #[.slice none 0 0,.int .i64 0])∧Gr w w':=by
 have HC:=Hid.mk' (CheckEvent_ad l ad cap w (by have:=h.len8;unfold maxLen;omega) (Or.inr h.at') h.wf)
 rw [show chkE l=0 by simp [chkE,h.ok]] at HC
 clear h
 go_enter Tryz.func56,Tryz.ntmps56
 go_wp2_with fail
 refine HC.out.mono ?_
 rintro e w1 ⟨rfl,g1⟩
 have G1:=Hid.mk' g1
 clear HC g1
 go_wp2_with fail
 go_loopw [7,18] (fun v i wr=>v = .slice none 0 0∧i = .int .i64 0∧Hid (Gr w wr)) (fun _ _ _=>0)
 case atStart=>exact ⟨rfl,rfl,G1⟩
 case round =>
  obtain ⟨rfl,rfl,G⟩:=hrel
  go_wp2_with fail
  go_ret2
  exact ⟨rfl,G.out⟩
theorem fis_of {w:World} {base g cap:Nat} {L:List Hm} (h:w.ownsRow base 48 1 (.slice (some ⟨g,0,none⟩) L.length cap) L.length (fcells L)) (hf:∀ x∈L,FiM w x.2.1 x.1.f):FisAt w g 0 (L.map fun x=>x.1.f):=by
 intro i hi
 rw [List.length_map] at hi
 have he:fat (L.map fun x=>x.1.f) i=L[i].1.f:=by simp [fat,hi]
 refine ⟨L[i].2.1,L[i].2.2,?_,?_⟩
 ·rw [Nat.zero_add,World.ownsRow.cellAt h i (by omega),he]
  simp [fcells,hi]
 ·rw [he];exact Or.inr (hf _ (List.getElem_mem hi)).at'
theorem hits_any (e:List Atr) (fs:List (List Wnt)):(0<(hits e fs fs.length).length)↔(fs.any fun f=>mat e f)=true:=by
 rw [List.length_pos_iff_exists_mem]
 simp only [hits,List.mem_filter,List.mem_range,List.any_eq_true]
 constructor
 ·rintro ⟨i,h1,h2⟩;exact ⟨_,fat_mem h1,h2⟩
 ·rintro ⟨f,h1,h2⟩
  obtain ⟨i,hi,rfl⟩:=List.mem_iff_getElem.1 h1
  exact ⟨i,hi,by simpa [fat,hi] using h2⟩
set_option maxRecDepth 100000 in
set_option maxHeartbeats 4000000 in
theorem asks_any (TB HB hoff nb hcap b MB:Nat) (s:Bool × Int) (ev:List Atr) (ad:Option Addr) (cap:Nat) (X:List Hm) (es:Array MapEntry) (clock:Nat) (m:Int) (w:World)
  (c0:w.cell? ⟨TB,0,none⟩=some (.slice (some ⟨HB,hoff,none⟩) nb hcap)) (cb:w.cell? ⟨HB,hoff+b,none⟩=some (.map (some MB))) (hb:b<nb) (hTB:TB<w.heap.size) (hHB:HB<w.heap.size) (hX:X.length≤1048576)
  (hp:Hp w MB X es clock) (he:EvM w ad ev) (hM:Ml m w) :
  Calls Tryz.prog 90 #[.pointer (some ⟨TB,0,none⟩),.int .i64 b,.agg #[.bool s.1,.int .i64 s.2],.slice ad ev.length cap] w fun e w'=>e = .returned (.bool (X.any fun x=>sdP s x&&mat ev x.1.f))∧Gr w w':=by
 obtain ⟨i0,hi,hz0,hz1,hz2⟩:=info_parts Tryz.infoFil
 have HP:=Hid.mk' hp
 have HE:=Hid.mk' he
 have HM:=Hid.mk' hM
 clear hp he hM
 have ga:Gr w (w.alloc (.cells #[.bool s.1,.int .i64 s.2] 142)):=(Gr.refl w).alloc _
 have hrg:=run_range_map (P:=Tryz.prog) (w.alloc (.cells #[.bool s.1,.int .i64 s.2] 142)) 123 112 121 MB es clock Tryz.underlying123 (HP.out.gr ga).mp.blk
 have hsz:(w.alloc (.cells #[.bool s.1,.int .i64 s.2] 142)).heap.size=w.heap.size+1:=by simp
 rw [hsz] at hrg
 have GA:=Hid.mk' ga
 clear ga hsz
 go_enter Tryz.func90,Tryz.ntmps90
 go_wp2_with fail
 have H0:=Hid.mk' (blk_gr ((Gr.refl _).alloc (.mapIter (some MB) clock #[] clock)) (heap_alloc_new w (.cells #[.bool s.1,.int .i64 s.2] 142)))
 have I0:Hid (((w.alloc (.cells #[.bool s.1,.int .i64 s.2] 142)).alloc (.mapIter (some MB) clock #[] clock)).heap[w.heap.size+1]? = some (.mapIter (some MB) clock #[] clock)):=by
  have:=heap_alloc_new (w.alloc (.cells #[.bool s.1,.int .i64 s.2] 142)) (.mapIter (some MB) clock #[] clock)
  rw [show (w.alloc (.cells #[.bool s.1,.int .i64 s.2] 142)).heap.size=w.heap.size+1 by simp] at this
  exact this
 have G0:=Hid.mk' (GA.out.alloc (.mapIter (some MB) clock #[] clock))
 clear hrg GA c0 cb
 go_loopw [9] (fun v wr=>∃ (seen:Array Nat) (L:List Hm),Hid (wr.heap[w.heap.size+1]? = some (.mapIter (some MB) clock seen clock))∧Hid (Gr w wr)∧Hid (wr.heap[w.heap.size]? = some (.cells #[.bool s.1,.int .i64 s.2] 142 (0,0))) ∧
  Hid (wr.ownsRow (w.heap.size+1) 48 1 v L.length (fcells L))∧Hid (Hl X es (sdP s) seen L)) (fun _ wr=>(leftOf es (wr.iterSeen (w.heap.size+1))).size)
 case atStart=>exact ⟨#[],[],I0,G0,H0,World.ownsRow_nil _ _ _ _,Hl.init X es _⟩
 case round =>
  clear I0 G0 H0
  obtain ⟨seen,L,IT,G,HB1,O,KL⟩:=hrel
  obtain ⟨va,vm,vk,rfl⟩:=owns_slice O.out
  have HMS:Hid (leftOf es (wr.iterSeen (w.heap.size+1))=leftOf es seen):=by show _=_;unfold World.iterSeen;rw [IT.out]
  have HLN:=Hid.mk' KL.out.len
  rcases next_law (HP.out.gr G.out) IT.out (Nat.le_succ _) G.out with ⟨h0,hnx⟩ | ⟨e,he,W2,hnx,hen,hit2,g2,hoth,hsz2⟩
  ·have HA:=Hid.mk' (KL.out.all HP.out h0)
   have ANY:Hid ((X.any fun x=>sdP s x&&mat ev x.1.f)=(L.map fun x=>x.1.f).any fun f=>mat ev f):=by
    show _=_
    rw [Bool.eq_iff_iff]
    simp only [List.any_eq_true,List.mem_map,Bool.and_eq_true]
    constructor
    ·rintro ⟨x,h1,h2,h3⟩;exact ⟨_,⟨x,(HA.out x).2 ⟨h1,h2⟩,rfl⟩,h3⟩
    ·rintro ⟨_,⟨x,h1,rfl⟩,h3⟩;exact ⟨x,((HA.out x).1 h1).1,((HA.out x).1 h1).2,h3⟩
   have FW:Hid (∀ x∈L,FiM wr x.2.1 x.1.f):=fun x hx=>((HP.out.fi x ((HA.out x).1 hx).1).gr G.out)
   clear h0 KL HMS HB1 IT HA
   obtain ⟨va',vk',he',hsh⟩:=owns_shape O.out
   obtain ⟨rfl,rfl,rfl⟩:va=va'∧vm=L.length∧vk=vk':=by injection he' with h1 h2 h3;exact ⟨h1,h2,h3⟩
   clear he'
   by_cases hL:L=[]
   ·subst hL
    have MT:=Hid.mk' (Match_none ev ad va cap vk wr (HE.out.gr G.out))
    go_wp2_with fail
    refine MT.out.mono ?_
    rintro e w3 ⟨rfl,g3⟩
    have G3:=Hid.mk' (Gr.call G.out g3)
    go_wp2_with fail
    go_ret
    exact ⟨by rw [ANY.out];rfl,G3.out⟩
   ·obtain ⟨g,rfl⟩:=hsh (by cases L with | nil=>exact absurd rfl hL | cons a t=>simp)
    have hlE:=HE.out.len8
    have MT:=Hid.mk' (Match_any ev (L.map fun x=>x.1.f) ad cap g 0 vk m wr (by unfold maxLen;omega) (Or.inr (HE.out.gr G.out).at') HE.out.wf (by have:=HLN.out;rw [List.length_map];omega) (owns_lt O.out) (fis_of O.out FW.out) (fun f hf=>by
     obtain ⟨x,hx,rfl⟩:=List.mem_map.1 hf
     have:=(FW.out x hx).len;unfold maxLen;omega) (fun f hf=>by
     obtain ⟨x,hx,rfl⟩:=List.mem_map.1 hf
     exact (FW.out x hx).wf) (G.out.ml HM.out))
    have hme:mErr ev (L.map fun x=>x.1.f)=0:=by
     have:(L.map fun x=>x.1.f).all filterOk=true:=by
      rw [List.all_eq_true]
      intro f hf
      obtain ⟨x,hx,rfl⟩:=List.mem_map.1 hf
      exact (FW.out x hx).ok
     simp [mErr,HE.out.ok,this]
    have hmr:mRes ev (L.map fun x=>x.1.f)=hits ev (L.map fun x=>x.1.f) (L.map fun x=>x.1.f).length:=if_pos hme
    have HIT:=Hid.mk' (hits_any ev (L.map fun x=>x.1.f))
    have hle:=hits_le ev (L.map fun x=>x.1.f) (L.map fun x=>x.1.f).length
    rw [hme,hmr,List.length_map] at MT
    rw [List.length_map] at HIT hle
    have hln:=HLN.out
    clear hL hsh hme hmr
    have HBB:Hid (((L.map fun x=>x.1.f).any fun f=>mat ev f)=decide (0<(hits ev (L.map fun x=>x.1.f) L.length).length)):=by
     show _=_
     rw [Bool.eq_iff_iff, ← HIT.out,decide_eq_true_iff]
    clear HIT
    generalize hits ev (L.map fun x=>x.1.f) L.length=H at *
    go_wp2_with fail
    refine MT.out.mono ?_
    rintro e w3 ⟨v3,rfl,g3,ho3⟩
    obtain ⟨xa,xk,rfl,hxa⟩:=owns_shape ho3
    have G3:=Hid.mk' (Gr.call G.out g3)
    clear MT g3 ho3 hxa
    go_wp2_with fail
    go_ret
    exact ⟨by rw [ANY.out,HBB.out];rfl,G3.out⟩
  ·obtain ⟨x,hx,hk,hv'⟩:=HP.out.ent (mem_left he).1
   rw [hv'] at hnx hen
   rw [hk] at hnx hen
   unfold hv pk at hnx hen
   have IT2:=Hid.mk' hit2
   have G2:=Hid.mk' g2
   have B2:Hid (W2.heap[w.heap.size]? = some (.cells #[.bool s.1,.int .i64 s.2] 142 (0,0))):=(hoth _ (by omega)).trans HB1.out
   have hW2:w.heap.size+2≤W2.heap.size:=blk_lt IT2.out
   have HNE:Hid (Value.ownBlock (.slice va vm vk)≠some (w.heap.size+1)):=by
    intro h5
    rcases O.out.2 with ⟨h6,_⟩ | ⟨b',cap',cur,h6,_,h7,_⟩
    ·rw [h6] at h5;simp [Value.ownBlock] at h5
    ·rw [h6] at h5
     have:b'=w.heap.size+1:=by simpa [Value.ownBlock] using h5
     subst this
     rw [IT.out] at h7;cases h7
   have O2:Hid (W2.ownsRow (w.heap.size+1) 48 1 (.slice va vm vk) L.length (fcells L)):=by
    obtain ⟨q1,q2⟩:=O.out
    refine ⟨q1,?_⟩
    rcases q2 with q2 | ⟨b',cap',cur,h6,h8,h7,q3⟩
    ·exact Or.inl q2
    ·refine Or.inr ⟨b',cap',cur,h6,h8,?_,q3⟩
     rw [hoth b' (fun h9=>HNE.out (by rw [h6,h9];rfl))];exact h7
   have NXT:Hid (∀ (L':List Hm),Hl X es (sdP s) (seen.push e.born) L' → ∀ (v':Value) (w':World),w'.heap[w.heap.size+1]? = some (.mapIter (some MB) clock (seen.push e.born) clock)→Gr w w'→w'.heap[w.heap.size]? = some (.cells #[.bool s.1,.int .i64 s.2] 142 (0,0))→w'.ownsRow (w.heap.size+1) 48 1 v' L'.length (fcells L') →
     (∃ (seen:Array Nat) (L:List Hm),Hid (w'.heap[w.heap.size+1]? = some (.mapIter (some MB) clock seen clock))∧Hid (Gr w w')∧Hid (w'.heap[w.heap.size]? = some (.cells #[.bool s.1,.int .i64 s.2] 142 (0,0)))∧Hid (w'.ownsRow (w.heap.size+1) 48 1 v' L.length (fcells L))∧Hid (Hl X es (sdP s) seen L)) ∧
     (leftOf es (w'.iterSeen (w.heap.size+1))).size<(leftOf es (wr.iterSeen (w.heap.size+1))).size):=by
    intro L' hL' v' w' h1 h2 h3 h4
    refine ⟨⟨_,L',h1,h2,h3,h4,hL'⟩,?_⟩
    rw [HMS.out]
    unfold World.iterSeen
    rw [h1]
    exact left_shrinks es seen e he
   have SKIP:=Hid.mk' (fun hf=>KL.out.skip HP.out (mem_left he).1 hx hk hf)
   have TAKE:=Hid.mk' (fun hf=>KL.out.take HP.out (mem_left he).1 (mem_left he).2 hx hk hf)
   have GX:=Hid.mk' ((Gr.refl W2).alloc (.cells #[.int .i64 x.1.key.1,.int .i64 x.1.key.2,.slice x.2.1 x.1.f.length x.2.2,.int .i64 x.1.fr] 121))
   have HXB:=Hid.mk' (heap_alloc_new W2 (.cells #[.int .i64 x.1.key.1,.int .i64 x.1.key.2,.slice x.2.1 x.1.f.length x.2.2,.int .i64 x.1.fr] 121))
   clear he hk hx hit2 g2 hoth hsz2 hv' G IT O KL HMS HB1
   have hlt2:w.heap.size<W2.heap.size:=by omega
   have b0:W2.cell? ⟨w.heap.size,0,none⟩=some (.bool s.1):=by rw [cell_of_row _ _ _ _ _ _ B2.out];rfl
   have b1:W2.cell? ⟨w.heap.size,1,none⟩=some (.int .i64 s.2):=by rw [cell_of_row _ _ _ _ _ _ B2.out];rfl
   have SD:=Hid.mk' (side_any x.1 x.2.1 x.2.2 (W2.alloc (.cells #[.int .i64 x.1.key.1,.int .i64 x.1.key.2,.slice x.2.1 x.1.f.length x.2.2,.int .i64 x.1.fr] 121)))
   unfold hv at SD
   go_wp2_with fail
   clear hnx hen b0 b1
   generalize hW3:W2.alloc (.cells #[.int .i64 x.1.key.1,.int .i64 x.1.key.2,.slice x.2.1 x.1.f.length x.2.2,.int .i64 x.1.fr] 121)=W3 at *
   have B3:=Hid.mk' (blk_gr GX.out B2.out)
   have b0:W3.cell? ⟨w.heap.size,0,none⟩=some (.bool s.1):=by rw [cell_of_row _ _ _ _ _ _ B3.out];rfl
   have b1:W3.cell? ⟨w.heap.size,1,none⟩=some (.int .i64 s.2):=by rw [cell_of_row _ _ _ _ _ _ B3.out];rfl
   have d0:W3.cell? ⟨W2.heap.size,0,none⟩=some (.int .i64 x.1.key.1):=by rw [cell_of_row _ _ _ _ _ _ HXB.out];rfl
   have d1:W3.cell? ⟨W2.heap.size,1,none⟩=some (.int .i64 x.1.key.2):=by rw [cell_of_row _ _ _ _ _ _ HXB.out];rfl
   have d2:W3.cell? ⟨W2.heap.size,2,none⟩=some (.slice x.2.1 x.1.f.length x.2.2):=by rw [cell_of_row _ _ _ _ _ _ HXB.out];rfl
   have d3:W3.cell? ⟨W2.heap.size,3,none⟩=some (.int .i64 x.1.fr):=by rw [cell_of_row _ _ _ _ _ _ HXB.out];rfl
   have SD2:Hid (∀ W,W=W3.drew→Calls Tryz.prog 117 #[.agg #[.int .i64 x.1.key.1,.int .i64 x.1.key.2,.slice x.2.1 x.1.f.length x.2.2,.int .i64 x.1.fr]] W fun e w'=>e = .returned (.agg #[.bool (sd x.1).1,.int .i64 (sd x.1).2])∧Gr W3 w'∧w'.cell? ⟨w.heap.size,0,none⟩=some (.bool s.1)∧w'.cell? ⟨w.heap.size,1,none⟩=some (.int .i64 s.2)):=by
    intro W hW
    subst hW
    refine (side_any x.1 x.2.1 x.2.2 W3.drew).mono ?_
    rintro e w' ⟨h1,h2⟩
    have g:Gr W3 w':=Gr.call (Gr.refl W3).drew h2
    have z:=blk_gr g B3.out
    exact ⟨h1,g,by rw [cell_of_row _ _ _ _ _ _ z];rfl,by rw [cell_of_row _ _ _ _ _ _ z];rfl⟩
   clear SD hW3
   by_cases hA:sd x.1=s
   ·have KL2:=Hid.mk' (TAKE.out (by simp [sdP,hA]))
    rw [hA] at SD2
    clear SKIP TAKE
    go_region_with (go_at_call 117;refine (SD2.out _ rfl).mono ?_;rintro e w4 ⟨rfl,g4,b0',b1'⟩)
    all_goals
     have GY:=Hid.mk' (Gr.call GX.out g4)
     have XC:=Hid.mk' (blk_gr g4 HXB.out)
     have O4:=Hid.mk' (ownsGr O2.out GY.out)
     have G4:=Hid.mk' (Gr.call G2.out GY.out)
     have hs4:w.heap.size+1<w4.heap.size:=Nat.lt_of_lt_of_le (by omega) GY.out.size
     clear g4 b0' b1' b0 b1 d0 d1 d2 d3
     have g2:w4.cell? ⟨W2.heap.size,2,none⟩=some (.slice x.2.1 x.1.f.length x.2.2):=by rw [cell_of_row _ _ _ _ _ _ XC.out];rfl
     go_wp2_with (at_builtin;refine wpList_append_own _ rfl _ _ 190 rfl (w.heap.size+1) 48 i0 _ 1 24 Tryz.underlying190 hi hz0 hz1 hz2 rfl (by decide) _ _ _ rfl (O4.out.alloc _) ⟨w4.heap.size,0,none⟩ 1 1 [.slice x.2.1 x.1.f.length x.2.2] rfl rfl (World.news_of_block (new_atK rfl)) ?k2 ?k3 ?k4 ?k5 ?_)
     case k2=>intro t ht;simp at ht;subst ht;rfl
     case k3=>have:=HLN.out;unfold maxLen;omega
     case k4=>have:=HLN.out;omega
     case k5=>simp;omega
     intro v5 w5 ho5 hg5 _
     have low:∀ q,Value.ownBlock (.slice va vm vk)=some q→w.heap.size+1≤q:=own_low O4.out
     have G5:Hid (Gr w w5):=Below.grown (G4.out.alloc _) hg5 (Nat.le_trans G4.out.size (by simp)) (fun q hq=>by have:=low q hq;omega)
     have I5:Hid (w5.heap[w.heap.size+1]? = some (.mapIter (some MB) clock (seen.push e.born) clock)):=by
      show _=_
      rw [hg5.block _ (by simp;omega) (fun h5=>HNE.out h5.symm),Below.heap_alloc _ _ _ (by omega),GY.out.block _ (by omega)]
      exact IT2.out
     have B5:Hid (w5.heap[w.heap.size]? = some (.cells #[.bool s.1,.int .i64 s.2] 142 (0,0))):=by
      show _=_
      rw [hg5.block _ (by simp;omega) (fun h5=>by have:=low _ h5.symm;omega),Below.heap_alloc _ _ _ (by omega),GY.out.block _ (by omega)]
      exact B2.out
     have O5:w5.ownsRow (w.heap.size+1) 48 1 v5 (L++[x]).length (fcells (L++[x])):=by
      rw [fcells_snoc,List.length_append];exact ho5
     have N1:=Hid.mk' (NXT.out (L++[x]) KL2.out v5 w5 I5.out G5.out B5.out O5)
     obtain ⟨ya,ym,yk,rfl⟩:=owns_slice ho5
     clear ho5 hg5 O4 O2 NXT O5 low
     go_wp2_with fail
     exact N1.out
   ·have SK:=Hid.mk' (SKIP.out (by simp [sdP,hA]))
    by_cases hB:(sd x.1).1=s.1
    ·have hC:(sd x.1).2≠s.2:=fun e=>hA (Prod.ext hB e)
     have hC':((sd x.1).2==s.2)=false:=by simpa using hC
     rw [hB] at SD2
     clear SKIP TAKE
     go_region_with (go_at_call 117;refine (SD2.out _ rfl).mono ?_;rintro e w4 ⟨rfl,g4,b0',b1'⟩)
     all_goals
      have GY:=Hid.mk' (Gr.call GX.out g4)
      have N1:=Hid.mk' (NXT.out L SK.out (.slice va vm vk) w4 ((GY.out.block _ (by omega)).trans IT2.out) (Gr.call G2.out GY.out) (blk_gr GY.out B2.out) (ownsGr O2.out GY.out))
      clear NXT g4 b0' b1' b0 b1 d0 d1 d2 d3
      go_wp2_with fail
      exact ⟨⟨_,_,_,_,_,_,_,_,_,_,_,_,_,_,_,N1.out.1,rfl⟩,N1.out.2⟩
    ·have hB':((sd x.1).1==s.1)=false:=by simpa using hB
     clear SKIP TAKE
     go_region_with (go_at_call 117;refine (SD2.out _ rfl).mono ?_;rintro e w4 ⟨rfl,g4,b0',b1'⟩)
     all_goals
      have GY:=Hid.mk' (Gr.call GX.out g4)
      have N1:=Hid.mk' (NXT.out L SK.out (.slice va vm vk) w4 ((GY.out.block _ (by omega)).trans IT2.out) (Gr.call G2.out GY.out) (blk_gr GY.out B2.out) (ownsGr O2.out GY.out))
      clear NXT g4 b0' b1' b0 b1 d0 d1 d2 d3
      go_wp2_with fail
      exact ⟨⟨_,_,_,_,_,_,_,_,_,_,_,_,_,_,_,N1.out.1,rfl⟩,N1.out.2⟩
end Go.Proofs.YtecnfgikbmcgoaaGreat
namespace Go.Proofs.YtecnfgikbmcgoaaGreat
open Go.RowKit
def pcOf (c:Cl):Pc (List Atr):=⟨c.num,c.at',c.lost,c.box.map (·.1)⟩
structure Gd (T:Tc) (nxt:Nat→Nat→Int) (rank:Nat→Nat→Nat) (home:Int→Nat) (Ks:List Ky) (s:Ts) (cs:List (Pc (List Atr))) (n M:Nat):Prop where
 I:Inv cov T.adj nxt home okF s
 K:Kin Ks s
 W:Wgt cov rank T.nb Ks.length s n
 L:∀ c∈cs,0≤c.lost∧c.lost+n≤M∧c.box.length≤16
 le:n≤M
section
variable {T:Tc} {nxt:Nat→Nat→Int} {rank:Nat→Nat→Nat} {home:Int→Nat} {Ks:List Ky} {s:Ts} {cs:List (Pc (List Atr))} {n M:Nat}
theorem Gd.len (G:Gd T nxt rank home Ks s cs n M) (b:Nat):(s.held b).length≤Ks.length:=(G.I.srt b).len (G.K.held b)
theorem Gd.sm (S:Sh T nxt rank) (G:Gd T nxt rank home Ks s cs n M) (hK:Ks.length≤1048576) (hM:M<549755813888):Sm T s :=
 ⟨fun b _=>Nat.le_trans (G.len b) hK,fun a b=>by have:=G.W.len S.S S.Z.inn G.I.nq a b;have:=G.le;omega⟩
theorem Gd.step (S:Sh T nxt rank) (G:Gd T nxt rank home Ks s cs n M) {a b:Nat} (ha:T.adj a b=true) {m:Ms (List Wnt) (List Atr)} {r:List (Ms (List Wnt) (List Atr))} (hq:s.q a b=m::r) :
  ∃ n',n'<n∧Gd T nxt rank home Ks (s.nstep cov T.adj mat a b m) (hrs mat (s.held b) a m cs) n' M:=by
 obtain ⟨n',h1,h2⟩:=step_wgt (mt:=mat) preF S.N S.S S.Z.inn G.I G.len G.W ha hq
 refine ⟨n',h1,nstep_inv S.N G.I ha hq,nstep_kin G.K hq,h2,fun c hc=>?_,by have:=G.le;omega⟩
 unfold hrs at hc
 split at hc
 ·rename_i e
  obtain ⟨d,hd,rfl⟩:=List.mem_map.1 hc
  have k1:=G.L d hd
  have k2:=hearAt_lost (mt:=mat) (s.held b) (false,(a:Int)) e d
  exact ⟨by omega,by omega,k2.2.2 k1.2.2⟩
 ·have k1:=G.L c hc
  exact ⟨k1.1,by omega,k1.2.2⟩
theorem Gd.sub (S:Sh T nxt rank) (G:Gd T nxt rank home Ks s cs n M) (k:Ky) (f:List Wnt) (hf:okF f) (hb:home k.1<T.nb) (hn:∀ g∈s.held (home k.1),g.key≠k) (hk:k∈Ks) :
  Gd T nxt rank home Ks (s.turn cov T.adj (home k.1) (ins ⟨k,f,-1⟩ (s.held (home k.1)))) cs (n+T.nb*(Ks.length+1)) (M+T.nb*(Ks.length+1)):=by
 refine ⟨sub_inv S.N G.I k f hf hn,turn_kin G.K (fun x hx=>?_),sub_wgt preF S.S G.I G.W k f hf hb hn (G.len _),fun c hc=>?_,Nat.add_le_add_right G.le _⟩
 ·rcases mem_ins.1 hx with rfl | ⟨hx,_⟩
  ·exact hk
  ·exact G.K.held _ x hx
 ·have k1:=G.L c hc
  exact ⟨k1.1,by omega,k1.2.2⟩
theorem Gd.uns (S:Sh T nxt rank) (G:Gd T nxt rank home Ks s cs n M) {x:Hw} (hb:home x.key.1<T.nb) (hm:x∈s.held (home x.key.1)) :
  Gd T nxt rank home Ks (s.turn cov T.adj (home x.key.1) (del x.key (s.held (home x.key.1)))) cs (n+T.nb*(Ks.length+1)) (M+T.nb*(Ks.length+1)):=by
 refine ⟨uns_inv S.N G.I x.key,turn_kin G.K (fun y hy=>G.K.held _ y (mem_del.1 hy).1),uns_wgt preF S.N S.S G.I G.W hb hm (G.len _),fun c hc=>?_,Nat.add_le_add_right G.le _⟩
 have k1:=G.L c hc
 exact ⟨k1.1,by omega,k1.2.2⟩
theorem Gd.mono (G:Gd T nxt rank home Ks s cs n M) {n' M':Nat} (h1:n≤n') (h2:M+n'≤M'+n) (h3:n'≤M'):Gd T nxt rank home Ks s cs n' M' :=
 ⟨G.I,G.K,G.W.mono h1,fun c hc=>by have k1:=G.L c hc;exact ⟨k1.1,by omega,k1.2.2⟩,h3⟩
end
def Tf (T:Tc) (r:Nat→Rl) (w:World) (cs:List (Pc (List Atr))) (s:Ts):Prop:=∃ cls,Tw T r w cls s∧cls.map pcOf=cs
theorem Tf.gr {T:Tc} {r:Nat→Rl} {w w':World} {cs:List (Pc (List Atr))} {s:Ts} (h:Tf T r w cs s) (g:Gr w w'):Tf T r w' cs s:=by
 obtain ⟨cls,h1,h2⟩:=h
 exact ⟨cls,h1.gr g,h2⟩
theorem Tf.b {T:Tc} {r:Nat→Rl} {w:World} {cs:List (Pc (List Atr))} {s:Ts} (h:Tf T r w cs s):Tb T r w:=by
 obtain ⟨cls,h1,h2⟩:=h;exact h1.b
theorem Tf.find {T:Tc} {r:Nat→Rl} {w:World} {cs:List (Pc (List Atr))} {s:Ts} (h:Tf T r w cs s) {c:Pc (List Atr)} (hc:c∈cs):∃ cls x,Tw T r w cls s∧cls.map pcOf=cs∧x∈cls∧pcOf x=c:=by
 obtain ⟨cls,h1,rfl⟩:=h
 obtain ⟨x,hx,rfl⟩:=List.mem_map.1 hc
 exact ⟨cls,x,h1,rfl,hx,rfl⟩
end Go.Proofs.YtecnfgikbmcgoaaGreat
