import Derived.Test.YtecnfgikbmcgoaaGreatG18
namespace Go.Proofs.YtecnfgikbmcgoaaGreat
open Go.RowKit
theorem Tryz.infoRHeld:(Tryz.prog.info? 202).map (fun i=>(i.zero,i.size,i.bytes))=some (some (.agg #[.int .i64 0,.int .i64 0,.slice none 0 0,.int .i64 0]),4,48):=by kernel_rfl
def delM (k:Ky) (X:List Hm):List Hm:=X.filter fun x => !(x.1.key==k)
theorem delM_succ (k:Ky) (X:List Hm) (q:Nat) (h:q<X.length):delM k (X.take (q+1))=delM k (X.take q)++(if (hat X q).1.key=k then [] else [hat X q]):=by
 unfold delM hat
 rw [List.take_succ_eq_append_getElem h,List.filter_append,List.getD_eq_getElem?_getD,List.getElem?_eq_getElem h]
 by_cases hk:X[q].1.key=k <;> simp [hk]
theorem delM_len (k:Ky) (X:List Hm) (q:Nat):(delM k (X.take q)).length≤X.length:=by
 unfold delM
 exact Nat.le_trans (List.length_filter_le _ _) (List.length_take_le' q X)
theorem owns_down {w:World} {e:TypeId} {lo lo' s n:Nat} {v:Value} {cs:List Value} (h:w.ownsRow lo e s v n cs) (hl:lo'≤lo):w.ownsRow lo' e s v n cs :=
 ⟨h.1,by
  rcases h.2 with h1 | ⟨b1,c1,u1,q1,q2,q3⟩
  ·exact Or.inl h1
  ·exact Or.inr ⟨b1,c1,u1,q1,by omega,q3⟩⟩
set_option maxRecDepth 100000 in
set_option maxHeartbeats 4000000 in
theorem drop_row (TB HB nb hcap:Nat) (ad:Option Addr) (cap:Nat) (X:List Hm) (w:World) (b:Nat) (hb:b<nb) (k:Ky)
  (htb:w.cell? ⟨TB,0,none⟩=some (.slice (some ⟨HB,0,none⟩) nb hcap)) (hhb:w.cell? ⟨HB,b,none⟩=some (.slice ad X.length cap)) (htl:TB<w.heap.size) (hhl:HB<w.heap.size) (hfz:w.frozen? ⟨HB,b,none⟩=false) (hrow:RowAt w ad (hcells X)) (hlen:X.length≤1048576) :
  Calls Tryz.prog 98 #[.pointer (some ⟨TB,0,none⟩),.int .i64 b,.agg #[.int .i64 k.1,.int .i64 k.2]] w fun e w'=>e = .returned (.tuple #[]) ∧ ∃ w1 va vk,Gr w w1∧w1.ownsRow w.heap.size 202 4 (.slice va (delM k X).length vk) (delM k X).length (hcells (delM k X))∧w'=w1.setCell ⟨HB,b,none⟩ (.slice va (delM k X).length vk):=by
 obtain ⟨i0,hi,hz0,hz1,hz2⟩:=info_parts Tryz.infoRHeld
 have ROW:=Hid.mk' hrow
 have CT:Hid (∀ W,Gr w W→W.cell? ⟨TB,0,none⟩=some (.slice (some ⟨HB,0,none⟩) nb hcap)∧W.cell? ⟨HB,b,none⟩=some (.slice ad X.length cap)):=fun W g=>by
  rw [(bcell g).1 _ _ htl,(bcell g).1 _ _ hhl];exact ⟨htb,hhb⟩
 have FZ:Hid (∀ W,Gr w W→W.frozen? ⟨HB,b,none⟩=false):=fun W g=>by rw [(bcell g).2 _ _ hhl];exact hfz
 clear hrow htb hhb hfz
 obtain ⟨k1,k2⟩:=k
 go_enter Tryz.func98,Tryz.ntmps98
 go_wp2_with fail
 have G0:=Hid.mk' ((Gr.refl w).alloc (.cells #[.int .i64 k1,.int .i64 k2] 200))
 have P0:=Hid.mk' (heap_alloc_new w (.cells #[.int .i64 k1,.int .i64 k2] 200))
 have HSZ:Hid ((w.alloc (.cells #[.int .i64 k1,.int .i64 k2] 200)).heap.size=w.heap.size+1):=by show _=_;simp
 generalize w.alloc (.cells #[.int .i64 k1,.int .i64 k2] 200)=w1 at *
 go_loopw [6,7] (fun v i wr=>∃ (q:Nat) (va:Option Addr) (vk:Nat),q≤X.length∧v = .slice va (delM (k1,k2) (X.take q)).length vk∧i = .int .i64 q∧Hid (Gr w1 wr)∧Hid (wr.ownsRow w1.heap.size 202 4 v (delM (k1,k2) (X.take q)).length (hcells (delM (k1,k2) (X.take q))))) (fun _ i _=>X.length - (intOf i).toNat)
 case atStart=>exact ⟨0,none,0,Nat.zero_le _,rfl,rfl,Gr.refl _,World.ownsRow_nil _ _ _ _⟩
 case round =>
  obtain ⟨q,va,vk,hq,rfl,rfl,G,O⟩:=hrel
  have P1:=Hid.mk' (blk_gr G.out P0.out)
  have p0:wr.cell? ⟨w.heap.size,0,none⟩=some (.int .i64 k1):=by rw [cell_of_row _ _ _ _ _ _ P1.out];rfl
  have p1:wr.cell? ⟨w.heap.size,1,none⟩=some (.int .i64 k2):=by rw [cell_of_row _ _ _ _ _ _ P1.out];rfl
  obtain ⟨t0,t1⟩:=CT.out _ (Gr.call G0.out G.out)
  have HLN:=Hid.mk' (delM_len (k1,k2) X q)
  by_cases hql:q<X.length
  ·have HS:=Hid.mk' (delM_succ (k1,k2) X q hql)
   obtain ⟨b',off,rfl,hb',c0,c1,c2,c3⟩:=(ROW.out.gr (Gr.call G0.out G.out)).hold hql
   generalize hat X q=x at *
   by_cases e1:x.1.key.1=k1∧x.1.key.2=k2
   ·obtain ⟨e1,e2⟩:=e1
    have HR:Hid (delM (k1,k2) (X.take (q+1))=delM (k1,k2) (X.take q)):=by
     show _=_
     rw [HS.out,if_pos (Prod.ext e1 e2),List.append_nil]
    rw [e1] at c0
    rw [e2] at c1
    go_wp2_with fail
    go_quiet (fail)
    have G2:=Hid.mk' (G.out.drewN nq)
    have O2:=Hid.mk' (ownsGr O.out ((Gr.refl wr).drewN nq))
    clear c0 c1 c2 c3 p0 p1 t0 t1
    go_wp2_with fail
    exact ⟨⟨q+1,va,vk,hql,by rw [HR.out],by simp,G2,by rw [HR.out];exact O2⟩,measM_dec _ _ hql⟩
   ·have HR:Hid (delM (k1,k2) (X.take (q+1))=delM (k1,k2) (X.take q)++[x]):=by
     show _=_
     rw [HS.out,if_neg (fun h=>e1 ⟨by rw [h],by rw [h]⟩)]
    have HW:=Hid.mk' (And.intro c0 (And.intro c1 (And.intro c2 c3)))
    by_cases e4:x.1.key.1=k1
    all_goals
     first
      | (rw [e4] at c0
         have e3:(x.1.key.2==k2)=false:=by simp;exact fun h=>e1 ⟨e4,h⟩
         clear e1 e4
         go_wp2_with fail
         go_quiet (fail))
      | (have e3:(x.1.key.1==k1)=false:=by simp;exact e4
         clear e1 e4
         go_wp2_with fail
         go_quiet (fail))
     have g2:=(Gr.refl wr).drewN nq
     have G2:=Hid.mk' (Gr.call G.out g2)
     have O2:=Hid.mk' (ownsGr O.out g2)
     have hbw:=g2.lt hb'
     have HC:Hid ((wr.drewN nq).cell? ⟨b',off+q*4,none⟩=some (.int .i64 x.1.key.1)∧(wr.drewN nq).cell? ⟨b',off+q*4+1,none⟩=some (.int .i64 x.1.key.2)∧(wr.drewN nq).cell? ⟨b',off+q*4+1+1,none⟩=some (.slice x.2.1 x.1.f.length x.2.2)∧(wr.drewN nq).cell? ⟨b',off+q*4+1+1+1,none⟩=some (.int .i64 x.1.fr)):=by
      simp only [Hid,(bcell g2).1 b' _ hb'];exact HW.out
     clear HW c0 c1 c2 c3 p0 p1 t0 t1 g2 P1 G O HS
     generalize wr.drewN nq=w4 at *
     obtain ⟨t0,t1⟩:=CT.out _ (Gr.call G0.out G2.out)
     obtain ⟨c0,c1,c2,c3⟩:=HC.out
     go_wp2_with (at_builtin;refine wpList_append_own _ rfl _ _ 199 rfl w1.heap.size 202 i0 _ 4 48 Tryz.underlying199 hi hz0 hz1 hz2 rfl (by decide) _ _ _ rfl (O2.out.alloc _) ⟨w4.heap.size,0,none⟩ 1 1 [.int .i64 x.1.key.1,.int .i64 x.1.key.2,.slice x.2.1 x.1.f.length x.2.2,.int .i64 x.1.fr] rfl rfl (World.news_of_block (new_atK rfl)) ?k2 ?k3 ?k4 ?k5 ?_)
     case k2=>intro t ht;simp at ht;rcases ht with rfl | rfl | rfl | rfl <;> rfl
     case k3=>have:=HLN.out;unfold maxLen;omega
     case k4=>have:=HLN.out;omega
     case k5=>simp;have:=G2.out.size;omega
     intro v5 w5 ho5 hg5 _
     have low:=own_low O2.out
     have G5:Hid (Gr w1 w5):=Below.grown (G2.out.alloc _) hg5 (Nat.le_trans G2.out.size (by simp)) (fun q hq=>by have:=low q hq;omega)
     have O5:Hid (w5.ownsRow w1.heap.size 202 4 v5 (delM (k1,k2) (X.take (q+1))).length (hcells (delM (k1,k2) (X.take (q+1))))):=by
      show World.ownsRow _ _ _ _ _ _ _
      rw [HR.out,hcells_snoc,List.length_append];exact ho5
     obtain ⟨ya,yk,rfl,_⟩:=owns_shape O5.out
     clear ho5 hg5 O2 low c0 c1 c2 c3 t0 t1
     go_wp2_with fail
     exact ⟨⟨q+1,ya,yk,hql,rfl,by simp,G5,O5⟩,measM_dec _ _ hql⟩
  ·have hqe:q=X.length:=by omega
   subst hqe
   have OZ:=O
   rw [List.take_length] at OZ
   have G2:=Hid.mk' (Gr.call G0.out G.out)
   have fz:=FZ.out _ G2.out
   go_wp2_with fail
   exact bodyPost_end (v:=.tuple #[]) (by simp [results,Tryz.results98,go_sem]) rfl ⟨rfl,wr,va,vk,G2.out,owns_down OZ.out (by have:=HSZ.out;omega),rfl⟩
def pD (h:Hm) (Y:List Hm):Bool:=Y.any fun x=>klt h.1.key x.1.key
def pL (h:Hm) (Y:List Hm):List Hm:=(Y.filter fun x=>klt x.1.key h.1.key)++(if pD h Y=true then h::(Y.filter fun x=>klt h.1.key x.1.key) else [])
def pE (h:Hm) (Y:List Hm):List Hm:=if pD h Y=true then pL h Y else pL h Y++[h]
def SrM (X:List Hm):Prop:=X.Pairwise fun x y=>klt x.1.key y.1.key=true
theorem takeM_snoc (X:List Hm) (q:Nat) (h:q<X.length):X.take (q+1)=X.take q++[hat X q]:=by
 unfold hat
 rw [List.take_succ_eq_append_getElem h,List.getD_eq_getElem?_getD,List.getElem?_eq_getElem h];rfl
theorem SrM.before {X:List Hm} (h:SrM X) {q:Nat} (hq:q<X.length):∀ y∈X.take q,klt y.1.key (hat X q).1.key=true:=by
 have:SrM (X.take (q+1)):=List.Pairwise.sublist (List.take_sublist _ _) h
 rw [takeM_snoc X q hq] at this
 exact fun y hy=>(List.pairwise_append.1 this).2.2 y hy _ (by simp)
theorem pL_same {h x:Hm} {Y:List Hm} (e:x.1.key=h.1.key):pL h (Y++[x])=pL h Y∧pD h (Y++[x])=pD h Y:=by
 have h1:pD h (Y++[x])=pD h Y:=by simp [pD,e,klt_irr]
 exact ⟨by simp [pL,h1,List.filter_append,e,klt_irr],h1⟩
theorem pL_over {h x:Hm} {Y:List Hm} (e:klt h.1.key x.1.key=true):pL h (Y++[x])=pL h Y++(if pD h Y=true then [x] else [h,x])∧pD h (Y++[x])=true:=by
 have e':=klt_asymm e
 cases hd:pD h Y with
 | true=>simp [pL,List.filter_append,e,e',hd];simp_all [pD]
 | false =>
  have h0:Y.filter (fun x=>klt h.1.key x.1.key)=[]:=by
   rw [List.filter_eq_nil_iff]
   intro y hy hk
   have:pD h Y=true:=List.any_eq_true.2 ⟨y,hy,hk⟩
   rw [hd] at this;cases this
  have h1:pD h (Y++[x])=true:=by simp [pD,e]
  simp [pL,List.filter_append,e,e',hd,h0,h1]
theorem pL_under {h x:Hm} {Y:List Hm} (e:klt x.1.key h.1.key=true) (hb:∀ y∈Y,klt y.1.key x.1.key=true):pD h Y=false∧pL h (Y++[x])=pL h Y++[x]∧pD h (Y++[x])=false:=by
 have e':=klt_asymm e
 have hd:pD h Y=false:=by
  cases hd:pD h Y with
  | false=>rfl
  | true =>
   obtain ⟨y,hy,hk⟩:=List.any_eq_true.1 hd
   have:=klt_trans (klt_trans hk (hb y hy)) e
   rw [klt_irr] at this;cases this
 have hd':pD h (Y++[x])=false:=by simp [pD,e'] ;simpa [pD] using hd
 refine ⟨hd,?_,hd'⟩
 simp [pL,List.filter_append,e,hd,hd']
theorem pL_len (h:Hm) (Y:List Hm):(pL h Y).length≤Y.length+Y.length+1:=by
 have h1:=List.length_filter_le (fun x:Hm=>klt x.1.key h.1.key) Y
 have h2:=List.length_filter_le (fun x:Hm=>klt h.1.key x.1.key) Y
 unfold pL
 split <;> simp <;> omega
theorem pE_eq (h:Hm) (X:List Hm):pE h X=(X.filter fun x=>klt x.1.key h.1.key)++h::(X.filter fun x=>klt h.1.key x.1.key):=by
 unfold pE pL
 cases hd:pD h X with
 | true=>simp
 | false =>
  have h0:X.filter (fun x=>klt h.1.key x.1.key)=[]:=by
   rw [List.filter_eq_nil_iff]
   intro y hy hk
   have:pD h X=true:=List.any_eq_true.2 ⟨y,hy,hk⟩
   rw [hd] at this;cases this
  simp [h0]
theorem pE_ins (h:Hm) (X:List Hm):(pE h X).map (·.1)=ins h.1 (X.map (·.1)):=by
 rw [pE_eq]
 simp [ins,List.filter_map,Function.comp_def]
theorem delM_del (k:Ky) (X:List Hm):(delM k X).map (·.1)=del k (X.map (·.1)):=by
 simp [delM,del,List.filter_map,Function.comp_def]
theorem own_lt {w:World} {e:TypeId} {lo s n b:Nat} {v:Value} {cs:List Value} (h:w.ownsRow lo e s v n cs) (hb:Value.ownBlock v=some b):b<w.heap.size:=by
 rcases h.2 with ⟨h6,_⟩ | ⟨b',cap',cur,h6,_,h7,_⟩
 ·rw [h6] at hb;simp [Value.ownBlock] at hb
 ·rw [h6] at hb
  have:b'=b:=by simpa [Value.ownBlock] using hb
  subst this
  exact blk_lt h7
set_option maxRecDepth 100000 in
set_option maxHeartbeats 4000000 in
theorem put_row (TB HB nb hcap:Nat) (ad:Option Addr) (cap:Nat) (X:List Hm) (h:Hm) (w:World) (b:Nat) (hb:b<nb)
  (htb:w.cell? ⟨TB,0,none⟩=some (.slice (some ⟨HB,0,none⟩) nb hcap)) (hhb:w.cell? ⟨HB,b,none⟩=some (.slice ad X.length cap)) (htl:TB<w.heap.size) (hhl:HB<w.heap.size) (hfz:w.frozen? ⟨HB,b,none⟩=false) (hrow:RowAt w ad (hcells X)) (hlen:X.length≤1048576) (hs:SrM X) :
  Calls Tryz.prog 96 #[.pointer (some ⟨TB,0,none⟩),.int .i64 b,.agg (hv h.1 h.2.1 h.2.2)] w fun e w'=>e = .returned (.tuple #[]) ∧ ∃ w1 va vk,Gr w w1∧w1.ownsRow w.heap.size 202 4 (.slice va (pE h X).length vk) (pE h X).length (hcells (pE h X))∧w'=w1.setCell ⟨HB,b,none⟩ (.slice va (pE h X).length vk):=by
 obtain ⟨i0,hi,hz0,hz1,hz2⟩:=info_parts Tryz.infoRHeld
 unfold hv
 have ROW:=Hid.mk' hrow
 have CT:Hid (∀ W,Gr w W→W.cell? ⟨TB,0,none⟩=some (.slice (some ⟨HB,0,none⟩) nb hcap)∧W.cell? ⟨HB,b,none⟩=some (.slice ad X.length cap)):=fun W g=>by
  rw [(bcell g).1 _ _ htl,(bcell g).1 _ _ hhl];exact ⟨htb,hhb⟩
 have FZ:Hid (∀ W,Gr w W→W.frozen? ⟨HB,b,none⟩=false):=fun W g=>by rw [(bcell g).2 _ _ hhl];exact hfz
 clear hrow htb hhb hfz
 go_enter Tryz.func96,Tryz.ntmps96
 go_wp2_with fail
 have G0:=Hid.mk' ((Gr.refl w).alloc (.cells #[.int .i64 h.1.key.1,.int .i64 h.1.key.2,.slice h.2.1 h.1.f.length h.2.2,.int .i64 h.1.fr] 202))
 have P0:=Hid.mk' (heap_alloc_new w (.cells #[.int .i64 h.1.key.1,.int .i64 h.1.key.2,.slice h.2.1 h.1.f.length h.2.2,.int .i64 h.1.fr] 202))
 have HSZ:Hid ((w.alloc (.cells #[.int .i64 h.1.key.1,.int .i64 h.1.key.2,.slice h.2.1 h.1.f.length h.2.2,.int .i64 h.1.fr] 202)).heap.size=w.heap.size+1):=by show _=_;simp
 generalize w.alloc (.cells #[.int .i64 h.1.key.1,.int .i64 h.1.key.2,.slice h.2.1 h.1.f.length h.2.2,.int .i64 h.1.fr] 202)=w1 at *
 go_loopw [6,7,8] (fun v d i wr=>∃ (q:Nat) (va:Option Addr) (vk:Nat),q≤X.length∧v = .slice va (pL h (X.take q)).length vk∧d = .bool (pD h (X.take q))∧i = .int .i64 q∧Hid (Gr w1 wr)∧Hid (wr.ownsRow w1.heap.size 202 4 v (pL h (X.take q)).length (hcells (pL h (X.take q))))) (fun _ _ i _=>X.length - (intOf i).toNat)
 case atStart=>exact ⟨0,none,0,Nat.zero_le _,rfl,rfl,rfl,Gr.refl _,World.ownsRow_nil _ _ _ _⟩
 case round =>
  obtain ⟨q,va,vk,hq,rfl,rfl,rfl,G,O⟩:=hrel
  have P1:=Hid.mk' (blk_gr G.out P0.out)
  have p0:wr.cell? ⟨w.heap.size,0,none⟩=some (.int .i64 h.1.key.1):=by rw [cell_of_row _ _ _ _ _ _ P1.out];rfl
  have p1:wr.cell? ⟨w.heap.size,1,none⟩=some (.int .i64 h.1.key.2):=by rw [cell_of_row _ _ _ _ _ _ P1.out];rfl
  have p2:wr.cell? ⟨w.heap.size,2,none⟩=some (.slice h.2.1 h.1.f.length h.2.2):=by rw [cell_of_row _ _ _ _ _ _ P1.out];rfl
  have p3:wr.cell? ⟨w.heap.size,3,none⟩=some (.int .i64 h.1.fr):=by rw [cell_of_row _ _ _ _ _ _ P1.out];rfl
  have hsl:w.heap.size<wr.heap.size:=blk_lt P1.out
  obtain ⟨t0,t1⟩:=CT.out _ (Gr.call G0.out G.out)
  have HLN:=Hid.mk' (pL_len h (X.take q))
  have HLT:=Hid.mk' (List.length_take_le' q X)
  by_cases hql:q<X.length
  ·have HTK:=Hid.mk' (takeM_snoc X q hql)
   have HBF:=Hid.mk' (hs.before hql)
   obtain ⟨b',off,rfl,hb',c0,c1,c2,c3⟩:=(ROW.out.gr (Gr.call G0.out G.out)).hold hql
   generalize hat X q=x at *
   generalize X.take q=Y at *
   rcases klt_tri x.1.key h.1.key with hk | hk | hk
   ·obtain ⟨u1,u2,u3⟩:=pL_under hk HBF.out
    have HU:=Hid.mk' (And.intro u2 u3)
    have HA:=Hid.mk' (klt_asymm hk)
    rw [u1]
    clear u2 u3 u1
    by_cases e4:x.1.key.1=h.1.key.1
    all_goals
     first
      | (have e3:(x.1.key.2==h.1.key.2)=false:=by
          have:=klt_iff.1 hk;simp;omega
         clear hk e4
         go_wp2_with fail)
      | (have e3:(x.1.key.1==h.1.key.1)=false:=by simp;exact e4
         clear hk e4
         go_wp2_with fail)
    all_goals
     refine (ahead_any h.1.key x.1.key _).mono ?_
     rw [HA.out]
     rintro e w4 ⟨rfl,g4⟩
     have ga:=Gr.call ((Gr.refl wr).alloc (.cells #[.int .i64 x.1.key.1,.int .i64 x.1.key.2,.slice x.2.1 x.1.f.length x.2.2,.int .i64 x.1.fr] 202)) g4
     have G4:=Hid.mk' (Gr.call G.out ga)
     have O4:=Hid.mk' (ownsGr O.out ga)
     have XB:=Hid.mk' (blk_gr g4 (heap_alloc_new wr (.cells #[.int .i64 x.1.key.1,.int .i64 x.1.key.2,.slice x.2.1 x.1.f.length x.2.2,.int .i64 x.1.fr] 202)))
     have g0:w4.cell? ⟨wr.heap.size,0,none⟩=some (.int .i64 x.1.key.1):=by rw [cell_of_row _ _ _ _ _ _ XB.out];rfl
     have g1:w4.cell? ⟨wr.heap.size,1,none⟩=some (.int .i64 x.1.key.2):=by rw [cell_of_row _ _ _ _ _ _ XB.out];rfl
     have g2:w4.cell? ⟨wr.heap.size,2,none⟩=some (.slice x.2.1 x.1.f.length x.2.2):=by rw [cell_of_row _ _ _ _ _ _ XB.out];rfl
     have g3:w4.cell? ⟨wr.heap.size,3,none⟩=some (.int .i64 x.1.fr):=by rw [cell_of_row _ _ _ _ _ _ XB.out];rfl
     clear c0 c1 c2 c3 p0 p1 p2 p3 t0 t1 g4 ga
     go_wp2_with (at_builtin;refine wpList_append_own _ rfl _ _ 199 rfl w1.heap.size 202 i0 _ 4 48 Tryz.underlying199 hi hz0 hz1 hz2 rfl (by decide) _ _ _ rfl (O4.out.alloc _) ⟨w4.heap.size,0,none⟩ 1 1 [.int .i64 x.1.key.1,.int .i64 x.1.key.2,.slice x.2.1 x.1.f.length x.2.2,.int .i64 x.1.fr] rfl rfl (World.news_of_block (new_atK rfl)) ?k2 ?k3 ?k4 ?k5 ?_)
     case k2=>intro t ht;simp at ht;rcases ht with rfl | rfl | rfl | rfl <;> rfl
     case k3=>have:=HLN.out;have:=HLT.out;unfold maxLen;(try simp only [List.length_append,List.length_cons,List.length_nil]);omega
     case k4=>have:=HLN.out;have:=HLT.out;(try simp only [List.length_append,List.length_cons,List.length_nil]);omega
     case k5=>simp;have:=G4.out.size;omega
     intro v5 w5 ho5 hg5 _
     have low5:=own_low O4.out
     have G5:Hid (Gr w1 w5):=Below.grown (G4.out.alloc _) hg5 (Nat.le_trans G4.out.size (by simp)) (fun q hq=>by have:=low5 q hq;omega)
     have O5:Hid (w5.ownsRow w1.heap.size 202 4 v5 (pL h Y++[x]).length (hcells (pL h Y++[x]))):=by
      show World.ownsRow _ _ _ _ _ _ _
      rw [hcells_snoc,List.length_append];exact ho5
     have OF:Hid (w5.ownsRow w1.heap.size 202 4 v5 (pL h (X.take (q+1))).length (hcells (pL h (X.take (q+1))))):=by
      show World.ownsRow _ _ _ _ _ _ _
      rw [HTK.out,HU.out.1];exact O5.out
     obtain ⟨ya,yk,rfl,_⟩:=owns_shape OF.out
     clear ho5 hg5 low5
     go_wp2_with fail
     exact ⟨⟨q+1,ya,yk,hql,rfl,by rw [HTK.out,HU.out.2],by simp,G5,OF⟩,measM_dec _ _ hql⟩
   ·have e5:x.1.key.1=h.1.key.1:=by rw [hk]
    have e6:x.1.key.2=h.1.key.2:=by rw [hk]
    obtain ⟨u2,u3⟩:=pL_same (Y:=Y) hk
    have HU:=Hid.mk' (And.intro u2 u3)
    rw [e5] at c0
    rw [e6] at c1
    clear u2 u3 hk e5 e6
    go_wp2_with fail
    have ga:=(Gr.refl wr).alloc (.cells #[.int .i64 h.1.key.1,.int .i64 h.1.key.2,.slice x.2.1 x.1.f.length x.2.2,.int .i64 x.1.fr] 202)
    exact ⟨⟨q+1,va,vk,hql,by rw [HTK.out,HU.out.1],by rw [HTK.out,HU.out.2],by simp,Gr.call G.out ga,by rw [HTK.out,HU.out.1];exact ownsGr O.out ga⟩,measM_dec _ _ hql⟩
   ·obtain ⟨u2,u3⟩:=pL_over (Y:=Y) hk
    cases hd:pD h Y with
    | true =>
     rw [hd,if_pos rfl] at u2
     have HU:=Hid.mk' (And.intro u2 u3)
     clear u2 u3 hd
     by_cases e4:x.1.key.1=h.1.key.1
     all_goals
      first
       | (have e3:(x.1.key.2==h.1.key.2)=false:=by
           have:=klt_iff.1 hk;simp;omega
          clear hk e4
          skip)
       | (have e3:(x.1.key.1==h.1.key.1)=false:=by simp;exact e4
          clear hk e4
          skip)
     all_goals
      go_wp2_with (at_builtin;refine wpList_append_own _ rfl _ _ 199 rfl w1.heap.size 202 i0 _ 4 48 Tryz.underlying199 hi hz0 hz1 hz2 rfl (by decide) _ _ _ rfl ((O.out.alloc _).alloc _) ⟨wr.heap.size+1,0,none⟩ 1 1 [.int .i64 x.1.key.1,.int .i64 x.1.key.2,.slice x.2.1 x.1.f.length x.2.2,.int .i64 x.1.fr] rfl rfl (World.news_of_block (new_atK (by simp))) ?k2 ?k3 ?k4 ?k5 ?_)
      case k2=>intro t ht;simp at ht;rcases ht with rfl | rfl | rfl | rfl <;> rfl
      case k3=>have:=HLN.out;have:=HLT.out;unfold maxLen;(try simp only [List.length_append,List.length_cons,List.length_nil]);omega
      case k4=>have:=HLN.out;have:=HLT.out;(try simp only [List.length_append,List.length_cons,List.length_nil]);omega
      case k5=>simp;have:=G.out.size;omega
      intro v5 w5 ho5 hg5 _
      have low5:=own_low O.out
      have G5:Hid (Gr w1 w5):=Below.grown ((G.out.alloc _).alloc _) hg5 (Nat.le_trans G.out.size (by simp;omega)) (fun q hq=>by have:=low5 q hq;omega)
      have O5:Hid (w5.ownsRow w1.heap.size 202 4 v5 (pL h Y++[x]).length (hcells (pL h Y++[x]))):=by
       show World.ownsRow _ _ _ _ _ _ _
       rw [hcells_snoc,List.length_append];exact ho5
      have OF:Hid (w5.ownsRow w1.heap.size 202 4 v5 (pL h (X.take (q+1))).length (hcells (pL h (X.take (q+1))))):=by
       show World.ownsRow _ _ _ _ _ _ _
       rw [HTK.out,HU.out.1];exact O5.out
      obtain ⟨ya,yk,rfl,_⟩:=owns_shape OF.out
      clear ho5 hg5 low5
      go_wp2_with fail
      exact ⟨⟨q+1,ya,yk,hql,rfl,by rw [HTK.out,HU.out.2],by simp,G5,OF⟩,measM_dec _ _ hql⟩
    | false =>
     rw [hd,if_neg (by simp)] at u2
     have HU:=Hid.mk' (And.intro u2 u3)
     have HA:=Hid.mk' hk
     clear u2 u3 hd
     by_cases e4:x.1.key.1=h.1.key.1
     all_goals
      first
       | (have e3:(x.1.key.2==h.1.key.2)=false:=by
           have:=klt_iff.1 hk;simp;omega
          clear hk e4
          go_wp2_with fail)
       | (have e3:(x.1.key.1==h.1.key.1)=false:=by simp;exact e4
          clear hk e4
          go_wp2_with fail)
     all_goals
      refine (ahead_any h.1.key x.1.key _).mono ?_
      rw [HA.out]
      rintro e w4 ⟨rfl,g4⟩
      have ga:=Gr.call ((Gr.refl wr).alloc (.cells #[.int .i64 x.1.key.1,.int .i64 x.1.key.2,.slice x.2.1 x.1.f.length x.2.2,.int .i64 x.1.fr] 202)) g4
      have G4:=Hid.mk' (Gr.call G.out ga)
      have O4:=Hid.mk' (ownsGr O.out ga)
      have XB:=Hid.mk' (blk_gr g4 (heap_alloc_new wr (.cells #[.int .i64 x.1.key.1,.int .i64 x.1.key.2,.slice x.2.1 x.1.f.length x.2.2,.int .i64 x.1.fr] 202)))
      have g0:w4.cell? ⟨wr.heap.size,0,none⟩=some (.int .i64 x.1.key.1):=by rw [cell_of_row _ _ _ _ _ _ XB.out];rfl
      have g1:w4.cell? ⟨wr.heap.size,1,none⟩=some (.int .i64 x.1.key.2):=by rw [cell_of_row _ _ _ _ _ _ XB.out];rfl
      have g2:w4.cell? ⟨wr.heap.size,2,none⟩=some (.slice x.2.1 x.1.f.length x.2.2):=by rw [cell_of_row _ _ _ _ _ _ XB.out];rfl
      have g3:w4.cell? ⟨wr.heap.size,3,none⟩=some (.int .i64 x.1.fr):=by rw [cell_of_row _ _ _ _ _ _ XB.out];rfl
      clear c0 c1 c2 c3 p0 p1 p2 p3 t0 t1 g4 ga
      have PH:=Hid.mk' (blk_gr G4.out P0.out)
      have hx4:wr.heap.size<w4.heap.size:=blk_lt XB.out
      have p0:w4.cell? ⟨w.heap.size,0,none⟩=some (.int .i64 h.1.key.1):=by rw [cell_of_row _ _ _ _ _ _ PH.out];rfl
      have p1:w4.cell? ⟨w.heap.size,1,none⟩=some (.int .i64 h.1.key.2):=by rw [cell_of_row _ _ _ _ _ _ PH.out];rfl
      have p2:w4.cell? ⟨w.heap.size,2,none⟩=some (.slice h.2.1 h.1.f.length h.2.2):=by rw [cell_of_row _ _ _ _ _ _ PH.out];rfl
      have p3:w4.cell? ⟨w.heap.size,3,none⟩=some (.int .i64 h.1.fr):=by rw [cell_of_row _ _ _ _ _ _ PH.out];rfl
      go_wp2_with (at_builtin;refine wpList_append_own _ rfl _ _ 199 rfl w1.heap.size 202 i0 _ 4 48 Tryz.underlying199 hi hz0 hz1 hz2 rfl (by decide) _ _ _ rfl (O4.out.alloc _) ⟨w4.heap.size,0,none⟩ 1 1 [.int .i64 h.1.key.1,.int .i64 h.1.key.2,.slice h.2.1 h.1.f.length h.2.2,.int .i64 h.1.fr] rfl rfl (World.news_of_block (new_atK rfl)) ?k2 ?k3 ?k4 ?k5 ?_)
      case k2=>intro t ht;simp at ht;rcases ht with rfl | rfl | rfl | rfl <;> rfl
      case k3=>have:=HLN.out;have:=HLT.out;unfold maxLen;(try simp only [List.length_append,List.length_cons,List.length_nil]);omega
      case k4=>have:=HLN.out;have:=HLT.out;(try simp only [List.length_append,List.length_cons,List.length_nil]);omega
      case k5=>simp;have:=G4.out.size;omega
      intro v5 w5 ho5 hg5 _
      have low5:=own_low O4.out
      have G5:Hid (Gr w1 w5):=Below.grown (G4.out.alloc _) hg5 (Nat.le_trans G4.out.size (by simp)) (fun q hq=>by have:=low5 q hq;omega)
      have O5:Hid (w5.ownsRow w1.heap.size 202 4 v5 (pL h Y++[h]).length (hcells (pL h Y++[h]))):=by
       show World.ownsRow _ _ _ _ _ _ _
       rw [hcells_snoc,List.length_append];exact ho5
      have HX5:Hid (w5.heap[wr.heap.size]? = some (.cells #[.int .i64 x.1.key.1,.int .i64 x.1.key.2,.slice x.2.1 x.1.f.length x.2.2,.int .i64 x.1.fr] 202 (0,0))):=by
       show _=_
       rw [hg5.block _ (by simp;omega) (fun h5=>by have:=own_lt O.out h5.symm;omega),Below.heap_alloc _ _ _ (by omega)]
       exact XB.out
      obtain ⟨ya5,ym5,yk5,rfl⟩:=owns_slice O5.out
      clear ho5 hg5 low5 p0 p1 p2 p3 g0 g1 g2 g3
      have g0:w5.cell? ⟨wr.heap.size,0,none⟩=some (.int .i64 x.1.key.1):=by rw [cell_of_row _ _ _ _ _ _ HX5.out];rfl
      have g1:w5.cell? ⟨wr.heap.size,1,none⟩=some (.int .i64 x.1.key.2):=by rw [cell_of_row _ _ _ _ _ _ HX5.out];rfl
      have g2:w5.cell? ⟨wr.heap.size,2,none⟩=some (.slice x.2.1 x.1.f.length x.2.2):=by rw [cell_of_row _ _ _ _ _ _ HX5.out];rfl
      have g3:w5.cell? ⟨wr.heap.size,3,none⟩=some (.int .i64 x.1.fr):=by rw [cell_of_row _ _ _ _ _ _ HX5.out];rfl
      go_wp2_with (at_builtin;refine wpList_append_own _ rfl _ _ 199 rfl w1.heap.size 202 i0 _ 4 48 Tryz.underlying199 hi hz0 hz1 hz2 rfl (by decide) _ _ _ rfl (O5.out.alloc _) ⟨w5.heap.size,0,none⟩ 1 1 [.int .i64 x.1.key.1,.int .i64 x.1.key.2,.slice x.2.1 x.1.f.length x.2.2,.int .i64 x.1.fr] rfl rfl (World.news_of_block (new_atK rfl)) ?k2 ?k3 ?k4 ?k5 ?_)
      case k2=>intro t ht;simp at ht;rcases ht with rfl | rfl | rfl | rfl <;> rfl
      case k3=>have:=HLN.out;have:=HLT.out;unfold maxLen;(try simp only [List.length_append,List.length_cons,List.length_nil]);omega
      case k4=>have:=HLN.out;have:=HLT.out;(try simp only [List.length_append,List.length_cons,List.length_nil]);omega
      case k5=>simp;have:=G5.out.size;omega
      intro v6 w6 ho6 hg6 _
      have low6:=own_low O5.out
      have G6:Hid (Gr w1 w6):=Below.grown (G5.out.alloc _) hg6 (Nat.le_trans G5.out.size (by simp)) (fun q hq=>by have:=low6 q hq;omega)
      have O6:Hid (w6.ownsRow w1.heap.size 202 4 v6 (pL h Y++[h]++[x]).length (hcells (pL h Y++[h]++[x]))):=by
       show World.ownsRow _ _ _ _ _ _ _
       rw [hcells_snoc,List.length_append,List.length_append];exact ho6
      have OF:Hid (w6.ownsRow w1.heap.size 202 4 v6 (pL h (X.take (q+1))).length (hcells (pL h (X.take (q+1))))):=by
       show World.ownsRow _ _ _ _ _ _ _
       rw [HTK.out,HU.out.1,show pL h Y++[h,x]=pL h Y++[h]++[x] by simp];exact O6.out
      obtain ⟨ya,yk,rfl,_⟩:=owns_shape OF.out
      clear ho6 hg6 low6
      go_wp2_with fail
      exact ⟨⟨q+1,ya,yk,hql,rfl,by rw [HTK.out,HU.out.2],by simp,G6,OF⟩,measM_dec _ _ hql⟩
  ·have hqe:q=X.length:=by omega
   subst hqe
   rw [List.take_length] at O HLN HLT
   rw [List.take_length]
   have G2:=Hid.mk' (Gr.call G0.out G.out)
   cases hd:pD h X with
   | true =>
    have HE:Hid (pE h X=pL h X):=by show _=_;simp [pE,hd]
    have fz:=FZ.out _ G2.out
    clear hd
    go_wp2_with fail
    exact bodyPost_end (v:=.tuple #[]) (by simp [results,Tryz.results96,go_sem]) rfl ⟨rfl,wr,va,vk,G2.out,by rw [HE.out];exact owns_down O.out (by have:=HSZ.out;omega),by rw [HE.out]⟩
   | false =>
    have HE:Hid (pE h X=pL h X++[h]):=by show _=_;simp [pE,hd]
    clear hd
    go_wp2_with (at_builtin;refine wpList_append_own _ rfl _ _ 199 rfl w1.heap.size 202 i0 _ 4 48 Tryz.underlying199 hi hz0 hz1 hz2 rfl (by decide) _ _ _ rfl (O.out.alloc _) ⟨wr.heap.size,0,none⟩ 1 1 [.int .i64 h.1.key.1,.int .i64 h.1.key.2,.slice h.2.1 h.1.f.length h.2.2,.int .i64 h.1.fr] rfl rfl (World.news_of_block (new_atK rfl)) ?k2 ?k3 ?k4 ?k5 ?_)
    case k2=>intro t ht;simp at ht;rcases ht with rfl | rfl | rfl | rfl <;> rfl
    case k3=>have:=HLN.out;have:=HLT.out;unfold maxLen;(try simp only [List.length_append,List.length_cons,List.length_nil]);omega
    case k4=>have:=HLN.out;have:=HLT.out;(try simp only [List.length_append,List.length_cons,List.length_nil]);omega
    case k5=>simp;have:=G.out.size;omega
    intro v5 w5 ho5 hg5 _
    have low5:=own_low O.out
    have G5:Hid (Gr w1 w5):=Below.grown (G.out.alloc _) hg5 (Nat.le_trans G.out.size (by simp)) (fun q hq=>by have:=low5 q hq;omega)
    have O5:Hid (w5.ownsRow w1.heap.size 202 4 v5 (pL h X++[h]).length (hcells (pL h X++[h]))):=by
     show World.ownsRow _ _ _ _ _ _ _
     rw [hcells_snoc,List.length_append];exact ho5
    obtain ⟨t5,t6⟩:=CT.out _ (Gr.call G0.out G5.out)
    have fz:=FZ.out _ (Gr.call G0.out G5.out)
    have GF:=Hid.mk' (Gr.call G0.out G5.out)
    obtain ⟨ya,yk,rfl,_⟩:=owns_shape O5.out
    clear t0 t1 p0 p1 p2 p3 ho5 hg5 low5
    go_wp2_with fail
    exact bodyPost_end (v:=.tuple #[]) (by simp [results,Tryz.results96,go_sem]) rfl ⟨rfl,w5,ya,yk,GF.out,by rw [HE.out];exact owns_down O5.out (by have:=HSZ.out;omega),by rw [HE.out];simp⟩
structure Rcl where
 num:Int
 at':Nat
 box:List (List Atr × Option Addr × Nat)
 bad:Option Addr
 bcap:Nat
 lost:Int
def rcell (c:Rcl):List Value:=[.int .i64 c.num,.int .i64 (c.at':Int),.slice c.bad c.box.length c.bcap,.int .i64 c.lost]
def rcells (l:List Rcl):List Value:=l.flatMap rcell
def kat (l:List Rcl) (j:Nat):Rcl:=l.getD j ⟨0,0,[],none,0,0⟩
theorem kat_mem {l:List Rcl} {j:Nat} (h:j<l.length):kat l j∈l:=by unfold kat;exact getD_mem h _
theorem rcells_at:∀ (L:List Rcl) (j:Nat),j<L.length→(rcells L)[j*4]? = some (.int .i64 (kat L j).num)∧(rcells L)[j*4+1]? = some (.int .i64 ((kat L j).at':Int))∧(rcells L)[j*4+1+1]? = some (.slice (kat L j).bad (kat L j).box.length (kat L j).bcap)∧(rcells L)[j*4+1+1+1]? = some (.int .i64 (kat L j).lost)
 | [],j,h=>by simp at h
 | x::l,0,_=>by simp [rcells,rcell,kat]
 | x::l,j+1,h=>by
  have ih:=rcells_at l j (by simpa using h)
  have e:∀ k,(rcells (x::l))[(j+1)*4+k]? = (rcells l)[j*4+k]? := fun k=>by
   have:(j+1)*4+k=(j*4+k)+4:=by omega
   rw [this];simp [rcells,rcell]
  have e0:=e 0
  have e1:=e 1
  have e2:=e 2
  have e3:=e 3
  simp only [Nat.add_zero] at e0
  have hk:kat (x::l) (j+1)=kat l j:=by simp [kat]
  rw [hk]
  exact ⟨e0.trans ih.1,e1.trans ih.2.1,e2.trans ih.2.2.1,e3.trans ih.2.2.2⟩
theorem rcells_ne {K:List Rcl} {j:Nat} (h:j<K.length):rcells K≠[]:=by
 cases K with
 | nil=>cases h
 | cons a t=>simp [rcells,rcell]
theorem RowAt.clt {w:World} {ad:Option Addr} {K:List Rcl} (h:RowAt w ad (rcells K)) {j:Nat} (hj:j<K.length) :
  ∃ b off,ad=some ⟨b,off,none⟩∧b<w.heap.size∧w.cell? ⟨b,off+j*4,none⟩=some (.int .i64 (kat K j).num)∧w.cell? ⟨b,off+j*4+1,none⟩=some (.int .i64 ((kat K j).at':Int))∧w.cell? ⟨b,off+j*4+1+1,none⟩=some (.slice (kat K j).bad (kat K j).box.length (kat K j).bcap)∧w.cell? ⟨b,off+j*4+1+1+1,none⟩=some (.int .i64 (kat K j).lost):=by
 rcases h with h | ⟨b,off,h1,h2,h3⟩
 ·exact absurd h (rcells_ne hj)
 ·obtain ⟨c0,c1,c2,c3⟩:=rcells_at K j hj
  have d0:=h3 _ _ c0
  have d1:=h3 _ _ c1
  have d2:=h3 _ _ c2
  have d3:=h3 _ _ c3
  simp only [← Nat.add_assoc] at d0 d1 d2 d3
  exact ⟨b,off,h1,h2,d0,d1,d2,d3⟩
set_option maxRecDepth 100000 in
set_option maxHeartbeats 1000000 in
theorem client_row (TB:Nat) (ad:Option Addr) (cap:Nat) (cs:List Rcl) (n:Int) (w:World) (htb:w.cell? ⟨TB,2,none⟩=some (.slice ad cs.length cap)) (hrow:RowAt w ad (rcells cs)) (hl:cs.length≤16) :
  Calls Tryz.prog 93 #[.pointer (some ⟨TB,0,none⟩),.int .i64 n] w fun e w'=>((∃ j,j<cs.length∧(kat cs j).num=n∧e = .returned (.int .i64 (j:Int)))∨((∀ c∈cs,c.num≠n)∧e = .returned (.int .i64 (-1))))∧w'=w:=by
 have ROW:=Hid.mk' hrow
 clear hrow
 go_enter Tryz.func93,Tryz.ntmps93
 go_wp2_with fail
 go_loop [5] (fun i=>∃ q:Nat,q≤cs.length∧i = .int .i64 q∧Hid (∀ j,j<q→(kat cs j).num≠n)) (fun i=>cs.length - (intOf i).toNat)
 case atStart=>exact ⟨0,Nat.zero_le _,rfl,fun j hj=>absurd hj (Nat.not_lt_zero j)⟩
 case round =>
  obtain ⟨q,hq,rfl,HN⟩:=hrel
  by_cases hql:q<cs.length
  ·obtain ⟨b,off,rfl,hb,c0,_⟩:=ROW.out.clt hql
   by_cases hk:(kat cs q).num=n
   ·have HK:=Hid.mk' hk
    rw [hk] at c0
    clear hk
    go_wp2_with fail
    go_ret
    exact ⟨Or.inl ⟨q,hql,HK.out,rfl⟩,rfl⟩
   ·have HK:Hid (∀ j,j<q+1→(kat cs j).num≠n):=fun j hj=>by
     by_cases hjq:j<q
     ·exact HN.out j hjq
     ·obtain rfl:j=q:=by omega
      exact hk
    have hk':((kat cs q).num==n)=false:=by simp [hk]
    clear hk
    generalize kat cs q=x at *
    go_wp2_with fail
    exact ⟨⟨q+1,hql,by simp,HK⟩,measM_dec _ _ hql⟩
  ·have hqe:q=cs.length:=by omega
   subst hqe
   have HA:Hid (∀ c∈cs,c.num≠n):=fun c hc=>by
    obtain ⟨j,hj,rfl⟩:=List.getElem_of_mem hc
    have:=HN.out j hj
    unfold kat at this
    rwa [List.getD_eq_getElem?_getD,List.getElem?_eq_getElem hj] at this
   go_wp2_with fail
   go_ret
   exact ⟨Or.inr ⟨HA.out,rfl⟩,rfl⟩
set_option maxRecDepth 100000 in
set_option maxHeartbeats 4000000 in
theorem has_row (TB HB nb hcap:Nat) (ac:Option Addr) (ccap:Nat) (cs:List Rcl) (c:Nat) (hc:c<cs.length) (ad:Option Addr) (cap:Nat) (X:List Hm) (id:Int) (w:World)
  (htb:w.cell? ⟨TB,0,none⟩=some (.slice (some ⟨HB,0,none⟩) nb hcap)) (htc:w.cell? ⟨TB,2,none⟩=some (.slice ac cs.length ccap)) (htl:TB<w.heap.size) (hrc:RowAt w ac (rcells cs)) (hat':(kat cs c).at'<nb)
  (hhb:w.cell? ⟨HB,(kat cs c).at',none⟩=some (.slice ad X.length cap)) (hrow:RowAt w ad (hcells X)) (hlen:X.length≤1048576) :
  Calls Tryz.prog 95 #[.pointer (some ⟨TB,0,none⟩),.int .i64 c,.int .i64 id] w fun e w'=>e = .returned (.bool (X.any fun x=>x.1.key==((kat cs c).num,id)))∧Gr w w':=by
 obtain ⟨cb,coff,rfl,hcb,k0,k1,_⟩:=hrc.clt hc
 have ROW:=Hid.mk' hrow
 have CT:Hid (∀ W,Gr w W→W.cell? ⟨TB,2,none⟩=some (.slice (some ⟨cb,coff,none⟩) cs.length ccap)∧W.cell? ⟨cb,coff+c*4,none⟩=some (.int .i64 (kat cs c).num)):=fun W g=>by
  rw [(bcell g).1 _ _ htl,(bcell g).1 _ _ hcb];exact ⟨htc,k0⟩
 clear hrow hrc
 generalize (kat cs c).num=yn at *
 generalize kat cs c=y at *
 go_enter Tryz.func95,Tryz.ntmps95
 go_wp2_with fail
 go_quiet (fail)
 have G0:=Hid.mk' ((Gr.refl w).drewN nq)
 clear htb htc k0 k1 hhb
 generalize w.drewN nq=w1 at *
 go_wp2_with fail
 go_loopw [8] (fun i wr=>∃ q:Nat,q≤X.length∧i = .int .i64 q∧Hid (Gr w wr)∧Hid ((X.take q).any (fun x=>x.1.key==(yn,id))=false)) (fun i _=>X.length - (intOf i).toNat)
 case atStart=>exact ⟨0,Nat.zero_le _,rfl,G0,by simp [Hid]⟩
 case round =>
  obtain ⟨q,hq,rfl,G,HN⟩:=hrel
  obtain ⟨t0,t1⟩:=CT.out _ G.out
  by_cases hql:q<X.length
  ·obtain ⟨b,off,rfl,hb,c0,c1,_,_⟩:=(ROW.out.gr G.out).hold hql
   have HS:Hid ((X.take (q+1)).any (fun x=>x.1.key==(yn,id))=((hat X q).1.key==(yn,id))):=by
    show _=_
    rw [any_taken _ X q _ hql,HN.out,Bool.false_or];rfl
   have HT:Hid (((hat X q).1.key==(yn,id))=true→X.any (fun x=>x.1.key==(yn,id))=true):=fun h=>List.any_eq_true.2 ⟨_,hat_mem hql,h⟩
   generalize (hat X q).1.key=z at *
   obtain ⟨z1,z2⟩:=z
   by_cases e1:z1=yn
   ·by_cases e2:z2=id
    ·subst e1 e2
     have HR:=Hid.mk' (HT.out (by simp))
     go_wp2_with fail
     go_quiet (fail)
     have G2:=Hid.mk' (G.out.drewN nq)
     clear c0 c1 t0 t1
     go_wp2_with fail
     go_ret
     exact ⟨ret_bool (by rw [HR.out]),G2.out⟩
    ·have HR:Hid (((z1,z2)==(yn,id))=false):=by show _=_;simp [e2]
     have e3:(z2==id)=false:=by simp [e2]
     go_wp2_with fail
     go_quiet (fail)
     have G2:=Hid.mk' (G.out.drewN nq)
     clear c0 c1 t0 t1
     go_wp2_with fail
     exact ⟨⟨q+1,hql,by simp,G2,HS.out.trans HR.out⟩,measM_dec _ _ hql⟩
   ·have HR:Hid (((z1,z2)==(yn,id))=false):=by show _=_;simp [e1]
    have e3:(z1==yn)=false:=by simp [e1]
    go_wp2_with fail
    go_quiet (fail)
    have G2:=Hid.mk' (G.out.drewN nq)
    clear c0 c1 t0 t1
    go_wp2_with fail
    exact ⟨⟨q+1,hql,by simp,G2,HS.out.trans HR.out⟩,measM_dec _ _ hql⟩
  ·have hqe:q=X.length:=by omega
   subst hqe
   have HR:Hid (X.any (fun x=>x.1.key==(yn,id))=false):=by have:=HN.out;rwa [List.take_length] at this
   go_wp2_with fail
   go_ret
   exact ⟨ret_bool (by rw [HR.out]),G.out⟩
structure Rms where
 ms:Ms (List Wnt) (List Atr)
 ad:Option Addr
 cap:Nat
structure Rln where
 fr:Nat
 to:Nat
 q:List Rms
 qad:Option Addr
 qcap:Nat
 told:List Ky
 tad:Option Addr
 tcap:Nat
def lcellR (c:Rln):List Value:=[.int .i64 (c.fr:Int),.int .i64 (c.to:Int),.slice c.qad c.q.length c.qcap,.slice c.tad c.told.length c.tcap]
def lcellsR (l:List Rln):List Value:=l.flatMap lcellR
def lnat (l:List Rln) (j:Nat):Rln:=l.getD j ⟨0,0,[],none,0,[],none,0⟩
theorem lnat_mem {l:List Rln} {j:Nat} (h:j<l.length):lnat l j∈l:=by unfold lnat;exact getD_mem h _
theorem lcellsR_at:∀ (L:List Rln) (j:Nat),j<L.length→(lcellsR L)[j*4]? = some (.int .i64 ((lnat L j).fr:Int))∧(lcellsR L)[j*4+1]? = some (.int .i64 ((lnat L j).to:Int))∧(lcellsR L)[j*4+1+1]? = some (.slice (lnat L j).qad (lnat L j).q.length (lnat L j).qcap)∧(lcellsR L)[j*4+1+1+1]? = some (.slice (lnat L j).tad (lnat L j).told.length (lnat L j).tcap)
 | [],j,h=>by simp at h
 | x::l,0,_=>by simp [lcellsR,lcellR,lnat]
 | x::l,j+1,h=>by
  have ih:=lcellsR_at l j (by simpa using h)
  have e:∀ k,(lcellsR (x::l))[(j+1)*4+k]? = (lcellsR l)[j*4+k]? := fun k=>by
   have:(j+1)*4+k=(j*4+k)+4:=by omega
   rw [this];simp [lcellsR,lcellR]
  have e0:=e 0
  have e1:=e 1
  have e2:=e 2
  have e3:=e 3
  simp only [Nat.add_zero] at e0
  have hk:lnat (x::l) (j+1)=lnat l j:=by simp [lnat]
  rw [hk]
  exact ⟨e0.trans ih.1,e1.trans ih.2.1,e2.trans ih.2.2.1,e3.trans ih.2.2.2⟩
theorem lcellsR_ne {K:List Rln} {j:Nat} (h:j<K.length):lcellsR K≠[]:=by
 cases K with
 | nil=>cases h
 | cons a t=>simp [lcellsR,lcellR]
theorem RowAt.lnk {w:World} {ad:Option Addr} {K:List Rln} (h:RowAt w ad (lcellsR K)) {j:Nat} (hj:j<K.length) :
  ∃ b off,ad=some ⟨b,off,none⟩∧b<w.heap.size∧w.cell? ⟨b,off+j*4,none⟩=some (.int .i64 ((lnat K j).fr:Int))∧w.cell? ⟨b,off+j*4+1,none⟩=some (.int .i64 ((lnat K j).to:Int))∧w.cell? ⟨b,off+j*4+1+1,none⟩=some (.slice (lnat K j).qad (lnat K j).q.length (lnat K j).qcap)∧w.cell? ⟨b,off+j*4+1+1+1,none⟩=some (.slice (lnat K j).tad (lnat K j).told.length (lnat K j).tcap):=by
 rcases h with h | ⟨b,off,h1,h2,h3⟩
 ·exact absurd h (lcellsR_ne hj)
 ·obtain ⟨c0,c1,c2,c3⟩:=lcellsR_at K j hj
  have d0:=h3 _ _ c0
  have d1:=h3 _ _ c1
  have d2:=h3 _ _ c2
  have d3:=h3 _ _ c3
  simp only [← Nat.add_assoc] at d0 d1 d2 d3
  exact ⟨b,off,h1,h2,d0,d1,d2,d3⟩
theorem heldFrom_out (TB HB nb hcap:Nat) (w:World) (b from_:Int) (htb:w.cell? ⟨TB,0,none⟩=some (.slice (some ⟨HB,0,none⟩) nb hcap)) (hb:b<0∨(nb:Int)≤b) :
  Calls Tryz.prog 105 #[.pointer (some ⟨TB,0,none⟩),.int .i64 b,.int .i64 from_] w fun e w'=>e = .returned (.tuple #[.slice none 0 0,.int .i64 5])∧w'=w:=by
 by_cases h0:b<0
 ·go_enter Tryz.func105,Tryz.ntmps105
  go_wp2_with fail
  exact bodyPost_ret (v:=.tuple #[.slice none 0 0,.int .i64 5]) (by simp [results,Tryz.results105,go_sem]) rfl ⟨rfl,rfl⟩
 ·have h1:(nb:Int)≤b:=by omega
  clear hb
  go_enter Tryz.func105,Tryz.ntmps105
  go_wp2_with fail
  exact bodyPost_ret (v:=.tuple #[.slice none 0 0,.int .i64 5]) (by simp [results,Tryz.results105,go_sem]) rfl ⟨rfl,rfl⟩
end Go.Proofs.YtecnfgikbmcgoaaGreat
