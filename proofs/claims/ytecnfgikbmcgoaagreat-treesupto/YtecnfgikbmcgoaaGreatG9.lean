import Derived.Test.YtecnfgikbmcgoaaGreatG8
import Derived.Test.YtecnfgikbmcgoaaGreatG1
import Derived.Maps.AppendAt
import Derived.Below
namespace Go.Proofs.YtecnfgikbmcgoaaGreat
open Go.RowKit
structure Hs (w:World) (TB HB hoff nb hcap:Nat) (Xs:Nat→List Hm):Prop where
 c0:w.cell? ⟨TB,0,none⟩=some (.slice (some ⟨HB,hoff,none⟩) nb hcap)
 tlt:TB<w.heap.size
 hlt:HB<w.heap.size
 at':∀ b,b<nb → ∃ MB es clock,w.cell? ⟨HB,hoff+b,none⟩=some (.map (some MB))∧Hp w MB (Xs b) es clock
theorem Hs.gr {w w':World} {TB HB hoff nb hcap:Nat} {Xs:Nat→List Hm} (h:Hs w TB HB hoff nb hcap Xs) (g:Gr w w'):Hs w' TB HB hoff nb hcap Xs :=
 ⟨(g.cell (p:=⟨TB,0,none⟩) h.tlt).trans h.c0,g.lt h.tlt,g.lt h.hlt,fun b hb=>by
  obtain ⟨MB,es,clock,h1,h2⟩:=h.at' b hb
  exact ⟨MB,es,clock,(g.cell (p:=⟨HB,hoff+b,none⟩) h.hlt).trans h1,h2.gr g⟩⟩
def ofCl (X:List Hm):Nat:=(X.filter fun x=>x.1.fr == -1).length
theorem ofCl_len {w:World} {MB:Nat} {X:List Hm} {es:Array MapEntry} {clock:Nat} (h:Hp w MB X es clock) {L:List Ky} (hs:L.Pairwise fun x y=>klt x y=true) (hm:∀ k,k∈L ↔ ∃ x∈X,x.1.fr = -1∧x.1.key=k):L.length=ofCl X:=by
 have hnd:((X.filter fun x=>x.1.fr == -1).map fun x=>x.1.key).Pairwise fun x y=>x≠y:=by
  have hd:=h.mp.nod
  rw [List.map_map] at hd
  rw [List.pairwise_map]
  have hd':X.Pairwise fun x y=>x.1.key≠y.1.key:=by
   have:=List.pairwise_map.1 hd
   refine List.Pairwise.imp ?_ this
   intro a b hab e
   exact hab (by show pk a.1.key=pk b.1.key;rw [e])
  exact hd'.filter _
 have h1:=keys_le L ((X.filter fun x=>x.1.fr == -1).map fun x=>x.1.key) (List.Pairwise.imp (fun h=>klt_ne h) hs) (fun k hk=>by
  obtain ⟨x,hx,h1,h2⟩:=(hm k).1 hk
  exact List.mem_map.2 ⟨x,List.mem_filter.2 ⟨hx,by simpa using h1⟩,h2⟩)
 have h2:=keys_le ((X.filter fun x=>x.1.fr == -1).map fun x=>x.1.key) L hnd (fun k hk=>by
  obtain ⟨x,hx,rfl⟩:=List.mem_map.1 hk
  have:=List.mem_filter.1 hx
  exact (hm _).2 ⟨x,this.1,by simpa using this.2,rfl⟩)
 simp only [List.length_map] at h1 h2
 unfold ofCl;omega
set_option maxRecDepth 100000 in
set_option maxHeartbeats 4000000 in
theorem measM_dec (n j:Nat) (h:j<n):n - (intOf (.int .i64 ((j:Int)+1))).toNat<n - (intOf (.int .i64 (j:Int))).toNat:=by
 simp [intOf];omega
theorem filtersOfClients_any (TB HB hoff nb hcap:Nat) (Xs:Nat→List Hm) (w:World) (hnb:nb≤8) (hX:∀ b,(Xs b).length≤1048576) (h:Hs w TB HB hoff nb hcap Xs) :
  Calls Tryz.prog 47 #[.pointer (some ⟨TB,0,none⟩)] w fun e w'=>e = .returned (.int .i64 (sm nb fun b=>ofCl (Xs b)))∧Gr w w':=by
 have HH:=Hid.mk' h
 have HX:=Hid.mk' hX
 have c0:=h.c0
 clear h hX
 go_enter Tryz.func47,Tryz.ntmps47
 go_wp2_with fail
 go_loopw [3,10] (fun n i wr=>∃ q:Nat,q≤nb∧i = .int .i64 q∧n = .int .i64 ((sm q fun b=>ofCl (Xs b):Nat):Int)∧Hid (Gr w wr)) (fun _ i _=>nb - (intOf i).toNat)
 case atStart=>exact ⟨0,Nat.zero_le _,rfl,rfl,Gr.refl _⟩
 case round =>
  obtain ⟨q,hq,rfl,rfl,G⟩:=hrel
  clear c0
  by_cases hlt:q<nb
  ·have H2:=HH.out.gr G.out
   obtain ⟨MB,es,clock,cb,hp⟩:=H2.at' q hlt
   have KF:=Hid.mk' (keysFrom_any TB HB hoff nb hcap q MB (-1) (Xs q) es clock wr H2.c0 cb hlt (HX.out q) hp)
   have HP:=Hid.mk' hp
   have hsum:(sm q fun b=>ofCl (Xs b))≤q*1048576:=by
    rw [← sm_const 1048576 q]
    exact sm_le q (fun i _=>Nat.le_trans (List.length_filter_le _ _) (HX.out i))
   have hone:ofCl (Xs q)≤1048576:=Nat.le_trans (List.length_filter_le _ _) (HX.out q)
   have hnext:(sm (q+1) fun b=>ofCl (Xs b))=(sm q fun b=>ofCl (Xs b))+ofCl (Xs q):=rfl
   have HN:=Hid.mk' hnext
   clear H2 cb hp hnext
   generalize (sm q fun b=>ofCl (Xs b))=t at *
   go_wp2_with fail
   refine KF.out.mono ?_
   rintro e w1 ⟨v,L,rfl,ho,hs,hm,g1⟩
   have hl:=ofCl_len HP.out hs hm
   obtain ⟨va,vk,rfl,_⟩:=owns_shape ho
   have G1:=Hid.mk' (Gr.call G.out g1)
   rw [hl]
   clear ho hs hm g1 KF hl
   generalize ofCl (Xs q)=c at *
   have hw:wrap64 ((t:Int)+(c:Int))=((t+c:Nat):Int):=by unfold wrap64;omega
   go_wp2_with fail
   refine ⟨⟨q+1,by omega,by simp,?_,G1⟩,measM_dec _ _ hlt⟩
   rw [HN.out];simp
  ·have hqn:q=nb:=by omega
   subst hqn
   go_wp2_with fail
   go_ret
   exact ⟨rfl,G.out⟩
def Qr (w:World) (e:TypeId) (size:Nat) (R:Nat→Prop) (v:Value) (n:Nat) (xs:List Value):Prop :=
 xs.length=n*size∧((v = .slice none 0 0∧n=0) ∨ ∃ g off cap cur,v = .slice (some ⟨g,off,none⟩) n cap∧R g∧w.heap[g]? = some (.cells cur e (0,0))∧n≤cap∧cap≤maxLen∧off+cap*size≤cur.size∧(cur.toList.drop off).take (n*size)=xs)
theorem Qr.kept {w w':World} {e:TypeId} {size:Nat} {R R':Nat→Prop} {v:Value} {n:Nat} {xs:List Value} (h:Qr w e size R v n xs) (hk:∀ g,g<w.heap.size→R g→w'.heap[g]? = w.heap[g]? ∧ R' g):Qr w' e size R' v n xs:=by
 refine ⟨h.1,?_⟩
 rcases h.2 with h2 | ⟨g,off,cap,cur,hv,hR,hg,h3⟩
 ·exact Or.inl h2
 ·obtain ⟨k1,k2⟩:=hk g (Array.getElem?_eq_some_iff.1 hg).1 hR
  exact Or.inr ⟨g,off,cap,cur,hv,k2,k1.trans hg,h3⟩
theorem Qr.nil (w:World) (e:TypeId) (size:Nat) (R:Nat→Prop):Qr w e size R (.slice none 0 0) 0 []:=⟨by simp,Or.inl ⟨rfl,rfl⟩⟩
theorem Qr.shape {w:World} {e:TypeId} {size:Nat} {R:Nat→Prop} {v:Value} {n:Nat} {xs:List Value} (h:Qr w e size R v n xs):∃ a c,v = .slice a n c:=by
 rcases h.2 with ⟨h2,h3⟩ | ⟨g,off,cap,cur,hv,_⟩
 ·exact ⟨none,0,by rw [h2,h3]⟩
 ·exact ⟨_,_,hv⟩
theorem Qr.own {w:World} {e:TypeId} {size:Nat} {R:Nat→Prop} {v:Value} {n:Nat} {xs:List Value} (h:Qr w e size R v n xs):∀ k,v.ownBlock=some k→R k∧k<w.heap.size:=by
 intro k hk
 rcases h.2 with ⟨rfl,_⟩ | ⟨g,off,cap,cur,rfl,hR,hg,_⟩
 ·simp [Value.ownBlock] at hk
 ·simp [Value.ownBlock] at hk
  subst hk
  exact ⟨hR,(Array.getElem?_eq_some_iff.1 hg).1⟩
section
variable {P:Program} (w:World)
theorem add_off (g o j:Nat):(⟨g,o,none⟩:Addr).add j=⟨g,o+j,none⟩:=by unfold Addr.add;split <;> simp_all
theorem run_append_room_q (t ty e:TypeId) (i:TypeInfo) (ht:P.underlying t=some (.slice e)) (hi:P.info? e=some i)
  (g off sLen sCap:Nat) (cur:Array Value) (hg:w.heap[g]? = some (.cells cur e (0,0)))
  (a:Addr) (m c:Nat) (news:List Value) (hl:news.length=m*i.size) (hnews:∀ j u,news[j]? = some u→w.cell? (a.add j)=some u) (h1:∀ u∈news,u.oneCell'=true)
  (hroom:sLen+m≤sCap) (hfit:off+sLen*i.size+news.length≤cur.size) :
  (Builtin.append_ #[t,t] ty #[.slice (some ⟨g,off,none⟩) sLen sCap,.slice (some a) m c]).run P w =
   .ok (.slice (some ⟨g,off,none⟩) (sLen+m) sCap) (w.setRow g (cur.toList.take (off+sLen*i.size)++news++cur.toList.drop (off+sLen*i.size+news.length)).toArray):=by
 have hf:=run_firstCells_some (P:=P) w i.size m a m c news hl hnews
 have hst:=run_storeCells_at P g (off+sLen*i.size) e news 0 cur w hg (by simpa using hfit) h1
 simp only [Nat.add_zero] at hst
 simp [Builtin.append_,run_underlying ht,sizeOf,typeInfo,hi,Builtin.lenOf,hroom,hf,add_off,hst]
theorem run_append_q (t ty e:TypeId) (i:TypeInfo) (z:Value) (size bytes:Nat) (ht:P.underlying t=some (.slice e)) (hi:P.info? e=some i) (hz:i.zero=some z)
  (hsize:i.size=size) (hby:i.bytes=bytes) (hzs:z.cells.size=size) (R:Nat→Prop)
  (v:Value) (n:Nat) (xs:List Value) (hown:Qr w e size R v n xs)
  (a:Addr) (m c:Nat) (news:List Value) (hm:0<m) (hl:news.length=m*size) (hnews:∀ j u,news[j]? = some u→w.cell? (a.add j)=some u) (h1:∀ u∈news,u.oneCell'=true)
  (h63:n+m≤maxLen) (hbytes:(n+m)*bytes≤140737488355328) :
  ∃ v' w',(Builtin.append_ #[t,t] ty #[v,.slice (some a) m c]).run P w = .ok v' w'∧Qr w' e size (fun k=>v'.ownBlock=some k) v' (n+m) (xs++news)∧w.grownBy w' v.ownBlock ∧
   (v'.ownBlock=v.ownBlock∨v'.ownBlock=some w.heap.size)∧Qr w' e size R v n xs:=by
 subst hsize
 subst hby
 have hsmall:n+m≤9223372036854775807:=by simp only [maxLen] at h63;omega
 have hlen:(xs++news).length=(n+m)*i.size:=by rw [List.length_append,hown.1,hl,Nat.add_mul]
 have grown:∀ (old:Nat),old<n+m → ∀ (row:Option Nat),
   Qr (w.drew.alloc (.cells (xs.toArray++news.toArray++Builtin.zeroCells z.cells (grownCap w (n+m) old e - (n+m))) e)) e i.size (fun k=>Value.ownBlock (.slice (some ⟨w.heap.size,0,none⟩) (n+m) (grownCap w (n+m) old e))=some k)
    (.slice (some ⟨w.heap.size,0,none⟩) (n+m) (grownCap w (n+m) old e)) (n+m) (xs++news) ∧
   w.grownBy (w.drew.alloc (.cells (xs.toArray++news.toArray++Builtin.zeroCells z.cells (grownCap w (n+m) old e - (n+m))) e)) row:=by
  intro old ho row
  have hge:=grownCap_ge w (n+m) old e
  have hcm:grownCap w (n+m) old e≤maxLen:=grownCap_le_maxLen w (n+m) old e h63
  refine ⟨⟨hlen,.inr ⟨w.heap.size,0,_,_,rfl,rfl,heap_alloc_new w.drew _,hge,hcm,?_,?_⟩⟩,⟨rfl,rfl,rfl,by simp,fun k hk _=>Below.heap_alloc w.drew _ k hk⟩⟩
  ·simp only [Array.size_append,List.size_toArray,size_zeroCells,hzs,hown.1,hl, ← Nat.add_mul,Nat.zero_add]
   exact Nat.mul_le_mul_right _ (by omega)
  ·simp only [Array.toList_append,List.append_assoc,List.drop_zero]
   rw [← List.append_assoc, ← hlen]
   exact List.take_left
 rcases hown.2 with ⟨rfl,rfl⟩ | ⟨g,off,cap,cur,rfl,hR,hg,hnc,hcm,hcs,htake⟩
 ·have hx:xs=[]:=List.eq_nil_of_length_eq_zero (by simpa using hown.1)
  subst hx
  have hr:=run_append_nil (P:=P) w t ty e i z ht hi hz a m c news hl hnews (by omega) (by omega) (by have hb:=hbytes;simp only [Nat.zero_add] at hb;omega)
  have hgr:=grown 0 (by omega) (Value.ownBlock (.slice none 0 0))
  simp only [Nat.zero_add,List.nil_append,Array.empty_append] at hgr ⊢
  exact ⟨_,_,hr,hgr.1,hgr.2,Or.inr rfl,Qr.nil _ _ _ _⟩
 ·have hx1:xs.length=n*i.size:=hown.1
  have hle:n*i.size≤cap*i.size:=Nat.mul_le_mul_right _ hnc
  by_cases hroom:n+m≤cap
  ·have hfit:off+n*i.size+news.length≤cur.size:=by
    have:=Nat.mul_le_mul_right i.size hroom
    rw [Nat.add_mul] at this;omega
   have hr:=run_append_room_q (P:=P) w t ty e i ht hi g off n cap cur hg a m c news hl hnews h1 hroom hfit
   refine ⟨_,_,hr,⟨hlen,.inr ⟨g,off,cap,_,rfl,rfl,setRow_heap w g cur _ e _ hg,hroom,hcm,?_,?_⟩⟩,⟨rfl,rfl,rfl,by simp,fun k _ hk=>setRow_other w g k _ (fun e=>hk (by simp [Value.ownBlock,e]))⟩,Or.inl rfl,⟨hown.1,Or.inr ⟨g,off,cap,_,rfl,hR,setRow_heap w g cur _ e _ hg,hnc,hcm,?_,?_⟩⟩⟩
   ·simp only [List.size_toArray,List.length_append,List.length_take,List.length_drop,Array.length_toList]
    omega
   ·have hd:(cur.toList.take (off+n*i.size)++news++cur.toList.drop (off+n*i.size+news.length)).drop off=xs++news++cur.toList.drop (off+n*i.size+news.length):=by
     rw [List.append_assoc,List.drop_append_of_le_length (by simp;omega),List.drop_take,show off+n*i.size - off=n*i.size by omega,htake,List.append_assoc]
    rw [hd, ← hlen]
    exact List.take_left
   ·simp only [List.size_toArray,List.length_append,List.length_take,List.length_drop,Array.length_toList]
    omega
   ·have hd:(cur.toList.take (off+n*i.size)++news++cur.toList.drop (off+n*i.size+news.length)).drop off=xs++news++cur.toList.drop (off+n*i.size+news.length):=by
     rw [List.append_assoc,List.drop_append_of_le_length (by simp;omega),List.drop_take,show off+n*i.size - off=n*i.size by omega,htake,List.append_assoc]
    rw [hd,List.append_assoc, ← hx1]
    exact List.take_left
  ·have holds:∀ j u,xs[j]? = some u→w.cell? ((⟨g,off,none⟩:Addr).add j)=some u:=by
    intro j u hu
    rw [add_off,cell_of_row w g (off+j) cur e (0,0) hg]
    rw [← htake,List.getElem?_take] at hu
    split at hu
    ·rw [List.getElem?_drop] at hu;simpa using hu
    ·cases hu
   have hr:=run_append_grow (P:=P) w t ty e i z ht hi hz ⟨g,off,none⟩ n cap xs hown.1 holds a m c news hl hnews (by omega) (by omega) (growslice_fits (by omega) hbytes)
   have hgr:=grown cap (by omega) (Value.ownBlock (.slice (some ⟨g,off,none⟩) n cap))
   refine ⟨_,_,hr,hgr.1,hgr.2,Or.inr rfl,hown.kept fun k hk hRk=>⟨Below.heap_alloc w.drew _ k hk,hRk⟩⟩
end
theorem wp_append_q {P:Program} (w:World) {o:Oper} {a:Act} {K:Act→World→Prop} {Q:Exit→Act→World→Prop} (s x:Operand) (t:TypeId)
  (ho:o.op = .call { callee:=.builtin .append,args:=#[s,x],argTypes:=#[t,t] })
  (e:TypeId) (i:TypeInfo) (z:Value) (size bytes:Nat) (ht:P.underlying t=some (.slice e)) (hi:P.info? e=some i) (hz:i.zero=some z)
  (hsize:i.size=size) (hby:i.bytes=bytes) (hzs:z.cells.size=size) (R:Nat→Prop)
  (v:Value) (n:Nat) (xs:List Value) (hs:a.eval s=v) (hown:Qr w e size R v n xs)
  (ad:Addr) (m c:Nat) (news:List Value) (hx:a.eval x = .slice (some ad) m c) (hm:0<m) (hl:news.length=m*size) (hnews:∀ j u,news[j]? = some u→w.cell? (ad.add j)=some u) (h1:∀ u∈news,u.oneCell'=true)
  (h63:n+m≤maxLen) (hbytes:(n+m)*bytes≤140737488355328)
  (h:∀ v' w',Qr w' e size (fun k=>v'.ownBlock=some k) v' (n+m) (xs++news)→w.grownBy w' v.ownBlock→(v'.ownBlock=v.ownBlock∨v'.ownBlock=some w.heap.size)→Qr w' e size R v n xs→K (a.put o.dst v') w'):o.wp P a w K Q:=by
 obtain ⟨v',w',hr,h2,h3,h4,h5⟩:=run_append_q (P:=P) w t o.type e i z size bytes ht hi hz hsize hby hzs R v n xs hown ad m c news hm hl hnews h1 h63 hbytes
 unfold Oper.wp execOp
 simp only [ho,resolve,invoke,builtin,Sem.run_bind,Sem.run_pure,Result.andThen_ok,List.map_toArray,List.map_cons,List.map_nil,hs,hx,hr]
 exact h v' w' h2 h3 h4 h5
theorem Qr.pop {w':World} {e:TypeId} {size:Nat} {R:Nat→Prop} {g off cap n:Nat} {cur cur':Array Value} {xs:List Value} (hx:xs.length=n*size) (hn:0<n) (hR:R g) (hnc:n≤cap) (hcm:cap≤maxLen) (hcs:off+cap*size≤cur.size) (htake:(cur.toList.drop off).take (n*size)=xs)
  (hg:w'.heap[g]? = some (.cells cur' e (0,0))) (hsz:cur'.size=cur.size) (hdr:cur'.toList.drop (off+size)=cur.toList.drop (off+size)) :
  Qr w' e size R (.slice (if cap=1 then some ⟨g,off,none⟩ else some ⟨g,off+size,none⟩) (n - 1) (cap - 1)) (n - 1) (xs.drop size):=by
 have hsub:n*size - size=(n - 1)*size:=by rw [Nat.sub_mul,Nat.one_mul]
 refine ⟨by rw [List.length_drop,hx,hsub],Or.inr ?_⟩
 by_cases hc:cap=1
 ·have hn1:n=1:=by omega
  subst hc;subst hn1
  refine ⟨g,off,0,cur',rfl,hR,hg,Nat.le_refl _,by unfold maxLen;omega,by omega,?_⟩
  rw [List.drop_eq_nil_of_le (by omega:xs.length≤size)];simp
 ·have hcap:(cap - 1)*size=cap*size - size:=by rw [Nat.sub_mul,Nat.one_mul]
  have hge:size≤cap*size:=by have:=Nat.mul_le_mul_right size (show 1≤cap by omega);omega
  refine ⟨g,off+size,cap - 1,cur',by rw [if_neg hc],hR,hg,by omega,by omega,by rw [hcap,hsz];omega,?_⟩
  rw [hdr, ← htake, ← hsub,List.drop_take,List.drop_drop]
end Go.Proofs.YtecnfgikbmcgoaaGreat
namespace Go.Proofs.YtecnfgikbmcgoaaGreat
open Go.RowKit
open Go.Maps (Keyed)
open Go.ChangeMaps (setBlock)
inductive Rl where
 | no
 | fx
 | hm (b:Nat)
 | cm
 | lm
 | qu (a b:Nat)
 | cl (c:Int)
 | ch (c:Int)
structure Tc where
 nb:Nat
 adj:Nat→Nat→Bool
 TB:Nat
 HB:Nat
 hcap:Nat
 MB:Nat→Nat
 CB:Nat
 LB:Nat
 ml:Int
structure Fr (role role':Nat→Rl) (w w':World):Prop where
 os:w'.os=w.os
 tape:w'.tape=w.tape
 output:w'.output=w.output
 size:w.heap.size≤w'.heap.size
 keep:∀ k,k<w.heap.size→(role k = .no∨role k = .fx)→w'.heap[k]? = w.heap[k]?
 same:∀ k,k<w.heap.size→role' k=role k
theorem Fr.refl (role:Nat→Rl) (w:World):Fr role role w w:=⟨rfl,rfl,rfl,Nat.le_refl _,fun _ _ _=>rfl,fun _ _=>rfl⟩
theorem Fr.trans {r r1 r2:Nat→Rl} {w w1 w2:World} (h:Fr r r1 w w1) (k:Fr r1 r2 w1 w2):Fr r r2 w w2 :=
 ⟨k.os.trans h.os,k.tape.trans h.tape,k.output.trans h.output,Nat.le_trans h.size k.size,fun i hi hr=>(k.keep i (Nat.lt_of_lt_of_le hi h.size) (by rw [h.same i hi];exact hr)).trans (h.keep i hi hr),fun i hi=>(k.same i (Nat.lt_of_lt_of_le hi h.size)).trans (h.same i hi)⟩
theorem Fr.gr {r:Nat→Rl} {w w':World} (g:Gr w w'):Fr r r w w':=⟨g.os,g.tape,g.output,g.size,fun k hk _=>g.block k hk,fun _ _=>rfl⟩
theorem cell_blk {w w':World} {b:Nat} (h:w'.heap[b]? = w.heap[b]?) (o:Nat):w'.cell? ⟨b,o,none⟩=w.cell? ⟨b,o,none⟩:=World.cell?_of_block (a:=⟨b,o,none⟩) h
theorem WantsAt.blk {w w':World} {b off:Nat} {l:List Wnt} (h:WantsAt w b off l) (hb:w'.heap[b]? = w.heap[b]?):WantsAt w' b off l:=fun i hi=>by
 obtain ⟨h1,h2,h3,h4,h5⟩:=h i hi
 simp only [cell_blk hb]
 exact ⟨h1,h2,h3,h4,h5⟩
theorem AttrsAt.blk {w w':World} {b off:Nat} {l:List Atr} (h:AttrsAt w b off l) (hb:w'.heap[b]? = w.heap[b]?):AttrsAt w' b off l:=fun i hi=>by
 obtain ⟨h1,h2,h3,h4⟩:=h i hi
 simp only [cell_blk hb]
 exact ⟨h1,h2,h3,h4⟩
structure FiR (role:Nat→Rl) (w:World) (ad:Option Addr) (l:List Wnt):Prop where
 m:FiM w ad l
 r:∃ b off,ad=some ⟨b,off,none⟩∧role b = .fx
theorem FiR.keep {r r':Nat→Rl} {w w':World} {ad:Option Addr} {l:List Wnt} (h:FiR r w ad l) (hs:w.heap.size≤w'.heap.size) (hk:∀ k,k<w.heap.size→r k = .fx→w'.heap[k]? = w.heap[k]?) (hr:∀ k,k<w.heap.size→r' k=r k):FiR r' w' ad l:=by
 obtain ⟨⟨⟨b,off,h1,h2,h3⟩,hwf,hok⟩,b',off',h4,h5⟩:=h
 have e:=h1.symm.trans h4
 injection e with e
 injection e with e1 e2
 subst e1
 refine ⟨⟨⟨b,off,h1,Nat.lt_of_lt_of_le h2 hs,h3.blk (hk b h2 h5)⟩,hwf,hok⟩,b,off,h1,(hr b h2).trans h5⟩
structure EvM (w:World) (ad:Option Addr) (l:List Atr):Prop where
 at':∃ b off,ad=some ⟨b,off,none⟩∧b<w.heap.size∧AttrsAt w b off l
 wf:∀ x∈l,Atr.Wf x
 ok:evOk l=true
theorem EvM.gr {w w':World} {ad:Option Addr} {l:List Atr} (h:EvM w ad l) (g:Gr w w'):EvM w' ad l:=by
 obtain ⟨b,off,h1,h2,h3⟩:=h.at'
 exact ⟨⟨b,off,h1,g.lt h2,h3.gr g h2⟩,h.wf,h.ok⟩
structure EvR (role:Nat→Rl) (w:World) (ad:Option Addr) (l:List Atr):Prop where
 m:EvM w ad l
 r:∃ b off,ad=some ⟨b,off,none⟩∧role b = .fx
theorem EvR.keep {r r':Nat→Rl} {w w':World} {ad:Option Addr} {l:List Atr} (h:EvR r w ad l) (hs:w.heap.size≤w'.heap.size) (hk:∀ k,k<w.heap.size→r k = .fx→w'.heap[k]? = w.heap[k]?) (hr:∀ k,k<w.heap.size→r' k=r k):EvR r' w' ad l:=by
 obtain ⟨⟨⟨b,off,h1,h2,h3⟩,hwf,hok⟩,b',off',h4,h5⟩:=h
 have e:=h1.symm.trans h4
 injection e with e
 injection e with e1 e2
 subst e1
 refine ⟨⟨⟨b,off,h1,Nat.lt_of_lt_of_le h2 hs,h3.blk (hk b h2 h5)⟩,hwf,hok⟩,b,off,h1,(hr b h2).trans h5⟩
structure Mm where
 ms:Ms (List Wnt) (List Atr)
 ad:Option Addr
 cap:Nat
def mcells (x:Mm):List Value :=
 match x.ms with
 | .sub k f=>[.slice none 0 0,.int .i64 k.1,.int .i64 k.2,.slice x.ad f.length x.cap]
 | .uns k=>[.slice none 0 0,.int .i64 k.1,.int .i64 k.2,.slice none 0 0]
 | .ev e=>[.slice x.ad e.length x.cap,.int .i64 0,.int .i64 0,.slice none 0 0]
theorem mcells_len (x:Mm):(mcells x).length=4:=by
 unfold mcells;split <;> rfl
theorem flat_mm:∀ l:List Mm,(l.flatMap mcells).length=l.length*4
 | []=>rfl
 | x::l=>by rw [List.flatMap_cons,List.length_append,flat_mm l,mcells_len,List.length_cons];omega
def MmOk (role:Nat→Rl) (w:World) (x:Mm):Prop :=
 match x.ms with
 | .sub k f=>(I64 k.1∧I64 k.2)∧FiR role w x.ad f
 | .uns k=>I64 k.1∧I64 k.2
 | .ev e=>EvR role w x.ad e
theorem MmOk.keep {r r':Nat→Rl} {w w':World} {x:Mm} (h:MmOk r w x) (hs:w.heap.size≤w'.heap.size) (hk:∀ k,k<w.heap.size→r k = .fx→w'.heap[k]? = w.heap[k]?) (hr:∀ k,k<w.heap.size→r' k=r k):MmOk r' w' x:=by
 unfold MmOk at h ⊢
 split
 ·rename_i k f e;rw [e] at h;exact ⟨h.1,h.2.keep hs hk hr⟩
 ·rename_i k e;rw [e] at h;exact h
 ·rename_i v e;rw [e] at h;exact EvR.keep h hs hk hr
structure Tb (T:Tc) (role:Nat→Rl) (w:World):Prop where
 nb8:T.nb≤8
 pos:0<T.nb
 adj:∀ a b,T.adj a b=true→a<T.nb∧b<T.nb
 c0:w.cell? ⟨T.TB,0,none⟩=some (.slice (some ⟨T.HB,0,none⟩) T.nb T.hcap)
 c1:w.cell? ⟨T.TB,1,none⟩=some (.map (some T.CB))
 c2:w.cell? ⟨T.TB,2,none⟩=some (.map (some T.LB))
 rT:role T.TB = .fx
 rH:role T.HB = .fx
 hb:∀ b,b<T.nb→w.cell? ⟨T.HB,b,none⟩=some (.map (some (T.MB b)))
 top:∀ k,w.heap.size≤k→role k = .no
 r0:role 0 = .no
 ml:Ml T.ml w
structure Th (T:Tc) (role:Nat→Rl) (w:World) (Xs:Nat→List Hm):Prop where
 at':∀ b,b<T.nb→role (T.MB b) = .hm b ∧ ∃ es clock,Mp Tryz.prog 112 w (T.MB b) ((Xs b).map mv) es clock
 fi:∀ b,b<T.nb → ∀ x∈Xs b,FiR role w x.2.1 x.1.f∧I64 x.1.key.1∧I64 x.1.key.2
structure Tl (T:Tc) (role:Nat→Rl) (w:World) (qs:Nat→Nat→List Mm):Prop where
 lm:role T.LB = .lm
 mp:∃ m es clock,Mp Tryz.prog 81 w T.LB m es clock∧(∀ k v,(k,v)∈m → ∃ a b:Nat,k=pk ((a:Int),(b:Int))∧T.adj a b=true∧Qr w 172 4 (fun k=>role k = .qu a b) v (qs a b).length ((qs a b).flatMap mcells))∧(∀ a b:Nat,T.adj a b=true → ∃ v,(pk ((a:Int),(b:Int)),v)∈m)
 ms:∀ a b,∀ x∈qs a b,MmOk role w x
 nq:∀ a b,T.adj a b=false→qs a b=[]
structure Cl where
 num:Int
 at':Nat
 blk:Nat
 chn:Nat
 lost:Int
 box:List (List Atr × Option Addr × Nat)
def cv (c:Cl):Value × Value:=(.int .i64 c.num,.pointer (some ⟨c.blk,0,none⟩))
def bv (x:List Atr × Option Addr × Nat):Value:=.slice x.2.1 x.1.length x.2.2
structure Tk (T:Tc) (role:Nat→Rl) (w:World) (cls:List Cl):Prop where
 cm:role T.CB = .cm
 mp:∃ es clock,Mp Tryz.prog 3 w T.CB (cls.map cv) es clock
 num:∀ c∈cls,I64 c.num∧c.at'<T.nb
 blk:∀ c∈cls,role c.blk = .cl c.num∧w.heap[c.blk]? = some (.cells #[.int .i64 c.at',.chan (some c.chn),.int .i64 c.lost] 126 (0,0))
 chn:∀ c∈cls,role c.chn = .ch c.num ∧ ∃ s r tm,w.heap[c.chn]? = some (.chan 16 (c.box.map bv).toArray false s r tm)
 box:∀ c∈cls,∀ x∈c.box,EvR role w x.2.1 x.1
structure Tm (T:Tc) (role:Nat→Rl) (w:World) (Xs:Nat→List Hm) (qs:Nat→Nat→List Mm) (cls:List Cl):Prop where
 b:Tb T role w
 h:Th T role w Xs
 l:Tl T role w qs
 k:Tk T role w cls
theorem Tb.lt {T:Tc} {role:Nat→Rl} {w:World} (h:Tb T role w) {k:Nat} (hk:role k ≠ .no):k<w.heap.size:=by
 rcases Nat.lt_or_ge k w.heap.size with h1 | h1
 ·exact h1
 ·exact absurd (h.top k h1) hk
theorem Tb.keep {T:Tc} {r r':Nat→Rl} {w w':World} (h:Tb T r w) (hs:w.heap.size≤w'.heap.size) (hk:∀ k,k<w.heap.size→(r k = .no∨r k = .fx)→w'.heap[k]? = w.heap[k]?) (hr:∀ k,k<w.heap.size→r' k=r k) (ht:∀ k,w'.heap.size≤k→r' k = .no):Tb T r' w':=by
 have lT:=h.lt (k:=T.TB) (by rw [h.rT];exact fun e=>by cases e)
 have lH:=h.lt (k:=T.HB) (by rw [h.rH];exact fun e=>by cases e)
 have eT:=hk _ lT (Or.inr h.rT)
 have eH:=hk _ lH (Or.inr h.rH)
 refine ⟨h.nb8,h.pos,h.adj,by rw [cell_blk eT];exact h.c0,by rw [cell_blk eT];exact h.c1,by rw [cell_blk eT];exact h.c2,(hr _ lT).trans h.rT,(hr _ lH).trans h.rH,fun b hb=>by rw [cell_blk eH];exact h.hb b hb,ht,(hr 0 h.ml.pos).trans h.r0,?_⟩
 exact ⟨by rw [cell_blk (hk 0 h.ml.pos (Or.inl h.r0))];exact h.ml.cell,Nat.lt_of_lt_of_le h.ml.pos hs⟩
theorem Th.keep {T:Tc} {r r':Nat→Rl} {w w':World} {Xs:Nat→List Hm} (h:Th T r w Xs) (hs:w.heap.size≤w'.heap.size) (hk:∀ k,k<w.heap.size→(r k = .fx ∨ ∃ b,r k = .hm b)→w'.heap[k]? = w.heap[k]?) (hr:∀ k,k<w.heap.size→r' k=r k):Th T r' w' Xs:=by
 refine ⟨fun b hbn=>?_,fun b hbn x hx=>?_⟩
 ·obtain ⟨h1,es,clock,h2⟩:=h.at' b hbn
  exact ⟨(hr _ h2.lt).trans h1,es,clock,h2.kept (hk _ h2.lt (Or.inr ⟨b,h1⟩))⟩
 ·obtain ⟨h1,h2⟩:=h.fi b hbn x hx
  exact ⟨h1.keep hs (fun k hk' hf=>hk k hk' (Or.inl hf)) hr,h2⟩
theorem Tl.keep {T:Tc} {r r':Nat→Rl} {w w':World} {qs:Nat→Nat→List Mm} (h:Tl T r w qs) (hs:w.heap.size≤w'.heap.size) (hk:∀ k,k<w.heap.size→(r k = .fx∨r k = .lm ∨ ∃ a b,r k = .qu a b)→w'.heap[k]? = w.heap[k]?) (hr:∀ k,k<w.heap.size→r' k=r k):Tl T r' w' qs:=by
 obtain ⟨m,es,clock,h1,h2,h3⟩:=h.mp
 refine ⟨(hr _ h1.lt).trans h.lm,⟨m,es,clock,h1.kept (hk _ h1.lt (Or.inr (Or.inl h.lm))),fun k v hv=>?_,h3⟩,fun a b x hx=>(h.ms a b x hx).keep hs (fun k hk' hf=>hk k hk' (Or.inl hf)) hr,h.nq⟩
 obtain ⟨a,b,e,ha,hq⟩:=h2 k v hv
 exact ⟨a,b,e,ha,hq.kept fun g hg hR=>⟨hk g hg (Or.inr (Or.inr ⟨a,b,hR⟩)),(hr g hg).trans hR⟩⟩
theorem Tk.keep {T:Tc} {r r':Nat→Rl} {w w':World} {cls:List Cl} (h:Tk T r w cls) (hs:w.heap.size≤w'.heap.size) (hk:∀ k,k<w.heap.size→(r k = .fx∨r k = .cm∨(∃ c,r k = .cl c) ∨ ∃ c,r k = .ch c)→w'.heap[k]? = w.heap[k]?) (hr:∀ k,k<w.heap.size→r' k=r k):Tk T r' w' cls:=by
 obtain ⟨es,clock,h1⟩:=h.mp
 refine ⟨(hr _ h1.lt).trans h.cm,⟨es,clock,h1.kept (hk _ h1.lt (Or.inr (Or.inl h.cm)))⟩,h.num,fun c hc=>?_,fun c hc=>?_,fun c hc x hx=>(h.box c hc x hx).keep hs (fun k hk' hf=>hk k hk' (Or.inl hf)) hr⟩
 ·obtain ⟨h2,h3⟩:=h.blk c hc
  have hl:=blk_lt h3
  exact ⟨(hr _ hl).trans h2,(hk _ hl (Or.inr (Or.inr (Or.inl ⟨_,h2⟩)))).trans h3⟩
 ·obtain ⟨h2,s,r1,tm,h3⟩:=h.chn c hc
  have hl:=blk_lt h3
  exact ⟨(hr _ hl).trans h2,s,r1,tm,(hk _ hl (Or.inr (Or.inr (Or.inr ⟨_,h2⟩)))).trans h3⟩
theorem Tm.gr {T:Tc} {r:Nat→Rl} {w w':World} {Xs:Nat→List Hm} {qs:Nat→Nat→List Mm} {cls:List Cl} (h:Tm T r w Xs qs cls) (g:Gr w w'):Tm T r w' Xs qs cls :=
 ⟨h.b.keep g.size (fun k hk _=>g.block k hk) (fun _ _=>rfl) (fun k hk=>h.b.top k (Nat.le_trans g.size hk)),h.h.keep g.size (fun k hk _=>g.block k hk) (fun _ _=>rfl),h.l.keep g.size (fun k hk _=>g.block k hk) (fun _ _=>rfl),h.k.keep g.size (fun k hk _=>g.block k hk) (fun _ _=>rfl)⟩
theorem Tm.apart {T:Tc} {r r1 r1':Nat→Rl} {w w':World} {Xs:Nat→List Hm} {qs:Nat→Nat→List Mm} {cls:List Cl} (h:Tm T r w Xs qs cls) (g:Fr r1 r1' w w') (ha:∀ k,r k = .no∨r1 k = .no) (h0:r1 0 = .no):Tm T r w' Xs qs cls:=by
 have e:∀ k,k<w.heap.size→r k ≠ .no→w'.heap[k]? = w.heap[k]? := fun k hk hr=>g.keep k hk (Or.inl ((ha k).resolve_left hr))
 have nofx:∀ {k:Nat},r k = .fx→r k ≠ .no:=fun h e=>by rw [h] at e;cases e
 refine ⟨?_,h.h.keep g.size (fun k hk hr=>e k hk ?_) (fun _ _=>rfl),h.l.keep g.size (fun k hk hr=>e k hk ?_) (fun _ _=>rfl),h.k.keep g.size (fun k hk hr=>e k hk ?_) (fun _ _=>rfl)⟩
 ·have hb:=h.b
  have lT:=hb.lt (k:=T.TB) (by rw [hb.rT];exact fun e=>by cases e)
  have lH:=hb.lt (k:=T.HB) (by rw [hb.rH];exact fun e=>by cases e)
  have eT:=e _ lT (nofx hb.rT)
  have eH:=e _ lH (nofx hb.rH)
  refine ⟨hb.nb8,hb.pos,hb.adj,by rw [cell_blk eT];exact hb.c0,by rw [cell_blk eT];exact hb.c1,by rw [cell_blk eT];exact hb.c2,hb.rT,hb.rH,fun b hbn=>by rw [cell_blk eH];exact hb.hb b hbn,fun k hk=>hb.top k (Nat.le_trans g.size hk),hb.r0,?_⟩
  exact ⟨by rw [cell_blk (g.keep 0 hb.ml.pos (Or.inl h0))];exact hb.ml.cell,Nat.lt_of_lt_of_le hb.ml.pos g.size⟩
 ·rcases hr with hr | ⟨b,hr⟩ <;> rw [hr] <;> exact fun e=>by cases e
 ·rcases hr with hr | hr | ⟨a,b,hr⟩ <;> rw [hr] <;> exact fun e=>by cases e
 ·rcases hr with hr | hr | ⟨c,hr⟩ | ⟨c,hr⟩ <;> rw [hr] <;> exact fun e=>by cases e
theorem Tm.own {T:Tc} {r:Nat→Rl} {w:World} {Xs:Nat→List Hm} {qs:Nat→Nat→List Mm} {cls:List Cl} (h:Tm T r w Xs qs cls) (r':Nat→Rl) (hr:∀ k,r k ≠ .no→r' k=r k) (h0:r' 0 = .no) (ht:∀ k,w.heap.size≤k→r' k = .no):Tm T r' w Xs qs cls:=by
 have ne:∀ {k:Nat} {x:Rl},r k=x→x ≠ .no→r' k=x:=fun e hx=>(hr _ (by rw [e];exact hx)).trans e
 have fiR:∀ {ad:Option Addr} {l:List Wnt},FiR r w ad l→FiR r' w ad l:=fun ⟨a,b,off,c,d⟩=>⟨a,b,off,c,ne d (fun e=>by cases e)⟩
 have evR:∀ {ad:Option Addr} {l:List Atr},EvR r w ad l→EvR r' w ad l:=fun ⟨a,b,off,c,d⟩=>⟨a,b,off,c,ne d (fun e=>by cases e)⟩
 refine ⟨⟨h.b.nb8,h.b.pos,h.b.adj,h.b.c0,h.b.c1,h.b.c2,ne h.b.rT (fun e=>by cases e),ne h.b.rH (fun e=>by cases e),h.b.hb,ht,h0,h.b.ml⟩,⟨fun b hb=>⟨ne (h.h.at' b hb).1 (fun e=>by cases e),(h.h.at' b hb).2⟩,fun b hb x hx=>⟨fiR (h.h.fi b hb x hx).1,(h.h.fi b hb x hx).2⟩⟩,?_,?_⟩
 ·obtain ⟨m,es,clock,h1,h2,h3⟩:=h.l.mp
  refine ⟨ne h.l.lm (fun e=>by cases e),⟨m,es,clock,h1,fun k v hv=>?_,h3⟩,fun a b x hx=>?_,h.l.nq⟩
  ·obtain ⟨a,b,e,ha,hq⟩:=h2 k v hv
   exact ⟨a,b,e,ha,hq.kept fun g hg hR=>⟨rfl,ne hR (fun e=>by cases e)⟩⟩
  ·have hm:=h.l.ms a b x hx
   unfold MmOk at hm ⊢
   split
   ·rename_i k f e;rw [e] at hm;exact ⟨hm.1,fiR hm.2⟩
   ·rename_i k e;rw [e] at hm;exact hm
   ·rename_i v e;rw [e] at hm;exact evR hm
 ·exact ⟨ne h.k.cm (fun e=>by cases e),h.k.mp,h.k.num,fun c hc=>⟨ne (h.k.blk c hc).1 (fun e=>by cases e),(h.k.blk c hc).2⟩,fun c hc=>⟨ne (h.k.chn c hc).1 (fun e=>by cases e),(h.k.chn c hc).2⟩,fun c hc x hx=>evR (h.k.box c hc x hx)⟩
theorem Tm.hp {T:Tc} {r:Nat→Rl} {w:World} {Xs:Nat→List Hm} {qs:Nat→Nat→List Mm} {cls:List Cl} (h:Tm T r w Xs qs cls) {b:Nat} (hb:b<T.nb):∃ es clock,Hp w (T.MB b) (Xs b) es clock:=by
 obtain ⟨_,es,clock,h2⟩:=h.h.at' b hb
 exact ⟨es,clock,h2,fun x hx=>(h.h.fi b hb x hx).1.m⟩
theorem Tm.tlt {T:Tc} {r:Nat→Rl} {w:World} {Xs:Nat→List Hm} {qs:Nat→Nat→List Mm} {cls:List Cl} (h:Tm T r w Xs qs cls):T.TB<w.heap.size:=h.b.lt (by rw [h.b.rT];exact fun e=>by cases e)
theorem Tm.hlt {T:Tc} {r:Nat→Rl} {w:World} {Xs:Nat→List Hm} {qs:Nat→Nat→List Mm} {cls:List Cl} (h:Tm T r w Xs qs cls):T.HB<w.heap.size:=h.b.lt (by rw [h.b.rH];exact fun e=>by cases e)
theorem Tm.hs {T:Tc} {r:Nat→Rl} {w:World} {Xs:Nat→List Hm} {qs:Nat→Nat→List Mm} {cls:List Cl} (h:Tm T r w Xs qs cls):Hs w T.TB T.HB 0 T.nb T.hcap Xs :=
 ⟨h.b.c0,h.tlt,h.hlt,fun b hb=>by
  obtain ⟨es,clock,h1⟩:=h.hp hb
  exact ⟨T.MB b,es,clock,by rw [Nat.zero_add];exact h.b.hb b hb,h1⟩⟩
theorem Tl.lk {T:Tc} {r:Nat→Rl} {w:World} {qs:Nat→Nat→List Mm} (h:Tl T r w qs):∃ m es clock,Mp Tryz.prog 81 w T.LB m es clock∧Lk T.adj T.nb m∧(∀ k v,(k,v)∈m → ∃ a b:Nat,k=pk ((a:Int),(b:Int))∧T.adj a b=true∧Qr w 172 4 (fun k=>r k = .qu a b) v (qs a b).length ((qs a b).flatMap mcells))∧(∀ a b:Nat,T.adj a b=true → ∃ v,(pk ((a:Int),(b:Int)),v)∈m):=by
 obtain ⟨m,es,clock,h1,h2,h3⟩:=h.mp
 refine ⟨m,es,clock,h1,⟨fun a b _ _=>⟨h3 a b,fun ⟨v,hv⟩=>?_⟩⟩,h2,h3⟩
 obtain ⟨a',b',e,ha,_⟩:=h2 _ v hv
 have:=pk_inj e
 simp only [Prod.mk.injEq,Int.natCast_inj] at this
 rw [this.1,this.2];exact ha
end Go.Proofs.YtecnfgikbmcgoaaGreat
namespace Go.Proofs.YtecnfgikbmcgoaaGreat
open Go.RowKit Go.Sort Go.Shelf Go.Lib
open Go.Maps (Keyed)
open Go.ChangeMaps (setBlock)
instance:Inhabited Hw:=⟨⟨(0,0),[],0⟩⟩
def hcell (x:Hm):List Value:=[.int .i64 x.1.key.1,.int .i64 x.1.key.2,.slice x.2.1 x.1.f.length x.2.2,.int .i64 x.1.fr]
def hcells (l:List Hm):List Value:=l.flatMap hcell
theorem hcells_snoc (l:List Hm) (x:Hm):hcells (l++[x])=hcells l++[.int .i64 x.1.key.1,.int .i64 x.1.key.2,.slice x.2.1 x.1.f.length x.2.2,.int .i64 x.1.fr]:=by simp [hcells,hcell]
theorem Tryz.infoHold:(Tryz.prog.info? 121).map (fun i=>(i.zero,i.size,i.bytes))=some (some (.agg #[.int .i64 0,.int .i64 0,.slice none 0 0,.int .i64 0]),4,48):=by kernel_rfl
set_option maxRecDepth 100000 in
set_option maxHeartbeats 1000000 in
theorem byKey_x (x y:Hm) (w:World):Calls Tryz.prog 114 #[.agg #[.int .i64 x.1.key.1,.int .i64 x.1.key.2,.slice x.2.1 x.1.f.length x.2.2,.int .i64 x.1.fr],.agg #[.int .i64 y.1.key.1,.int .i64 y.1.key.2,.slice y.2.1 y.1.f.length y.2.2,.int .i64 y.1.fr]] w fun e w'=>e = .returned (.int .i64 (cK x.1.key y.1.key))∧Gx w w':=by
 go_enter Tryz.func114,Tryz.ntmps114
 go_wp2_with fail
 refine (compareKeys_x x.1.key y.1.key _).mono ?_
 rintro e w1 ⟨rfl,g1⟩
 have G1:=Hid.mk' ((((Gx.refl w).alloc _).alloc _).trans g1)
 clear g1
 go_wp2_with fail
 go_ret
 exact ⟨rfl,G1.out⟩
def cH (x y:Hm):Int:=cK x.1.key y.1.key
theorem ltH (x y:Hm):ltOf cH x y=klt x.1.key y.1.key:=by unfold ltOf;exact cK_lt _ _
theorem swoH:SWO (ltOf cH) where
 irrefl x:=by rw [ltH];exact klt_irr _
 trans x y z h1 h2:=by rw [ltH] at *;exact klt_trans h1 h2
 ntrans x y z h1 h2:=by
  have:=swoK.ntrans x.1.key y.1.key z.1.key
  simp only [ltK] at this
  rw [ltH] at *
  exact this h1 h2
theorem cmpH (blk off size:Nat) (w:World):CmpLays Tryz.prog 114 #[] hcell 4 cH blk off size w :=
 fun _ _ _ _ x y=>byKey_x x y _
set_option maxHeartbeats 1000000 in
theorem sortHolds_some (L:List Hm) (g cap:Nat) (w0 w:World) (hn:L.length<4611686018427387904) (hg:Gr w0 w) (h:w.ownsRow w0.heap.size 121 4 (.slice (some ⟨g,0,none⟩) L.length cap) L.length (hcells L)) :
  Calls Tryz.prog 113 #[.slice (some ⟨g,0,none⟩) L.length cap,.func (.func 114) #[] #[]] w fun e w'=>e = .returned (.tuple #[]) ∧ ∃ L',L'.Perm L∧L'.Pairwise (fun x y=>klt y.1.key x.1.key=false)∧w'.ownsRow w0.heap.size 121 4 (.slice (some ⟨g,0,none⟩) L'.length cap) L'.length (hcells L')∧Gr w0 w':=by
 have eg:∀ args w,(callFunc 114 args).run Tryz.prog w = .ok (.enter 114 args) w:=enters_of Tryz.func114 (by kernel_rfl) rfl
 have hlt:g<w.heap.size:=by
  rcases h.2 with ⟨hv,_⟩ | ⟨b,cap',cur,hv,hb,hh,_⟩
  ·cases hv
  ·simp only [Value.slice.injEq,Option.some.injEq,Addr.mk.injEq,and_true,true_and] at hv
   rw [hv.1];exact blk_lt hh
 have hcon:=AnyQ.slices_SortFunc Tryz.sortH 4 Tryz.isAgg121 Tryz.sizeOf121 hcell (fun _=>rfl) (fun x v hv=>by simp [hcell] at hv;rcases hv with rfl | rfl | rfl | rfl <;> rfl) cH swoH 114 #[] g 0 cap L.toArray w eg (cmpH g 0 L.toArray.size w) (holds_of (enc:=hcell) (k:=4) (fun _=>rfl) (by decide) h) hlt (by simpa using hn)
 simp only [List.size_toArray] at hcon
 refine hcon.mono ?_
 rintro e w' ⟨rfl,d',m,os,hp,hs,rfl⟩
 have hsz:d'.size=L.length:=by have:=hp.1;simpa using this
 have hd:d'=d'.toList.toArray:=by simp
 have hperm:d'.toList.Perm L:=by
  have h2:=hp.2.2
  rw [← hsz] at h2
  have e1:d'.extract 0 d'.size=d':=Array.extract_size
  have e2:L.toArray.extract 0 d'.size=L.toArray:=by rw [hsz];simp
  rw [e1,e2] at h2
  simpa using h2
 refine ⟨rfl,d'.toList,hperm,?_,?_⟩
 ·rw [List.pairwise_iff_getElem]
  intro i j hi hj hij
  have:=hs i j (Nat.zero_le _) hij (by simpa [hsz] using hj)
  rw [ltH,getElem!_pos d' j (by simpa using hj),getElem!_pos d' i (by simpa using hi)] at this
  simpa using this
 ·have:=sorted_row (enc:=hcell) (k:=4) (fun _=>rfl) (by decide) (m:=m) (os:=os) (d:=L) (d':=d'.toList) (by simpa using hsz) hg h
  rw [← hd] at this
  exact this
set_option maxRecDepth 100000 in
set_option maxHeartbeats 1000000 in
theorem insH0 (ad:Option Addr) (cap:Nat) (w:World) :
  Calls Tryz.prog 148 #[.slice ad 0 cap,.int .i64 0,.int .i64 0,.func (.func 114) #[] #[]] w fun e w'=>e = .returned (.tuple #[])∧Gr w w':=by
 go_enter Tryz.func148,Tryz.ntmps148
 go_wp2_with fail
 refine wp_loop_rounds 1 ?_
 rw [rounds_succ]
 go_wp2_with fail
 go_end0
 exact ⟨rfl,Gr.refl _⟩
set_option maxRecDepth 100000 in
set_option maxHeartbeats 1000000 in
theorem pdqH0 (ad:Option Addr) (cap:Nat) (l:Int) (w:World) :
  Calls Tryz.prog 138 #[.slice ad 0 cap,.int .i64 0,.int .i64 0,.int .i64 l,.func (.func 114) #[] #[]] w fun e w'=>e = .returned (.tuple #[])∧Gr w w':=by
 go_enter Tryz.func138,Tryz.ntmps138
 go_wp2_with fail
 refine wp_loop_rounds 1 ?_
 rw [rounds_succ]
 go_wp2_with fail
 refine (insH0 ad cap w).mono ?_
 rintro e w1 ⟨rfl,g1⟩
 go_wp2_with fail
 exact bodyPost_ret (v:=.tuple #[]) (by simp [results,Tryz.results138,go_sem]) rfl ⟨rfl,g1⟩
set_option maxRecDepth 100000 in
set_option maxHeartbeats 1000000 in
theorem sortHolds_none (ad:Option Addr) (cap:Nat) (w:World) :
  Calls Tryz.prog 113 #[.slice ad 0 cap,.func (.func 114) #[] #[]] w fun e w'=>e = .returned (.tuple #[])∧Gr w w':=by
 go_enter Tryz.func113,Tryz.ntmps113
 go_wp2_with fail
 refine (Tryz.bits_Len 0 w (by decide) (by decide)).mono ?_
 rintro e w1 ⟨rfl,hw⟩
 have hw':=hw.symm
 clear hw
 subst hw'
 go_wp2_with fail
 refine (pdqH0 ad cap _ w).mono ?_
 rintro e w1 ⟨rfl,g1⟩
 go_wp2_with fail
 go_end0
 exact ⟨rfl,g1⟩
end Go.Proofs.YtecnfgikbmcgoaaGreat
