import Derived.Test.YtecnfgikbmcgoaaGreatG10
import Derived.BigQuiet
import Derived.BigRegion
import Derived.Deep.QuietTactic
namespace Go.Proofs.YtecnfgikbmcgoaaGreat
open Go.RowKit
open Go.Maps (Keyed)
open Go.ChangeMaps (setBlock)
theorem Tryz.infoMsg:(Tryz.prog.info? 172).map (fun i=>(i.zero,i.size,i.bytes))=some (some (.agg #[.slice none 0 0,.int .i64 0,.int .i64 0,.slice none 0 0]),4,64):=by kernel_rfl
structure SnC where
 TB:Nat
 LB:Nat
 Bm:Nat
 Bl:Nat
 a:Int
 b:Int
 m0:Value
 m1:Value
 m2:Value
 m3:Value
 v:Value
 e:MapEntry
 n:Nat
 xs:List Value
 Rv:Nat→Prop
 w1:World
def SnC.news (c:SnC):List Value:=[c.m0,c.m1,c.m2,c.m3]
def Rsn (c:SnC) (j:Nat) (x:Value) (w:World):Prop :=
 match j with
 | 0=>x = .pointer (some ⟨c.TB,0,none⟩)
 | 1=>x = .pointer (some ⟨c.TB,0,none⟩)
 | 2=>x = .pointer (some ⟨c.TB,2,none⟩)
 | 3=>x = .map (some c.LB)
 | 4=>x = .agg #[.int .i64 c.a,.int .i64 c.b]
 | 5=>x = .agg #[c.m0,c.m1,c.m2,c.m3]
 | 6=>∃ g,x = .slice (some ⟨g,0,none⟩) 1 1∧c.w1.heap.size≤g∧w.heap[g]? = some (.cells #[c.m0,c.m1,c.m2,c.m3] 172 (0,0))
 | 7=>x = .tuple #[c.v,goInt c.e.born]
 | 8=>x=c.v∧Qr w 172 4 c.Rv c.v c.n c.xs
 | 9=>(∃ a m cap,x = .slice a m cap)∧Qr w 172 4 (fun k=>x.ownBlock=some k) x (c.n+1) (c.xs++c.news)∧(x.ownBlock=c.v.ownBlock ∨ ∃ k,c.w1.heap.size≤k∧x.ownBlock=some k)
 | 10=>x=goInt c.e.born
 | _=>True
structure Gsn (c:SnC) (i:Nat) (wa wb:World):Prop where
 g:wa.grownBy wb c.v.ownBlock
 q:Qr wa 172 4 c.Rv c.v c.n c.xs→Qr wb 172 4 c.Rv c.v c.n c.xs
 r:i≠9→Gr wa wb
theorem Gsn.gr {c:SnC} {i:Nat} {wa wb:World} (g:Gr wa wb):Gsn c i wa wb :=
 ⟨⟨g.os,g.tape,g.output,g.size,fun k hk _=>g.block k hk⟩,fun h=>h.kept fun k hk hR=>⟨g.block k hk,hR⟩,fun _=>g⟩
def Wsn (c:SnC) (w:World):Prop:=c.w1.grownBy w c.v.ownBlock∧Qr w 172 4 c.Rv c.v c.n c.xs
theorem Rsn.keep {c:SnC} (hv:∀ k,c.v.ownBlock=some k→k<c.w1.heap.size) (i j:Nat) (x:Value) (wa wb:World) (hij:i≠j) (h:Rsn c j x wa) (g:Gsn c i wa wb):Rsn c j x wb:=by
 match j,h,hij with
 | 0,h,_=>exact h
 | 1,h,_=>exact h
 | 2,h,_=>exact h
 | 3,h,_=>exact h
 | 4,h,_=>exact h
 | 5,h,_=>exact h
 | 6,h,_ =>
  obtain ⟨q,h1,h2,h3⟩:=h
  exact ⟨q,h1,h2,(g.g.block q (blk_lt h3) (fun e=>by have:=hv q e.symm;omega)).trans h3⟩
 | 7,h,_=>exact h
 | 8,h,_=>exact ⟨h.1,g.q h.2⟩
 | 9,h,hij=>exact ⟨h.1,h.2.1.kept fun k hk hR=>⟨(g.r hij).block k hk,hR⟩,h.2.2⟩
 | 10,h,_=>exact h
 | _+11,_,_=>trivial
def dsn (i:Nat):Nat:=[12,13,14,15,16,18,19,20,17,21,22].getD i 0
theorem dsn_inj:∀ i,i<11 → ∀ j,j<11→dsn i=dsn j→i=j:=by decide
structure Esn (c:SnC) (a:Act):Prop where
 sz:23≤a.tmps.size
 df:a.defers=[]
 t0:a.eval (.tmp 0) = .pointer (some ⟨c.TB,0,none⟩)
 t7:a.eval (.tmp 7) = .pointer (some ⟨c.Bm,0,none⟩)
 t8:a.eval (.tmp 8) = .pointer (some ⟨c.Bl,0,none⟩)
theorem dsn_ge:∀ i,i<11→12≤dsn i∧dsn i<23:=by decide
theorem Esn.put {c:SnC} (a:Act) (i:Nat) (x:Value) (hi:i<11) (h:Esn c a):Esn c (a.put (some (dsn i)) x):=by
 have hd:=dsn_ge i hi
 refine ⟨by simpa [Act.put] using h.sz,h.df,?_,?_,?_⟩ <;> rw [eval_put_other (by omega)]
 ·exact h.t0
 ·exact h.t7
 ·exact h.t8
set_option maxRecDepth 100000 in
set_option maxHeartbeats 4000000 in
theorem send_any (T:Tc) (r:Nat→Rl) (w:World) (Xs:Nat→List Hm) (qs:Nat→Nat→List Mm) (cls:List Cl) (a b:Nat) (x:Mm) (m0 m1 m2 m3:Value) (hx:mcells x=[m0,m1,m2,m3])
  (h:Tm T r w Xs qs cls) (hab:T.adj a b=true) (hok:MmOk r w x) (hn:(qs a b).length<1099511627776) :
  Calls Tryz.prog 80 #[.pointer (some ⟨T.TB,0,none⟩),.int .i64 a,.int .i64 b,.agg #[m0,m1,m2,m3]] w fun e w'=>e = .returned (.tuple #[]) ∧ ∃ r',Tm T r' w' Xs (pushq qs a b [x]) cls∧Fr r r' w w':=by
 obtain ⟨i0,hi,hz0,hz1,hz2⟩:=info_parts Tryz.infoMsg
 have hone:∀ u∈[m0,m1,m2,m3],u.oneCell'=true:=by
  rw [← hx]
  intro u hu
  unfold mcells at hu
  split at hu <;> simp at hu <;> rcases hu with rfl | rfl | rfl | rfl <;> rfl
 have o0:=hone m0 (by simp)
 have o1:=hone m1 (by simp)
 have o2:=hone m2 (by simp)
 have o3:=hone m3 (by simp)
 have hlt:=h.b.adj a b hab
 have hnb:=h.b.nb8
 have Hh:=Hid.mk' h
 have HX:=Hid.mk' hx
 have HO:=Hid.mk' hok
 have HONE:=Hid.mk' hone
 clear h hx hok hone
 go_enter Tryz.func80,Tryz.ntmps80
 go_wp2_with fail
 have G1:Gr w ((w.alloc (.cells #[m0,m1,m2,m3] 172)).alloc (.cells #[.int .i64 a,.int .i64 b] 81)):=((Gr.refl w).alloc _).alloc _
 have HA2:=blk_gr ((Gr.refl _).alloc (.cells #[.int .i64 a,.int .i64 b] 81)) (heap_alloc_new w (.cells #[m0,m1,m2,m3] 172))
 have HB2:=heap_alloc_new (w.alloc (.cells #[m0,m1,m2,m3] 172)) (.cells #[.int .i64 a,.int .i64 b] 81)
 have hsz:(w.alloc (.cells #[m0,m1,m2,m3] 172)).heap.size=w.heap.size+1:=by simp
 rw [hsz] at HB2
 clear hsz
 generalize ((w.alloc (.cells #[m0,m1,m2,m3] 172)).alloc (.cells #[.int .i64 a,.int .i64 b] 81))=W1 at *
 have hT:=Hh.out.gr G1
 obtain ⟨m,es,clock,hmp,_,hall,hev⟩:=hT.l.lk
 obtain ⟨v,hv⟩:=hev a b hab
 have hQ:Qr W1 172 4 (fun k=>r k = .qu a b) v (qs a b).length ((qs a b).flatMap mcells):=by
  obtain ⟨a',b',e,_,hQ⟩:=hall _ v hv
  have:=pk_inj e
  simp only [Prod.mk.injEq,Int.natCast_inj] at this
  rw [this.1,this.2];exact hQ
 obtain ⟨l1,e,l2,hl,hek,hev'⟩:=hmp.spl hv
 subst hev'
 obtain ⟨lk,hlk⟩:=keyE ((a:Int),(b:Int)) ⟨by omega,by omega⟩ ⟨by omega,by omega⟩
 have hlk':keyOf Tryz.prog 81 e.key=some lk:=by rw [hek];exact hlk
 have hown:∀ k,e.val.ownBlock=some k→r k = .qu a b∧k<W1.heap.size:=fun k hk=>hQ.own k hk
 have hTB:T.TB<W1.heap.size:=hT.tlt
 have nTB:some T.TB≠e.val.ownBlock:=fun ee=>by have:=(hown _ ee.symm).1;rw [hT.b.rT] at this;cases this
 have nLB:some T.LB≠e.val.ownBlock:=fun ee=>by have:=(hown _ ee.symm).1;rw [hT.l.lm] at this;cases this
 have nBm:some w.heap.size≠e.val.ownBlock:=fun ee=>by have:=(hown _ ee.symm).1;rw [Hh.out.b.top _ (Nat.le_refl _)] at this;cases this
 have nBl:some (w.heap.size+1)≠e.val.ownBlock:=fun ee=>by have:=(hown _ ee.symm).1;rw [Hh.out.b.top _ (Nat.le_succ _)] at this;cases this
 have hc2:=hT.b.c2
 refine region_D rfl 11 (by rfl) dsn dsn_inj
  (Rsn ⟨T.TB,T.LB,w.heap.size,w.heap.size+1,a,b,m0,m1,m2,m3,e.val,e,(qs a b).length,(qs a b).flatMap mcells,fun k=>r k = .qu a b,W1⟩)
  (Esn ⟨T.TB,T.LB,w.heap.size,w.heap.size+1,a,b,m0,m1,m2,m3,e.val,e,(qs a b).length,(qs a b).flatMap mcells,fun k=>r k = .qu a b,W1⟩)
  (Wsn ⟨T.TB,T.LB,w.heap.size,w.heap.size+1,a,b,m0,m1,m2,m3,e.val,e,(qs a b).length,(qs a b).flatMap mcells,fun k=>r k = .qu a b,W1⟩)
  (Gsn ⟨T.TB,T.LB,w.heap.size,w.heap.size+1,a,b,m0,m1,m2,m3,e.val,e,(qs a b).length,(qs a b).flatMap mcells,fun k=>r k = .qu a b,W1⟩)
  (fun a i x hi h=>Esn.put a i x hi h) (fun a h i hi=>by have:=h.sz;have:=dsn_ge i hi;omega) (fun i wa wb h g=>⟨h.1.trans g.g,g.q h.2⟩) (fun i j x wa wb hij h g=>Rsn.keep (fun k hk=>(hown k hk).2) i j x wa wb hij h g) ?front ?last ?e0 ⟨⟨rfl,rfl,rfl,Nat.le_refl _,fun _ _ _=>rfl⟩,hQ⟩
 case e0=>exact ⟨by simp,rfl,rfl,rfl,rfl⟩
 case front =>
  intro i o a' wr ho hi' hE hW hd K hK
  have gW:=hW.1
  have c2:wr.cell? ⟨T.TB,2,none⟩=some (.map (some T.LB)):=(gW.cell_far ⟨T.TB,2,none⟩ hTB nTB).trans hc2
  have hA:wr.heap[w.heap.size]? = some (.cells #[m0,m1,m2,m3] 172 (0,0)):=(gW.block _ (blk_lt HA2) nBm).trans HA2
  have hB:wr.heap[w.heap.size+1]? = some (.cells #[.int .i64 a,.int .i64 b] 81 (0,0)):=(gW.block _ (blk_lt HB2) nBl).trans HB2
  have hM:Mp Tryz.prog 81 wr T.LB m es clock:=hmp.kept (gW.block _ hmp.lt nLB)
  match i,ho,hi',hd,hK with
  | 0,ho,_,hd,hK =>
   obtain rfl:=Option.some.inj ho
   have e0:=(evn a' 0).symm.trans hE.t0
   unfold Oper.wp
   go_simp
   exact hK _ _ (Gsn.gr (Gr.refl _)) rfl
  | 1,ho,_,hd,hK =>
   obtain rfl:=Option.some.inj ho
   have e0:a'.eval (.tmp 12) = .pointer (some ⟨T.TB,0,none⟩):=hd ⟨0,.data⟩ (by simp) rfl
   rw [evn] at e0
   unfold Oper.wp
   go_simp
   exact hK _ _ (Gsn.gr (Gr.refl _)) rfl
  | 2,ho,_,hd,hK =>
   obtain rfl:=Option.some.inj ho
   have e0:a'.eval (.tmp 13) = .pointer (some ⟨T.TB,0,none⟩):=hd ⟨1,.data⟩ (by simp) rfl
   rw [evn] at e0
   unfold Oper.wp
   go_simp
   exact hK _ _ (Gsn.gr (Gr.refl _)) rfl
  | 3,ho,_,hd,hK =>
   obtain rfl:=Option.some.inj ho
   have e0:a'.eval (.tmp 14) = .pointer (some ⟨T.TB,2,none⟩):=hd ⟨2,.data⟩ (by simp) rfl
   rw [evn] at e0
   unfold Oper.wp
   go_simp
   exact hK _ _ (Gsn.gr (Gr.refl _)) rfl
  | 4,ho,_,hd,hK =>
   obtain rfl:=Option.some.inj ho
   have e0:=(evn a' 8).symm.trans hE.t8
   have d0:wr.cell? ⟨w.heap.size+1,0,none⟩=some (.int .i64 a):=by rw [cell_of_row _ _ _ _ _ _ hB];rfl
   have d1:wr.cell? ⟨w.heap.size+1,1,none⟩=some (.int .i64 b):=by rw [cell_of_row _ _ _ _ _ _ hB];rfl
   unfold Oper.wp
   go_simp
   exact hK _ _ (Gsn.gr (Gr.refl _)) rfl
  | 5,ho,_,hd,hK =>
   obtain rfl:=Option.some.inj ho
   have e0:=(evn a' 7).symm.trans hE.t7
   have d0:wr.cell? ⟨w.heap.size,0,none⟩=some m0:=by rw [cell_of_row _ _ _ _ _ _ hA];rfl
   have d1:wr.cell? ⟨w.heap.size,1,none⟩=some m1:=by rw [cell_of_row _ _ _ _ _ _ hA];rfl
   have d2:wr.cell? ⟨w.heap.size,2,none⟩=some m2:=by rw [cell_of_row _ _ _ _ _ _ hA];rfl
   have d3:wr.cell? ⟨w.heap.size,3,none⟩=some m3:=by rw [cell_of_row _ _ _ _ _ _ hA];rfl
   unfold Oper.wp
   go_simp
   exact hK _ _ (Gsn.gr (Gr.refl _)) rfl
  | 6,ho,_,hd,hK =>
   obtain rfl:=Option.some.inj ho
   have e0:a'.eval (.tmp 18) = .agg #[m0,m1,m2,m3]:=hd ⟨5,.data⟩ (by simp) rfl
   rw [evn] at e0
   unfold Oper.wp
   go_simp
   exact hK _ _ (Gsn.gr ((Gr.refl _).alloc _)) ⟨_,rfl,gW.size,heap_alloc_new _ _⟩
  | 7,ho,_,hd,hK =>
   obtain rfl:=Option.some.inj ho
   have e0:a'.eval (.tmp 15) = .map (some T.LB):=hd ⟨3,.data⟩ (by simp) rfl
   have e1:a'.eval (.tmp 16) = .agg #[.int .i64 a,.int .i64 b]:=hd ⟨4,.data⟩ (by simp) rfl
   rw [evn] at e0 e1
   have hme:=Mp.entry Tryz.keyedE Tryz.underlying117 hM hl hlk'
   rw [hek] at hme
   unfold pk at hme
   unfold Oper.wp
   go_simp
   exact hK _ _ (Gsn.gr (Gr.refl _)) rfl
  | 8,ho,_,hd,hK =>
   obtain rfl:=Option.some.inj ho
   have e0:a'.eval (.tmp 20) = .tuple #[e.val,goInt e.born]:=hd ⟨7,.data⟩ (by simp) rfl
   rw [evn] at e0
   unfold Oper.wp
   go_simp
   exact hK _ _ (Gsn.gr (Gr.refl _)) ⟨rfl,hW.2⟩
  | 9,ho,_,hd,hK =>
   obtain rfl:=Option.some.inj ho
   obtain ⟨e0,hq0⟩:Rsn _ 8 (a'.eval (.tmp 17)) wr:=hd ⟨8,.data⟩ (by simp) rfl
   obtain ⟨g,e1,hg1,hg2⟩:Rsn _ 6 (a'.eval (.tmp 19)) wr:=hd ⟨6,.data⟩ (by simp) rfl
   refine wp_append_q wr (.tmp 17) (.tmp 19) 129 rfl 172 i0 _ 4 64 Tryz.underlying129 hi hz0 hz1 hz2 rfl (fun k=>r k = .qu a b) e.val (qs a b).length ((qs a b).flatMap mcells) e0 hW.2 ⟨g,0,none⟩ 1 1 [m0,m1,m2,m3] e1 (by omega) rfl (World.news_of_block hg2) HONE.out (by unfold maxLen;omega) (by omega) ?_
   intro v' w' k1 k2 k3 k4
   obtain ⟨sa,sc,hsv⟩:=k1.shape
   refine hK _ _ ⟨k2,fun _=>k4,fun h=>absurd rfl h⟩ ⟨⟨sa,_,sc,hsv⟩,k1,?_⟩
   rcases k3 with k3 | k3
   ·exact Or.inl k3
   ·exact Or.inr ⟨_,gW.size,k3⟩
  | 10,ho,_,hd,hK =>
   obtain rfl:=Option.some.inj ho
   have e0:a'.eval (.tmp 20) = .tuple #[e.val,goInt e.born]:=hd ⟨7,.data⟩ (by simp) rfl
   rw [evn] at e0
   unfold Oper.wp
   go_simp
   exact hK _ _ (Gsn.gr (Gr.refl _)) rfl
  | k+11,_,hi',_,_=>exact absurd hi' (by omega)
 case last =>
  intro o a' wr ho hE hW hd K hK
  obtain rfl:=Option.some.inj ho
  have gW:=hW.1
  have e0:a'.eval (.tmp 15) = .map (some T.LB):=hd 3 (by omega)
  have e1:a'.eval (.tmp 22)=goInt e.born:=hd 10 (by omega)
  obtain ⟨⟨sa,sn,sc,hsv⟩,k1,k3⟩:Rsn _ 9 (a'.eval (.tmp 21)) wr:=hd 9 (by omega)
  have hM:Mp Tryz.prog 81 wr T.LB m es clock:=hmp.kept (gW.block _ hmp.lt nLB)
  obtain ⟨es',hes,hM'⟩:=Mp.entry_put (mt:=117) hM hl (a'.eval (.tmp 21))
  rw [hek] at hM'
  have hmm:=hmp.ent_of hl
  rw [hek] at hmm
  have hxx:[m0,m1,m2,m3]=mcells x:=HX.out.symm
  have k1':Qr wr 172 4 (fun k=>(a'.eval (.tmp 21)).ownBlock=some k) (a'.eval (.tmp 21)) ((qs a b).length+1) ((qs a b).flatMap mcells++mcells x):=by rw [← hxx];exact k1
  have FIN:=Tm.send hT x (HO.out.keep G1.size (fun k hk _=>G1.block k hk) (fun _ _=>rfl)) (by rw [← hmm];exact hmp) (by rw [← hmm];exact hall) (by rw [← hmm];exact hev) hQ hab gW k1' k3 hM'
  rw [evn] at e0 e1
  rw [hsv] at hes
  unfold goInt at hes
  rw [evn] at hsv
  have hdf:=hE.df
  clear hd k1 k3 k1' hM'
  unfold Oper.wp
  go_simp
  refine hK _ _ ?_
  go_wp2_with fail
  obtain ⟨r',h1,h2⟩:=FIN
  exact bodyPost_end (v:=.tuple #[]) (by simp [results,Tryz.results80,go_sem]) hdf ⟨rfl,r',h1,(Fr.gr G1).trans h2⟩
theorem mcells_shape (x:Mm):∃ a0 n0 c0 k1 k2 a3 n3 c3,mcells x=[.slice a0 n0 c0,.int .i64 k1,.int .i64 k2,.slice a3 n3 c3]:=by
 unfold mcells
 split <;> exact ⟨_,_,_,_,_,_,_,_,rfl⟩
theorem Qr.first {w:World} {e:TypeId} {R:Nat→Prop} {v:Value} {n:Nat} {m0 m1 m2 m3:Value} {xs:List Value} (h:Qr w e 4 R v (n+1) ([m0,m1,m2,m3]++xs)) :
  ∃ g off cap cur,v = .slice (some ⟨g,off,none⟩) (n+1) cap∧R g∧w.heap[g]? = some (.cells cur e (0,0))∧n+1≤cap∧cap≤maxLen∧off+cap*4≤cur.size∧(cur.toList.drop off).take ((n+1)*4)=[m0,m1,m2,m3]++xs ∧
   w.cell? ⟨g,off,none⟩=some m0∧w.cell? ⟨g,off+1,none⟩=some m1∧w.cell? ⟨g,off+1+1,none⟩=some m2∧w.cell? ⟨g,off+1+1+1,none⟩=some m3:=by
 rcases h.2 with ⟨_,h2⟩ | ⟨g,off,cap,cur,hv,hR,hg,h3,h4,h5,h6⟩
 ·omega
 ·have hc:∀ j u,([m0,m1,m2,m3]++xs)[j]? = some u→w.cell? ⟨g,off+j,none⟩=some u:=by
   intro j u hu
   rw [cell_of_row w g (off+j) cur e (0,0) hg]
   rw [← h6,List.getElem?_take] at hu
   split at hu
   ·rw [List.getElem?_drop] at hu;simpa using hu
   ·cases hu
  exact ⟨g,off,cap,cur,hv,hR,hg,h3,h4,h5,h6,hc 0 m0 rfl,hc 1 m1 rfl,hc 2 m2 rfl,hc 3 m3 rfl⟩
set_option maxRecDepth 100000 in
set_option maxHeartbeats 4000000 in
theorem takeFirst_any (T:Tc) (r:Nat→Rl) (w:World) (Xs:Nat→List Hm) (qs:Nat→Nat→List Mm) (cls:List Cl) (a b:Nat) (x:Mm) (rest:List Mm) (a0 a3:Option Addr) (n0 c0 n3 c3:Nat) (k1 k2:Int) (hx:mcells x=[.slice a0 n0 c0,.int .i64 k1,.int .i64 k2,.slice a3 n3 c3])
  (h:Tm T r w Xs qs cls) (hab:T.adj a b=true) (hq:qs a b=x::rest) :
  Calls Tryz.prog 76 #[.pointer (some ⟨T.TB,0,none⟩),.agg #[.int .i64 a,.int .i64 b]] w fun e w'=>e = .returned (.agg #[.slice a0 n0 c0,.int .i64 k1,.int .i64 k2,.slice a3 n3 c3])∧Tm T r w' Xs (popq qs a b) cls∧Fr r r w w':=by
 have hlt:=h.b.adj a b hab
 have hnb:=h.b.nb8
 have Hh:=Hid.mk' h
 clear h
 go_enter Tryz.func76,Tryz.ntmps76
 go_wp2_with fail
 have G1:Gr w ((w.alloc (.cells #[.int .i64 a,.int .i64 b] 81)).alloc (.cells #[.slice none 0 0,.int .i64 0,.int .i64 0,.slice none 0 0] 172)):=((Gr.refl w).alloc _).alloc _
 have HA:=blk_gr ((Gr.refl _).alloc (.cells #[.slice none 0 0,.int .i64 0,.int .i64 0,.slice none 0 0] 172)) (heap_alloc_new w (.cells #[.int .i64 a,.int .i64 b] 81))
 have HB:=heap_alloc_new (w.alloc (.cells #[.int .i64 a,.int .i64 b] 81)) (.cells #[.slice none 0 0,.int .i64 0,.int .i64 0,.slice none 0 0] 172)
 rw [show (w.alloc (.cells #[.int .i64 a,.int .i64 b] 81)).heap.size=w.heap.size+1 by simp] at HB
 generalize ((w.alloc (.cells #[.int .i64 a,.int .i64 b] 81)).alloc (.cells #[.slice none 0 0,.int .i64 0,.int .i64 0,.slice none 0 0] 172))=W1 at *
 have hT:=Hid.mk' (Hh.out.gr G1)
 obtain ⟨m,es,clock,hmp,_,hall,hev⟩:=hT.out.l.lk
 obtain ⟨v,hv⟩:=hev a b hab
 have hQ:Qr W1 172 4 (fun k=>r k = .qu a b) v (rest.length+1) ([.slice a0 n0 c0,.int .i64 k1,.int .i64 k2,.slice a3 n3 c3]++rest.flatMap mcells):=by
  obtain ⟨a',b',e,_,hQ⟩:=hall _ v hv
  have:=pk_inj e
  simp only [Prod.mk.injEq,Int.natCast_inj] at this
  rw [← this.1, ← this.2,hq,List.length_cons,List.flatMap_cons,hx] at hQ
  exact hQ
 obtain ⟨g,off,cap,cur,rfl,hR,hg,h3,h4,h5,h6,d0,d1,d2,d3⟩:=hQ.first
 obtain ⟨lk,hlk⟩:=keyE ((a:Int),(b:Int)) ⟨by omega,by omega⟩ ⟨by omega,by omega⟩
 have hlu:∀ n:Nat,(Instr.lookup 117 (.map (some T.LB)) (.agg #[.int .i64 a,.int .i64 b]) false).run Tryz.prog (W1.drewN n) = .ok (.slice (some ⟨g,off,none⟩) (rest.length+1) cap) (W1.drewN n):=fun n=>Mp.look_yes Tryz.keyedE Tryz.underlying117 (hmp.kept (by rw [World.heap_drewN])) hlk hv false
 have hc2:W1.cell? ⟨T.TB,2,none⟩=some (.map (some T.LB)):=hT.out.b.c2
 have hTB:T.TB<W1.heap.size:=hT.out.tlt
 have ka0:W1.cell? ⟨w.heap.size,0,none⟩=some (.int .i64 a):=by rw [cell_of_row _ _ _ _ _ _ HA];rfl
 have ka1:W1.cell? ⟨w.heap.size,1,none⟩=some (.int .i64 b):=by rw [cell_of_row _ _ _ _ _ _ HA];rfl
 have e0:W1.cell? ⟨g,off,none⟩=some (.slice a0 n0 c0):=d0
 have e1:W1.cell? ⟨g,off+1,none⟩=some (.int .i64 k1):=d1
 have e2:W1.cell? ⟨g,off+1+1,none⟩=some (.int .i64 k2):=d2
 have e3:W1.cell? ⟨g,off+1+1+1,none⟩=some (.slice a3 n3 c3):=d3
 have hgl:g<W1.heap.size:=blk_lt (w:=W1) hg
 have HD:=Hid.mk' hmp
 have HALL:=Hid.mk' hall
 have HEV:=Hid.mk' hev
 have HV:=Hid.mk' hv
 have H6:=Hid.mk' h6
 have HG:=Hid.mk' hg
 clear hmp hall hev hv hQ h6 hg d0 d1 d2 d3
 go_quiet (fail)
 have G2:=Hid.mk' (G1.drewN nq)
 clear hlu
 generalize hW2:W1.drewN nq=W2 at *
 have hh2:W2.heap=W1.heap:=by rw [← hW2,World.heap_drewN]
 have cc:∀ p:Addr,W2.cell? p=W1.cell? p:=fun p=>World.cell?_of_block (by rw [hh2])
 rw [← cc] at hc2 ka0 ka1 e0 e1 e2 e3
 rw [← hh2] at HA HB hTB hgl
 have HG2:Hid (W2.heap[g]? = some (.cells cur 172 (0,0))):=by show _=_;rw [hh2];exact HG.out
 have HD2:=Hid.mk' (HD.out.kept (w':=W2) (by rw [hh2]))
 have HT2:=Hid.mk' (Hh.out.gr G2.out)
 clear HG HD hT hh2 cc hW2 G1
 have f0:W2.frozen? ⟨g,off,none⟩=false:=frozen_of_row _ _ _ _ _ HG2.out
 have f1:W2.frozen? ⟨g,off+1,none⟩=false:=frozen_of_row _ _ _ _ _ HG2.out
 have f2:W2.frozen? ⟨g,off+1+1,none⟩=false:=frozen_of_row _ _ _ _ _ HG2.out
 have f3:W2.frozen? ⟨g,off+1+1+1,none⟩=false:=frozen_of_row _ _ _ _ _ HG2.out
 go_wp2_with fail
 have SZ2:=HT2.out.tlt
 have hgw:g<w.heap.size:=by
  rcases Nat.lt_or_ge g w.heap.size with h | h
  ·exact h
  ·have:=Hh.out.b.top g h;rw [hR] at this;cases this
 have hws:w.heap.size+2≤W2.heap.size:=blk_lt HB
 have nLB:T.LB≠g:=fun e=>by have:=HT2.out.l.lm;rw [e,hR] at this;cases this
 have nTB:T.TB≠g:=fun e=>by have:=HT2.out.b.rT;rw [e,hR] at this;cases this
 have G3:Hid (Gr w (W2.alloc (.cells #[.slice a0 n0 c0,.int .i64 k1,.int .i64 k2,.slice a3 n3 c3] 172))):=G2.out.alloc _
 have HT3:=Hid.mk' (Hh.out.gr G3.out)
 obtain ⟨cur',hcs',hcd',hg3⟩:∃ cur':Array Value,cur'.size=cur.size∧cur'.toList.drop (off+4)=cur.toList.drop (off+4)∧(((((W2.setCell ⟨g,off,none⟩ (.slice none 0 0)).setCell ⟨g,off+1,none⟩ (.int .i64 0)).setCell ⟨g,off+2,none⟩ (.int .i64 0)).setCell ⟨g,off+3,none⟩ (.slice none 0 0)).alloc (.cells #[.slice a0 n0 c0,.int .i64 k1,.int .i64 k2,.slice a3 n3 c3] 172)).heap[g]? = some (.cells cur' 172 (0,0)):=by
  refine ⟨(((cur.setIfInBounds off (.slice none 0 0)).setIfInBounds (off+1) (.int .i64 0)).setIfInBounds (off+2) (.int .i64 0)).setIfInBounds (off+3) (.slice none 0 0),by simp,?_,?_⟩
  ·simp only [Array.toList_setIfInBounds]
   rw [List.drop_set_of_lt (by omega),List.drop_set_of_lt (by omega),List.drop_set_of_lt (by omega),List.drop_set_of_lt (by omega)]
  ·rw [heap_alloc_old _ _ (by simp only [size_set];exact hgl)]
   exact blk_set_same (blk_set_same (blk_set_same (blk_set_same HG2.out _) _) _) _
 have hoth:∀ k,k≠g→(((((W2.setCell ⟨g,off,none⟩ (.slice none 0 0)).setCell ⟨g,off+1,none⟩ (.int .i64 0)).setCell ⟨g,off+2,none⟩ (.int .i64 0)).setCell ⟨g,off+3,none⟩ (.slice none 0 0)).alloc (.cells #[.slice a0 n0 c0,.int .i64 k1,.int .i64 k2,.slice a3 n3 c3] 172)).heap[k]? = (W2.alloc (.cells #[.slice a0 n0 c0,.int .i64 k1,.int .i64 k2,.slice a3 n3 c3] 172)).heap[k]? := by
  intro k hk
  show (Array.push _ _)[k]? = (Array.push _ _)[k]?
  rw [Array.getElem?_push,Array.getElem?_push]
  simp only [size_set]
  rw [Below.heap_setCell _ _ _ k hk,Below.heap_setCell _ _ _ k hk,Below.heap_setCell _ _ _ k hk,Below.heap_setCell _ _ _ k hk]
 have hsz3:(((((W2.setCell ⟨g,off,none⟩ (.slice none 0 0)).setCell ⟨g,off+1,none⟩ (.int .i64 0)).setCell ⟨g,off+2,none⟩ (.int .i64 0)).setCell ⟨g,off+3,none⟩ (.slice none 0 0)).alloc (.cells #[.slice a0 n0 c0,.int .i64 k1,.int .i64 k2,.slice a3 n3 c3] 172)).heap.size=W2.heap.size+1:=by
  rw [size_alloc'];simp only [size_set]
 have hos3:(((((W2.setCell ⟨g,off,none⟩ (.slice none 0 0)).setCell ⟨g,off+1,none⟩ (.int .i64 0)).setCell ⟨g,off+2,none⟩ (.int .i64 0)).setCell ⟨g,off+3,none⟩ (.slice none 0 0)).alloc (.cells #[.slice a0 n0 c0,.int .i64 k1,.int .i64 k2,.slice a3 n3 c3] 172)).os=W2.os∧(((((W2.setCell ⟨g,off,none⟩ (.slice none 0 0)).setCell ⟨g,off+1,none⟩ (.int .i64 0)).setCell ⟨g,off+2,none⟩ (.int .i64 0)).setCell ⟨g,off+3,none⟩ (.slice none 0 0)).alloc (.cells #[.slice a0 n0 c0,.int .i64 k1,.int .i64 k2,.slice a3 n3 c3] 172)).tape=W2.tape∧(((((W2.setCell ⟨g,off,none⟩ (.slice none 0 0)).setCell ⟨g,off+1,none⟩ (.int .i64 0)).setCell ⟨g,off+2,none⟩ (.int .i64 0)).setCell ⟨g,off+3,none⟩ (.slice none 0 0)).alloc (.cells #[.slice a0 n0 c0,.int .i64 k1,.int .i64 k2,.slice a3 n3 c3] 172)).output=W2.output:=⟨rfl,rfl,rfl⟩
 generalize (((((W2.setCell ⟨g,off,none⟩ (.slice none 0 0)).setCell ⟨g,off+1,none⟩ (.int .i64 0)).setCell ⟨g,off+2,none⟩ (.int .i64 0)).setCell ⟨g,off+3,none⟩ (.slice none 0 0)).alloc (.cells #[.slice a0 n0 c0,.int .i64 k1,.int .i64 k2,.slice a3 n3 c3] 172))=W3 at *
 have ho3:∀ k,k<W2.heap.size→k≠g→W3.heap[k]? = W2.heap[k]? := fun k hk hn=>(hoth k hn).trans (heap_alloc_old _ _ hk)
 have hM3:W3.heap[W2.heap.size]? = some (.cells #[.slice a0 n0 c0,.int .i64 k1,.int .i64 k2,.slice a3 n3 c3] 172 (0,0)):=(hoth _ (by omega)).trans (heap_alloc_new _ _)
 have hB3:W3.heap[w.heap.size+1]? = some (.cells #[.slice none 0 0,.int .i64 0,.int .i64 0,.slice none 0 0] 172 (0,0)):=(ho3 _ (by omega) (by omega)).trans HB
 have hA3:W3.heap[w.heap.size]? = some (.cells #[.int .i64 a,.int .i64 b] 81 (0,0)):=(ho3 _ (by omega) (by omega)).trans HA
 have p2:W3.cell? ⟨T.TB,2,none⟩=some (.map (some T.LB)):=(cell_blk (ho3 _ hTB nTB) 2).trans hc2
 have q0:W3.cell? ⟨w.heap.size,0,none⟩=some (.int .i64 a):=by rw [cell_of_row _ _ _ _ _ _ hA3];rfl
 have q1:W3.cell? ⟨w.heap.size,1,none⟩=some (.int .i64 b):=by rw [cell_of_row _ _ _ _ _ _ hA3];rfl
 have hmpD:Mp Tryz.prog 81 W3.drew T.LB m es clock:=HD2.out.kept (ho3 _ HD2.out.lt nLB)
 have hQp:=Qr.pop (w':=W3.drew) (R:=fun k=>r k = .qu a b) (xs:=[.slice a0 n0 c0,.int .i64 k1,.int .i64 k2,.slice a3 n3 c3]++rest.flatMap mcells) (by rw [List.length_append,flat_mm];simp;omega) (Nat.succ_pos _) hR h3 h4 h5 H6.out hg3 hcs' hcd'
 have hdrop:([.slice a0 n0 c0,.int .i64 k1,.int .i64 k2,.slice a3 n3 c3]++rest.flatMap mcells:List Value).drop 4=rest.flatMap mcells:=rfl
 rw [hdrop,Nat.succ_sub_one] at hQp
 obtain ⟨es',m1,m2,hm12,hup,hM'⟩:=Mp.put_old Tryz.keyedE Tryz.underlying117 hmpD hlk HV.out (v:=.slice (if cap=1 then some ⟨g,off,none⟩ else some ⟨g,off+4,none⟩) rest.length (cap - 1))
 have FIN:Hid (Tm T r (setBlock W3.drew T.LB (.map es' clock)) Xs (popq qs a b) cls∧Fr r r (W2.alloc (.cells #[.slice a0 n0 c0,.int .i64 k1,.int .i64 k2,.slice a3 n3 c3] 172)) (setBlock W3.drew T.LB (.map es' clock))):=by
  obtain ⟨mm,ess,ck,z1,z2,z3,z4⟩:=HT3.out.l.lk
  refine Tm.pop (w2:=W3.drew) HT3.out hq (by rw [← hm12];exact HD2.out.kept (heap_alloc_old _ _ HD2.out.lt)) ?_ (by rw [← hm12];exact HEV.out) hab hR (fun k hk=>hoth k hk) (by rw [size_alloc'];exact hsz3) hos3.1 hos3.2.1 hos3.2.2 hQp hM'
  rw [← hm12]
  have hmm:mm=m:=by
   have e1:=z1.blk
   have e2:=(HD2.out.kept (w':=W2.alloc (.cells #[.slice a0 n0 c0,.int .i64 k1,.int .i64 k2,.slice a3 n3 c3] 172)) (heap_alloc_old _ _ HD2.out.lt)).blk
   rw [e1] at e2
   injection e2 with e2
   injection e2 with e2 e3
   rw [← z1.ent, ← HD2.out.ent,e2]
  rw [← hmm];exact z3
 unfold pk at hup
 have GX:=Hid.mk' (And.intro hM3 hB3)
 clear hM' hm12 hmpD hQp hdrop HALL HEV HV H6 HD2 HT2 HT3 hcd' hg3 hoth hsz3 hos3 ho3 hA3 hM3 hB3 e0 e1 e2 e3 f0 f1 f2 f3 hc2 ka0 ka1 HA HB HG2
 have hle:(1:Int)≤(rest.length:Int)+1:=by omega
 have END:Hid (∀ W4:World,W4=setBlock W3.drew T.LB (.map es' clock)→W4.heap[W2.heap.size]? = some (.cells #[.slice a0 n0 c0,.int .i64 k1,.int .i64 k2,.slice a3 n3 c3] 172 (0,0))∧W4.heap[w.heap.size+1]? = some (.cells #[.slice none 0 0,.int .i64 0,.int .i64 0,.slice none 0 0] 172 (0,0))∧Tm T r W4 Xs (popq qs a b) cls∧Fr r r w W4):=by
  intro W4 e
  subst e
  have hr1:r (w.heap.size+1) = .no:=Hh.out.b.top _ (Nat.le_succ _)
  have hr2:r W2.heap.size = .no:=Hh.out.b.top _ (by omega)
  have n1:w.heap.size+1≠T.LB:=fun e=>by have:=FIN.out.1.l.lm;rw [← e,hr1] at this;cases this
  have n2:W2.heap.size≠T.LB:=fun e=>by have:=FIN.out.1.l.lm;rw [← e,hr2] at this;cases this
  exact ⟨(setBlock_other n2).trans GX.out.1,(setBlock_other n1).trans GX.out.2,FIN.out.1,(Fr.gr G3.out).trans FIN.out.2⟩
 have LAST:Hid (∀ W4:World,Tm T r W4 Xs (popq qs a b) cls→Fr r r w W4 → ∀ u0 u1 u2 u3:Value,Tm T r ((((W4.setCell ⟨w.heap.size+1,0,none⟩ u0).setCell ⟨w.heap.size+1,1,none⟩ u1).setCell ⟨w.heap.size+1,2,none⟩ u2).setCell ⟨w.heap.size+1,3,none⟩ u3) Xs (popq qs a b) cls∧Fr r r w ((((W4.setCell ⟨w.heap.size+1,0,none⟩ u0).setCell ⟨w.heap.size+1,1,none⟩ u1).setCell ⟨w.heap.size+1,2,none⟩ u2).setCell ⟨w.heap.size+1,3,none⟩ u3)):=by
  intro W4 h1 h2 u0 u1 u2 u3
  have hr1:r (w.heap.size+1) = .no:=Hh.out.b.top _ (Nat.le_succ _)
  exact ⟨(((h1.set hr1 (by omega) _).set hr1 (by omega) _).set hr1 (by omega) _).set hr1 (by omega) _,(((h2.set (Nat.le_succ _) _).set (Nat.le_succ _) _).set (Nat.le_succ _) _).set (Nat.le_succ _) _⟩
 clear FIN GX
 by_cases hc:cap=1
 ·subst hc
  have hr0:rest.length=0:=by omega
  rw [if_pos rfl,hr0,Nat.sub_self] at hup
  go_region
  have E4:=END.out _ rfl
  clear END hup hle
  generalize setBlock W3.drew T.LB (.map es' clock)=W4 at *
  obtain ⟨hm4,hb4,hT4,hF4⟩:=E4
  have u0:W4.cell? ⟨W2.heap.size,0,none⟩=some (.slice a0 n0 c0):=by rw [cell_of_row _ _ _ _ _ _ hm4];rfl
  have u1:W4.cell? ⟨W2.heap.size,1,none⟩=some (.int .i64 k1):=by rw [cell_of_row _ _ _ _ _ _ hm4];rfl
  have u2:W4.cell? ⟨W2.heap.size,2,none⟩=some (.int .i64 k2):=by rw [cell_of_row _ _ _ _ _ _ hm4];rfl
  have u3:W4.cell? ⟨W2.heap.size,3,none⟩=some (.slice a3 n3 c3):=by rw [cell_of_row _ _ _ _ _ _ hm4];rfl
  have v0:W4.cell? ⟨w.heap.size+1,0,none⟩=some (.slice none 0 0):=by rw [cell_of_row _ _ _ _ _ _ hb4];rfl
  have v1:W4.cell? ⟨w.heap.size+1,1,none⟩=some (.int .i64 0):=by rw [cell_of_row _ _ _ _ _ _ hb4];rfl
  have v2:W4.cell? ⟨w.heap.size+1,2,none⟩=some (.int .i64 0):=by rw [cell_of_row _ _ _ _ _ _ hb4];rfl
  have v3:W4.cell? ⟨w.heap.size+1,3,none⟩=some (.slice none 0 0):=by rw [cell_of_row _ _ _ _ _ _ hb4];rfl
  have f0:∀ j,W4.frozen? ⟨w.heap.size+1,j,none⟩=false:=fun j=>frozen_of_row _ _ _ _ _ hb4
  have L4:=Hid.mk' (LAST.out W4 hT4 hF4 (.slice a0 n0 c0) (.int .i64 k1) (.int .i64 k2) (.slice a3 n3 c3))
  clear hT4 hF4 hm4 hb4 LAST
  go_wp2_with fail
  exact bodyPost_ret (v:=.agg #[.slice a0 n0 c0,.int .i64 k1,.int .i64 k2,.slice a3 n3 c3]) (by simp [results,Tryz.results76,go_sem,v0,v1,v2,v3]) rfl ⟨rfl,L4.out⟩
 ·rw [if_neg hc] at hup
  go_region
  have E4:=END.out _ rfl
  clear END hup hle
  generalize setBlock W3.drew T.LB (.map es' clock)=W4 at *
  obtain ⟨hm4,hb4,hT4,hF4⟩:=E4
  have u0:W4.cell? ⟨W2.heap.size,0,none⟩=some (.slice a0 n0 c0):=by rw [cell_of_row _ _ _ _ _ _ hm4];rfl
  have u1:W4.cell? ⟨W2.heap.size,1,none⟩=some (.int .i64 k1):=by rw [cell_of_row _ _ _ _ _ _ hm4];rfl
  have u2:W4.cell? ⟨W2.heap.size,2,none⟩=some (.int .i64 k2):=by rw [cell_of_row _ _ _ _ _ _ hm4];rfl
  have u3:W4.cell? ⟨W2.heap.size,3,none⟩=some (.slice a3 n3 c3):=by rw [cell_of_row _ _ _ _ _ _ hm4];rfl
  have v0:W4.cell? ⟨w.heap.size+1,0,none⟩=some (.slice none 0 0):=by rw [cell_of_row _ _ _ _ _ _ hb4];rfl
  have v1:W4.cell? ⟨w.heap.size+1,1,none⟩=some (.int .i64 0):=by rw [cell_of_row _ _ _ _ _ _ hb4];rfl
  have v2:W4.cell? ⟨w.heap.size+1,2,none⟩=some (.int .i64 0):=by rw [cell_of_row _ _ _ _ _ _ hb4];rfl
  have v3:W4.cell? ⟨w.heap.size+1,3,none⟩=some (.slice none 0 0):=by rw [cell_of_row _ _ _ _ _ _ hb4];rfl
  have f0:∀ j,W4.frozen? ⟨w.heap.size+1,j,none⟩=false:=fun j=>frozen_of_row _ _ _ _ _ hb4
  have L4:=Hid.mk' (LAST.out W4 hT4 hF4 (.slice a0 n0 c0) (.int .i64 k1) (.int .i64 k2) (.slice a3 n3 c3))
  clear hT4 hF4 hm4 hb4 LAST
  go_wp2_with fail
  exact bodyPost_ret (v:=.agg #[.slice a0 n0 c0,.int .i64 k1,.int .i64 k2,.slice a3 n3 c3]) (by simp [results,Tryz.results76,go_sem,v0,v1,v2,v3]) rfl ⟨rfl,L4.out⟩
end Go.Proofs.YtecnfgikbmcgoaaGreat
