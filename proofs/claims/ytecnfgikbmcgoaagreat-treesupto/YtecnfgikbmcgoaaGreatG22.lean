import Derived.Test.YtecnfgikbmcgoaaGreatG21
import Derived.Deep.RegionWith
import Derived.Test.YtecnfgikbmcgoaaGreatG15
import Derived.Test.YtecnfgikbmcgoaaGreatG14
namespace Go.Proofs.YtecnfgikbmcgoaaGreat
open Go.RowKit
open Go.Maps (Keyed)
open Go.ChangeMaps (setBlock)
theorem next_cl {wr:World} {IT CB:Nat} {m:List (Value × Value)} {es:Array MapEntry} {clock:Nat} {seen:Array Nat} (h:Mp Tryz.prog 3 wr CB m es clock) (hit:wr.heap[IT]? = some (.mapIter (some CB) clock seen clock)) :
  ((leftOf es seen).size=0 ∧ ∀ ty,(Instr.next (.pointer (some ⟨IT,0,none⟩)) false ty).run Tryz.prog wr = .ok (.tuple #[.bool false]) wr) ∨
  ∃ e∈(leftOf es seen).toList,∃ W2:World,(∀ ty,(Instr.next (.pointer (some ⟨IT,0,none⟩)) false ty).run Tryz.prog wr = .ok (.tuple #[.bool true,e.key,e.val]) W2)∧(Instr.entry (.pointer (some ⟨IT,0,none⟩))).run Tryz.prog W2 = .ok (.tuple #[e.key,e.val]) W2 ∧
   W2.heap[IT]? = some (.mapIter (some CB) clock (seen.push e.born) clock)∧(∀ k,k≠IT→W2.heap[k]? = wr.heap[k]?)∧W2.heap.size=wr.heap.size∧W2.os=wr.os∧W2.tape=wr.tape∧W2.output=wr.output:=by
 rcases run_next_at (P:=Tryz.prog) wr 0 IT CB clock clock seen es clock hit h.blk h.brn (Nat.le_refl _) with ⟨h0,hr⟩ | ⟨e,he,w1,hw1,hr⟩
 ·exact Or.inl ⟨h0,fun _=>hr⟩
 ·have hne:CB≠IT:=by
   intro e'
   have:=h.blk
   rw [e',hit] at this;cases this
  have hh:w1.heap=wr.heap∧w1.os=wr.os∧w1.tape=wr.tape∧w1.output=wr.output:=by rcases hw1 with rfl | rfl <;> exact ⟨rfl,rfl,rfl,rfl⟩
  have hit1:w1.heap[IT]? = some (.mapIter (some CB) clock seen clock):=by rw [hh.1];exact hit
  refine Or.inr ⟨e,he,setBlock w1 IT (.mapIter (some CB) clock (seen.push e.born) clock),fun _=>hr,?_,setBlock_get hit1,fun k hk=>by rw [setBlock_other hk,hh.1],by simp [setBlock,hh.1],hh.2.1,hh.2.2.1,hh.2.2.2⟩
  refine run_entry_at _ IT CB clock seen es clock e (setBlock_get hit1) ?_ (mem_left he).1 h.bnd
  rw [setBlock_other hne,hh.1];exact h.blk
theorem Tm.iter {T:Tc} {r:Nat→Rl} {w w':World} {Xs:Nat→List Hm} {qs:Nat→Nat→List Mm} {cls:List Cl} (h:Tm T r w Xs qs cls) {IT:Nat} (hr:r IT = .no) (h0:IT≠0) (ho:∀ k,k≠IT→w'.heap[k]? = w.heap[k]?) (hs:w'.heap.size=w.heap.size) (e1:w'.os=w.os) (e2:w'.tape=w.tape) (e3:w'.output=w.output):Tm T r w' Xs qs cls∧Fr (fun k=>if k=IT then .cm else .no) (fun k=>if k=IT then .cm else .no) w w':=by
 have F:Fr (fun k=>if k=IT then .cm else .no) (fun k=>if k=IT then .cm else .no) w w':=⟨e1,e2,e3,by rw [hs];exact Nat.le_refl _,fun k _ hk=>ho k (fun e=>by rw [if_pos e] at hk;rcases hk with hk | hk <;> cases hk),fun _ _=>rfl⟩
 refine ⟨h.apart F (fun k=>?_) (if_neg (fun e=>h0 e.symm)),F⟩
 by_cases hk:k=IT
 ·exact Or.inl (by rw [hk];exact hr)
 ·exact Or.inr (if_neg hk)
theorem Vs.lost {cls cls':List Cl} {dn:List Int} {l:List Hw} {fr:Bool × Int} {e:List Atr} (h:Vs cls cls' dn l fr e) {B:Int} (hl:∀ c∈cls,0≤c.lost∧c.lost<B):∀ c∈cls',0≤c.lost∧c.lost<B+1:=by
 intro c hc
 have:pcOf c∈(cls.map pcOf).map (hrsN dn l fr e):=by rw [← h.pc];exact List.mem_map_of_mem hc
 obtain ⟨d,hd,he⟩:=List.mem_map.1 this
 obtain ⟨x,hx,rfl⟩:=List.mem_map.1 hd
 have h1:=hl x hx
 have h2:=hearAt_lost (mt:=mat) l fr e (pcOf x)
 have h3:c.lost=(hrsN dn l fr e (pcOf x)).lost:=by rw [he];rfl
 have h4:(pcOf x).lost=x.lost:=rfl
 unfold hrsN at h3
 split at h3 <;> omega
def frn (fr:Bool × Int):Int:=if fr.1 then -1 else fr.2
def SpP (T:Tc) (r:Nat→Rl) (w:World) (cls:List Cl) (s:Ts) (b:Nat) (fr:Bool × Int) (e:List Atr) (w':World):Prop:=∃ r' cls',Tw T r' w' cls' (s.come T.adj mat b (frn fr) e)∧cls'.map pcOf=(cls.map pcOf).map (hearAt mat (s.held b) fr e)∧Fr r r' w w'
def outE (l:List Hw) (fr:Bool × Int) (e:List Atr) (n:Nat):List (Ms (List Wnt) (List Atr)):=if (false,(n:Int))≠fr∧asksP mat l (false,(n:Int)) e=true then [.ev e] else []
theorem side_ne {fr:Bool × Int} {n:Nat}:(false,(n:Int))≠fr↔(n:Int)≠frn fr:=by
 unfold frn
 obtain ⟨f1,f2⟩:=fr
 cases f1 with
 | true=>simp
 | false=>simp
theorem vw_come {T:Tc} {Xs:Nat→List Hm} {qs qs':Nat→Nat→List Mm} {s:Ts} (v:Vw T Xs qs s) (hadj:∀ a b,T.adj a b=true→a<T.nb∧b<T.nb) {b:Nat} {fr:Bool × Int} {e:List Atr}
  (hq:∀ x y,(qs' x y).map Mm.ms=outB (fun x y=>(qs x y).map Mm.ms) b (outE (s.held b) fr e) (nbs T.adj T.nb b T.nb) x y):Vw T Xs qs' (s.come T.adj mat b (frn fr) e):=by
 refine ⟨v.held,fun x y=>?_⟩
 rw [hq x y]
 simp only [TS.come,outB]
 rw [← v.q]
 by_cases hx:x=b
 ·subst hx
  by_cases hy:T.adj x y=true
  ·have hm:y∈nbs T.adj T.nb x T.nb:=nbs_mem.2 ⟨(hadj x y hy).2,(hadj x y hy).2,hy⟩
   rw [if_pos (c:=x=x∧y∈_) ⟨rfl,hm⟩]
   unfold outE
   rw [asks_nb]
   by_cases hc:(false,(y:Int))≠fr∧((s.held x).any fun h=>h.fr==(y:Int)&&mat e h.f)=true
   ·rw [if_pos hc,if_pos ⟨rfl,hy,side_ne.1 hc.1,hc.2⟩]
   ·rw [if_neg hc,if_neg (fun e=>hc ⟨side_ne.2 e.2.2.1,e.2.2.2⟩),List.append_nil]
  ·rw [if_neg (fun e=>hy e.2.1),if_neg (fun e=>hy (nbs_mem.1 e.2).2.2),List.append_nil]
 ·rw [if_neg (fun e=>hx e.1),if_neg (fun e=>hx e.1),List.append_nil]
set_option maxRecDepth 100000 in
set_option maxHeartbeats 4000000 in
theorem spread_w (T:Tc) (r:Nat→Rl) (w:World) (Xs:Nat→List Hm) (qs:Nat→Nat→List Mm) (cls:List Cl) (s:Ts) (b:Nat) (fr:Bool × Int) (e:List Atr) (ad:Option Addr) (cap:Nat)
  (hT:Tm T r w Xs qs cls) (v:Vw T Xs qs s) (hb:b<T.nb) (he:EvR r w ad e) (hm:Sm T s) (hl:∀ c∈cls,0≤c.lost∧c.lost<4611686018427387903) :
  Calls Tryz.prog 54 #[.pointer (some ⟨T.TB,0,none⟩),.int .i64 b,.agg #[.bool fr.1,.int .i64 fr.2],.slice ad e.length cap] w fun x w'=>x = .returned (.tuple #[])∧SpP T r w cls s b fr e w':=by
 obtain ⟨es,clock,hmp⟩:=hT.k.mp
 have ga:Gr w (w.alloc (.cells #[.bool fr.1,.int .i64 fr.2] 142)):=(Gr.refl w).alloc _
 have hrg:=run_range_map (P:=Tryz.prog) (w.alloc (.cells #[.bool fr.1,.int .i64 fr.2] 142)) 116 3 113 T.CB es clock Tryz.underlying116 ((hmp.kept (ga.block _ hmp.lt)).blk)
 have hsz:(w.alloc (.cells #[.bool fr.1,.int .i64 fr.2] 142)).heap.size=w.heap.size+1:=by simp
 rw [hsz] at hrg
 have c1:=(hT.gr ga).b.c1
 have HT:=Hid.mk' hT
 have HV:=Hid.mk' v
 have HE:=Hid.mk' he
 have HM:=Hid.mk' hm
 have HL:=Hid.mk' hl
 have HMP:=Hid.mk' hmp
 have GA:=Hid.mk' ga
 clear hT v he hm hl hmp ga hsz
 go_enter Tryz.func54,Tryz.ntmps54
 go_wp2_with fail
 have H0:=Hid.mk' (blk_gr ((Gr.refl _).alloc (.mapIter (some T.CB) clock #[] clock)) (heap_alloc_new w (.cells #[.bool fr.1,.int .i64 fr.2] 142)))
 have I0:Hid (((w.alloc (.cells #[.bool fr.1,.int .i64 fr.2] 142)).alloc (.mapIter (some T.CB) clock #[] clock)).heap[w.heap.size+1]? = some (.mapIter (some T.CB) clock #[] clock)):=by
  have:=heap_alloc_new (w.alloc (.cells #[.bool fr.1,.int .i64 fr.2] 142)) (.mapIter (some T.CB) clock #[] clock)
  rw [show (w.alloc (.cells #[.bool fr.1,.int .i64 fr.2] 142)).heap.size=w.heap.size+1 by simp] at this
  exact this
 have G0:=Hid.mk' (GA.out.alloc (.mapIter (some T.CB) clock #[] clock))
 have M0:=Hid.mk' (HMP.out.kept (G0.out.block _ HMP.out.lt))
 have T0:=Hid.mk' (HT.out.gr G0.out)
 have N0:Hid (r (w.heap.size+1) = .no∧r w.heap.size = .no):=⟨HT.out.b.top _ (Nat.le_succ _),HT.out.b.top _ (Nat.le_refl _)⟩
 have HW0:=HT.out.b.ml.pos
 clear hrg GA c1
 go_loopw [] (fun wr=>∃ (seen:Array Nat) (dn:List Int) (r':Nat→Rl) (cls':List Cl),Hid (wr.heap[w.heap.size+1]? = some (.mapIter (some T.CB) clock seen clock))∧Hid (wr.heap[w.heap.size]? = some (.cells #[.bool fr.1,.int .i64 fr.2] 142 (0,0)))∧Hid (Tm T r' wr Xs qs cls')∧Hid (Fr r r' w wr)∧Hid (r' (w.heap.size+1) = .no∧r' w.heap.size = .no) ∧
  Hid (Mp Tryz.prog 3 wr T.CB (cls.map cv) es clock)∧Hid (Vs cls cls' dn (s.held b) fr e)∧Hid (Dn es seen dn)) (fun wr=>(leftOf es (wr.iterSeen (w.heap.size+1))).size)
 case atStart=>exact ⟨#[],[],r,cls,I0,H0,T0,Fr.gr G0.out,N0,M0,Vs.init,fun e _=>by simp⟩
 case round =>
  clear I0 H0 T0 G0 M0
  obtain ⟨seen,dn,r',cls',IT,B1,T1,F1,N1,M1,V1,D1⟩:=hrel
  have HMS:Hid (leftOf es (wr.iterSeen (w.heap.size+1))=leftOf es seen):=by show _=_;unfold World.iterSeen;rw [IT.out]
  rcases next_cl M1.out IT.out with ⟨h0,hnx⟩ | ⟨e0,he0,W2,hnx,hen,hit2,hoth,hsz2,o1,o2,o3⟩
  ·have DONE:Hid (cls'.map pcOf=(cls.map pcOf).map (hearAt mat (s.held b) fr e)):=V1.out.all (fun c hc=>by
    have:cv c∈es.toList.map (fun e=>(e.key,e.val)):=by rw [M1.out.ent];exact List.mem_map_of_mem hc
    obtain ⟨e1,he1,hee⟩:=List.mem_map.1 this
    obtain ⟨n,hn,hk⟩:=(D1.out e1 he1).1 (all_seen es seen h0 e1 he1)
    injection hee with h1 h2
    rw [hk] at h1
    injection h1 with _ h1
    rw [← h1];exact hn)
   have NBS:=Hid.mk' (ho_neighbours (T:=T) (r:=r') (w0:=wr) (Xs:=Xs) (cls:=cls') (base:=fun x y=>(qs x y).map Mm.ms) ⟨r',qs,T1.out,Fr.refl _ _,fun _ _=>rfl⟩ hb)
   have NMEM:Hid (∀ n,n∈nbs T.adj T.nb b T.nb→n<T.nb∧T.adj b n=true):=fun n hn=>(nbs_mem.1 hn).2
   have NND:=Hid.mk' (nbs_nd T.adj T.nb b T.nb)
   have NLE:=nbs_le T.adj T.nb b T.nb
   have HNB:=T1.out.b.nb8
   have VC:Hid (∀ qs':Nat→Nat→List Mm,(∀ x y,(qs' x y).map Mm.ms=outB (fun x y=>(qs x y).map Mm.ms) b (outE (s.held b) fr e) (nbs T.adj T.nb b T.nb) x y)→Vw T Xs qs' (s.come T.adj mat b (frn fr) e)):=fun qs' h=>vw_come HV.out HT.out.b.adj h
   clear h0 M1 V1 D1 HMS IT
   generalize nbs T.adj T.nb b T.nb=NB at *
   go_wp2_with fail
   refine NBS.out.mono ?_
   rintro x w1 ⟨v,rfl,ho,g1⟩
   obtain ⟨va,vk,rfl,hva⟩:=owns_shape ho
   have O1:=Hid.mk' ho
   have H1:Hid (Ho T r' w1 Xs cls' (outB (fun x y=>(qs x y).map Mm.ms) b (outE (s.held b) fr e) (NB.take 0)) w1):=⟨r',qs,T1.out.gr g1,Fr.refl _ _,fun x y=>by rw [List.take_zero,outB_nil]⟩
   have HVA:=Hid.mk' hva
   have B3:=Hid.mk' (blk_gr g1 B1.out)
   have F3:=Hid.mk' (F1.out.trans (Fr.gr (r:=r') g1))
   have TOP:=Hid.mk' T1.out.b.top
   have G1:=Hid.mk' g1
   clear NBS ho g1 hva B1
   go_wp2_with fail
   go_loopw [43] (fun i w2=>∃ q:Nat,q≤NB.length∧i = .int .i64 q∧Hid (Ho T r' w1 Xs cls' (outB (fun x y=>(qs x y).map Mm.ms) b (outE (s.held b) fr e) (NB.take q)) w2)) (fun i _=>NB.length - (intOf i).toNat)
   case atStart=>exact ⟨0,Nat.zero_le _,rfl,H1⟩
   case round =>
    obtain ⟨q,hq,rfl,HO⟩:=hrel
    clear H1
    by_cases hlt:q<NB.length
    ·obtain ⟨vb,rfl⟩:=HVA.out (by omega)
     have hB:=HO.out.blk B3.out (Or.inl N1.out.2)
     have b0:wr.cell? ⟨w.heap.size,0,none⟩=some (.bool fr.1):=by rw [cell_of_row _ _ _ _ _ _ hB];rfl
     have b1:wr.cell? ⟨w.heap.size,1,none⟩=some (.int .i64 fr.2):=by rw [cell_of_row _ _ _ _ _ _ hB];rfl
     have hws:=blk_lt hB
     have cq:wr.cell? ⟨vb,q,none⟩=some (.int .i64 (nat_ NB q)):=by
      obtain ⟨r2,qs',z1,z2,z3⟩:=HO.out
      rw [World.ownsRow.cellAt (z2.owns O1.out TOP.out) q (by omega)];simp [ints,nat_,hlt]
     have hmem:=NMEM.out _ (nat_mem hlt)
     have STEP:=Hid.mk' (outB_step (q:=fun x y=>(qs x y).map Mm.ms) (b:=b) (out:=outE (s.held b) fr e) NND.out hlt)
     have LEN:=Hid.mk' (outB_len (q:=fun x y=>(qs x y).map Mm.ms) (b:=b) (out:=outE (s.held b) fr e) NND.out hlt)
     have hlq:(qs b (nat_ NB q)).length<549755813888:=by rw [vw_qlen HV.out];exact HM.out.q _ _
     clear hB
     generalize nat_ NB q=n at *
     have GX:=Hid.mk' ((Gr.refl wr).alloc (.cells #[.bool false,.int .i64 n] 142))
     have SKIP:Hid (¬ ((false,(n:Int))≠fr∧asksP mat (s.held b) (false,(n:Int)) e=true) → ∀ w',Gr wr w'→Ho T r' w1 Xs cls' (outB (fun x y=>(qs x y).map Mm.ms) b (outE (s.held b) fr e) (NB.take (q+1))) w'):=fun hno w' g=>(HO.out.gr g).cong fun x y=>by
      rw [STEP.out x y]
      have:(if x=b∧y=n then outE (s.held b) fr e y else [])=[]:=by
       split
       ·rename_i hh;rw [hh.2];exact if_neg hno
       ·rfl
      rw [this,List.append_nil]
     by_cases hA:(false,(n:Int))=fr
     ·have SK:=Hid.mk' (SKIP.out (fun h=>h.1 hA) _ GX.out)
      obtain ⟨h1,h2⟩:fr.1=false∧fr.2=(n:Int):=by rw [← hA];exact ⟨rfl,rfl⟩
      clear SKIP
      rw [h1] at b0
      rw [h2] at b1
      clear h1 h2
      go_wp2_with fail
      exact ⟨⟨q+1,hlt,by simp,SK⟩,measM_dec _ _ hlt⟩
     ·have EVW:Hid (∀ r2 w',Fr r' r2 w1 w'→EvR r2 w' ad e):=fun r2 w' k=>by
       have k2:=F3.out.trans k
       exact HE.out.keep k2.size (fun i hi hr=>k2.keep i hi (Or.inr hr)) k2.same
      have AK:Hid (∀ W,Gr wr W→Calls Tryz.prog 90 #[.pointer (some ⟨T.TB,0,none⟩),.int .i64 b,.agg #[.bool false,.int .i64 n],.slice ad e.length cap] W fun x w'=>x = .returned (.bool (asksP mat (s.held b) (false,(n:Int)) e))∧Gr W w'):=fun W g=>by
       obtain ⟨r2,qs',z1,z2,z3⟩:=HO.out.gr g
       exact tm_asks z1 hb (HV.out.held b hb) (Nat.le_trans (vw_len HT.out HV.out hb) (HM.out.h b hb)) (false,(n:Int)) e ad cap (EVW.out r2 W z2).m
      have SEND:Hid ((false,(n:Int))≠fr∧asksP mat (s.held b) (false,(n:Int)) e=true → ∀ W,Gr wr W→Calls Tryz.prog 80 #[.pointer (some ⟨T.TB,0,none⟩),.int .i64 b,.int .i64 n,.agg #[.slice ad e.length cap,.int .i64 0,.int .i64 0,.slice none 0 0]] W fun x w'=>x = .returned (.tuple #[])∧Ho T r' w1 Xs cls' (outB (fun x y=>(qs x y).map Mm.ms) b (outE (s.held b) fr e) (NB.take (q+1))) w'):=fun hyes W g=>by
       refine (ho_send (HO.out.gr g) hmem.2 ⟨.ev e,ad,cap⟩ (m0:=.slice ad e.length cap) (m1:=.int .i64 0) (m2:=.int .i64 0) (m3:=.slice none 0 0) rfl (fun r2 qs' _ z=>EVW.out r2 W z) (by rw [LEN.out,List.length_map];omega)).mono ?_
       rintro x w' ⟨h1,h2⟩
       refine ⟨h1,h2.cong fun x y=>?_⟩
       rw [STEP.out x y]
       by_cases hxy:x=b∧y=n
       ·rw [if_pos hxy,if_pos hxy,hxy.2]
        congr 1
        exact (if_pos hyes).symm
       ·rw [if_neg hxy,if_neg hxy]
      clear EVW
      by_cases hf1:fr.1=true
      ·rw [hf1] at b0
       clear hf1
       go_wp2_with fail
       refine (AK.out _ GX.out).mono ?_
       cases hask:asksP mat (s.held b) (false,(n:Int)) e with
       | false =>
        rintro x w3 ⟨rfl,g3⟩
        have Z2:=Hid.mk' (SKIP.out (fun h=>by rw [hask] at h;cases h.2) w3 (Gr.call GX.out g3))
        clear SKIP AK SEND g3 b0 b1 cq
        go_wp2_with fail
        exact ⟨⟨q+1,hlt,by simp,Z2⟩,measM_dec _ _ hlt⟩
       | true =>
        rintro x w3 ⟨rfl,g3⟩
        have SN:=Hid.mk' (SEND.out ⟨hA,hask⟩ w3 (Gr.call GX.out g3))
        clear SKIP AK SEND g3 b0 b1 cq
        go_wp2_with fail
        refine SN.out.mono ?_
        rintro x w4 ⟨rfl,h4⟩
        have Z2:=Hid.mk' h4
        clear SN h4
        go_wp2_with fail
        exact ⟨⟨q+1,hlt,by simp,Z2⟩,measM_dec _ _ hlt⟩
      ·replace hf1:fr.1=false:=by simpa using hf1
       rw [hf1] at b0
       have hne:((n:Int)==fr.2)=false:=by
        have:(n:Int)≠fr.2:=fun h=>hA (by rw [h, ← hf1])
        simpa using this
       clear hf1
       go_wp2_with fail
       refine (AK.out _ GX.out).mono ?_
       cases hask:asksP mat (s.held b) (false,(n:Int)) e with
       | false =>
        rintro x w3 ⟨rfl,g3⟩
        have Z2:=Hid.mk' (SKIP.out (fun h=>by rw [hask] at h;cases h.2) w3 (Gr.call GX.out g3))
        clear SKIP AK SEND g3 b0 b1 cq
        go_wp2_with fail
        exact ⟨⟨q+1,hlt,by simp,Z2⟩,measM_dec _ _ hlt⟩
       | true =>
        rintro x w3 ⟨rfl,g3⟩
        have SN:=Hid.mk' (SEND.out ⟨hA,hask⟩ w3 (Gr.call GX.out g3))
        clear SKIP AK SEND g3 b0 b1 cq
        go_wp2_with fail
        refine SN.out.mono ?_
        rintro x w4 ⟨rfl,h4⟩
        have Z2:=Hid.mk' h4
        clear SN h4
        go_wp2_with fail
        exact ⟨⟨q+1,hlt,by simp,Z2⟩,measM_dec _ _ hlt⟩
    ·have hqe:q=NB.length:=by omega
     subst hqe
     rw [List.take_length] at HO
     go_wp2_with fail
     refine bodyPost_end (v:=.tuple #[]) (by simp [results,Tryz.results54,go_sem]) rfl ⟨rfl,?_⟩
     obtain ⟨r2,qs',z1,z2,z3⟩:=HO.out
     exact ⟨r2,cls',⟨Xs,qs',z1,VC.out qs' z3⟩,DONE.out,F3.out.trans z2⟩
  ·have hcv:(e0.key,e0.val)∈cls.map cv:=M1.out.mem (mem_left he0).1
   obtain ⟨c,hc,hce⟩:=List.mem_map.1 hcv
   have hk:e0.key = .int .i64 c.num:=by injection hce with h1 h2;exact h1.symm
   have hv':e0.val = .pointer (some ⟨c.blk,0,none⟩):=by injection hce with h1 h2;exact h2.symm
   rw [hk,hv'] at hnx hen
   obtain ⟨m1,c1,m2,rfl,hn1,hb1⟩:=V1.out.at_ hc
   have hns:c1.num ∉ dn:=fun hn=>by
    have:=(D1.out e0 (mem_left he0).1).2 ⟨c1.num,hn,by rw [hn1];exact hk⟩
    rw [(mem_left he0).2] at this;cases this
   have hapart:∀ x,x∈m1∨x∈m2→x.num≠c1.num:=fun x hx=>T1.out.apartC hx
   have hinj:∀ e2∈es.toList,e2.key = .int .i64 c1.num→e2=e0:=fun e2 he2 h2=>by
    have hd:=M1.out.nod
    rw [← M1.out.ent,List.map_map] at hd
    exact inj_map hd he2 (mem_left he0).1 (by show e2.key=e0.key;rw [h2,hk,hn1])
   have DN2:=Hid.mk' (D1.out.push M1.out.bnd (mem_left he0).1 (by rw [hn1];exact hk) hinj)
   have TI:=T1.out.iter N1.out.1 (Nat.succ_ne_zero _) hoth hsz2 o1 o2 o3
   have T2:=Hid.mk' TI.1
   have IT2:=Hid.mk' hit2
   have B2:Hid (W2.heap[w.heap.size]? = some (.cells #[.bool fr.1,.int .i64 fr.2] 142 (0,0))):=(hoth _ (by omega)).trans B1.out
   have F2:Hid (Fr r r' w W2):=⟨o1.trans F1.out.os,o2.trans F1.out.tape,o3.trans F1.out.output,by rw [hsz2];exact F1.out.size,fun k hk2 hr=>(hoth k (by omega)).trans (F1.out.keep k hk2 hr),F1.out.same⟩
   have M2:Hid (Mp Tryz.prog 3 W2 T.CB (cls.map cv) es clock):=M1.out.kept (hoth _ (fun h=>by have:=T1.out.k.cm;rw [h,N1.out.1] at this;cases this))
   have hW2:w.heap.size+2≤W2.heap.size:=blk_lt IT2.out
   have LS:=V1.out.lost HL.out c1 (List.mem_append.2 (Or.inr List.mem_cons_self))
   have HLS:=Hid.mk' LS
   have HNS:=Hid.mk' hns
   have HAP:Hid (∀ x,x∈m1∨x∈m2→x.num≠c1.num):=hapart
   rw [← hn1, ← hb1] at hnx hen
   have SHR:=Hid.mk' (left_shrinks es seen e0 he0)
   clear hcv hce hk hv' hc hn1 hb1 hns hapart hinj TI hit2 hoth hsz2 o1 o2 o3 he0 LS M1 T1 F1 B1 IT D1
   have END:Hid (∀ (c2:Cl) (r2:Nat→Rl) (w':World),Tm T r2 w' Xs qs (m1++c2::m2)→Fr r' r2 W2 w'→Vs cls (m1++c2::m2) (c1.num::dn) (s.held b) fr e→w'.heap[T.CB]? = W2.heap[T.CB]? →
     (∃ (seen:Array Nat) (dn:List Int) (r':Nat→Rl) (cls':List Cl),Hid (w'.heap[w.heap.size+1]? = some (.mapIter (some T.CB) clock seen clock))∧Hid (w'.heap[w.heap.size]? = some (.cells #[.bool fr.1,.int .i64 fr.2] 142 (0,0)))∧Hid (Tm T r' w' Xs qs cls')∧Hid (Fr r r' w w')∧Hid (r' (w.heap.size+1) = .no∧r' w.heap.size = .no) ∧
      Hid (Mp Tryz.prog 3 w' T.CB (cls.map cv) es clock)∧Hid (Vs cls cls' dn (s.held b) fr e)∧Hid (Dn es seen dn))∧(leftOf es (w'.iterSeen (w.heap.size+1))).size<(leftOf es (wr.iterSeen (w.heap.size+1))).size):=by
    intro c2 r2 w' t2 f2 v2 m2'
    have hi:w'.heap[w.heap.size+1]? = some (.mapIter (some T.CB) clock (seen.push e0.born) clock):=(f2.keep _ (by omega) (Or.inl N1.out.1)).trans IT2.out
    refine ⟨⟨_,_,r2,_,hi,(f2.keep _ (by omega) (Or.inl N1.out.2)).trans B2.out,t2,F2.out.trans f2,⟨(f2.same _ (by omega)).trans N1.out.1,(f2.same _ (by omega)).trans N1.out.2⟩,M2.out.kept m2',v2,DN2.out⟩,?_⟩
    rw [HMS.out]
    unfold World.iterSeen
    rw [hi]
    exact SHR.out
   have b0:W2.cell? ⟨w.heap.size,0,none⟩=some (.bool fr.1):=by rw [cell_of_row _ _ _ _ _ _ B2.out];rfl
   have b1:W2.cell? ⟨w.heap.size,1,none⟩=some (.int .i64 fr.2):=by rw [cell_of_row _ _ _ _ _ _ B2.out];rfl
   have hlt2:w.heap.size<W2.heap.size:=by omega
   have GX:=Hid.mk' ((Gr.refl W2).alloc (.cells #[.bool true,.int .i64 c1.num] 142))
   have hCB:T.CB<W2.heap.size:=M2.out.lt
   by_cases hA:(true,c1.num)=fr
   ·have SK:=Hid.mk' (END.out c1 r' _ (T2.out.gr GX.out) (Fr.gr GX.out) (V1.out.skip HNS.out HAP.out (fun h=>h.1 hA)) (GX.out.block _ hCB))
    obtain ⟨h1,h2⟩:fr.1=true∧fr.2=c1.num:=by rw [← hA];exact ⟨rfl,rfl⟩
    clear END
    rw [h1] at b0
    rw [h2] at b1
    go_wp2_with fail
    exact SK.out
   ·have EV:Hid (∀ W,Fr r' r' W2 W→EvR r' W ad e):=fun W k=>by
     have k2:=F2.out.trans k
     exact HE.out.keep k2.size (fun i hi hr=>k2.keep i hi (Or.inr hr)) k2.same
    have AK:Hid (∀ W,Gr W2 W→Calls Tryz.prog 90 #[.pointer (some ⟨T.TB,0,none⟩),.int .i64 b,.agg #[.bool true,.int .i64 c1.num],.slice ad e.length cap] W fun x w'=>x = .returned (.bool (asksP mat (s.held b) (true,c1.num) e))∧Gr W w'):=fun W g =>
     tm_asks (T2.out.gr g) hb (HV.out.held b hb) (Nat.le_trans (vw_len T2.out HV.out hb) (HM.out.h b hb)) (true,c1.num) e ad cap (EV.out W (Fr.gr g)).m
    have HR:Hid (∀ W,Gr W2 W→Calls Tryz.prog 91 #[.pointer (some ⟨c1.blk,0,none⟩),.slice ad e.length cap] W fun x w'=>x = .returned (.tuple #[])∧(∃ r2 c2,(Tm T r2 w' Xs qs (m1++c2::m2)∧Fr r' r2 W w')∧HrC c1 c2 e)∧w'.heap[T.CB]? = W.heap[T.CB]?):=fun W g =>
     hear_t T r' W Xs qs m1 m2 c1 e ad cap (T2.out.gr g) (EV.out W (Fr.gr g)) ⟨HLS.out.1,by have:=HLS.out.2;omega⟩
    have FIN:Hid (∀ W w',Gr W2 W→Gr W w' → ∀ q:Bool,asksP mat (s.held b) (true,c1.num) e=q→q=false→(Tm T r' w' Xs qs (m1++c1::m2)∧Fr r' r' W2 w'∧Vs cls (m1++c1::m2) (c1.num::dn) (s.held b) fr e∧w'.heap[T.CB]? = W2.heap[T.CB]?)):=fun W w' g g' q hq hq0 =>
     ⟨T2.out.gr (Gr.call g g'),Fr.gr (Gr.call g g'),V1.out.skip HNS.out HAP.out (fun h=>by rw [hq,hq0] at h;cases h.2),(Gr.call g g').block _ hCB⟩
    have TAKE:Hid (∀ W w',Gr W2 W→asksP mat (s.held b) (true,c1.num) e=true→(∃ r2 c2,(Tm T r2 w' Xs qs (m1++c2::m2)∧Fr r' r2 W w')∧HrC c1 c2 e)∧w'.heap[T.CB]? = W.heap[T.CB]? →
      ∃ c2 r2,Tm T r2 w' Xs qs (m1++c2::m2)∧Fr r' r2 W2 w'∧Vs cls (m1++c2::m2) (c1.num::dn) (s.held b) fr e∧w'.heap[T.CB]? = W2.heap[T.CB]?):=by
     rintro W w' g ha ⟨⟨r2,c2,⟨t,f⟩,hh⟩,hcb⟩
     refine ⟨c2,r2,t,(Fr.gr g).trans f,V1.out.turn HNS.out HAP.out ?_ hh.blk,hcb.trans (g.block _ hCB)⟩
     rw [pc_hear hh]
     unfold hearAt
     rw [if_pos ⟨hA,ha⟩]
    clear EV
    by_cases hf1:fr.1=false
    ·rw [hf1] at b0
     clear hf1
     go_wp2_with fail
     refine (AK.out _ GX.out).mono ?_
     cases hask:asksP mat (s.held b) (true,c1.num) e with
     | false =>
      rintro x w3 ⟨rfl,g3⟩
      have Z1:=FIN.out _ w3 GX.out g3 _ hask rfl
      have Z2:=Hid.mk' (END.out c1 r' w3 Z1.1 Z1.2.1 Z1.2.2.1 Z1.2.2.2)
      clear END FIN TAKE AK HR Z1 g3 b0 b1
      go_wp2_with fail
      exact Z2.out
     | true =>
      rintro x w3 ⟨rfl,g3⟩
      have HR3:=Hid.mk' (HR.out w3 (Gr.call GX.out g3))
      have TK3:=Hid.mk' (fun w'=>TAKE.out w3 w' (Gr.call GX.out g3) hask)
      clear FIN TAKE AK HR g3 b0 b1
      go_wp2_with fail
      refine HR3.out.mono ?_
      rintro x w4 ⟨rfl,h4⟩
      obtain ⟨c2,r2,z1,z2,z3,z4⟩:=TK3.out w4 h4
      have Z2:=Hid.mk' (END.out c2 r2 w4 z1 z2 z3 z4)
      clear END TK3 HR3 h4 z1 z2 z3 z4
      go_wp2_with fail
      exact Z2.out
    ·replace hf1:fr.1=true:=by simpa using hf1
     rw [hf1] at b0
     have hne:(c1.num==fr.2)=false:=by
      have:c1.num≠fr.2:=fun h=>hA (by rw [h, ← hf1])
      simpa using this
     clear hf1
     go_wp2_with fail
     refine (AK.out _ GX.out).mono ?_
     cases hask:asksP mat (s.held b) (true,c1.num) e with
     | false =>
      rintro x w3 ⟨rfl,g3⟩
      have Z1:=FIN.out _ w3 GX.out g3 _ hask rfl
      have Z2:=Hid.mk' (END.out c1 r' w3 Z1.1 Z1.2.1 Z1.2.2.1 Z1.2.2.2)
      clear END FIN TAKE AK HR Z1 g3 b0 b1
      go_wp2_with fail
      exact Z2.out
     | true =>
      rintro x w3 ⟨rfl,g3⟩
      have HR3:=Hid.mk' (HR.out w3 (Gr.call GX.out g3))
      have TK3:=Hid.mk' (fun w'=>TAKE.out w3 w' (Gr.call GX.out g3) hask)
      clear FIN TAKE AK HR g3 b0 b1
      go_wp2_with fail
      refine HR3.out.mono ?_
      rintro x w4 ⟨rfl,h4⟩
      obtain ⟨c2,r2,z1,z2,z3,z4⟩:=TK3.out w4 h4
      have Z2:=Hid.mk' (END.out c2 r2 w4 z1 z2 z3 z4)
      clear END TK3 HR3 h4 z1 z2 z3 z4
      go_wp2_with fail
      exact Z2.out
end Go.Proofs.YtecnfgikbmcgoaaGreat
namespace Go.Proofs.YtecnfgikbmcgoaaGreat
open Go.RowKit
set_option maxRecDepth 100000 in
set_option maxHeartbeats 4000000 in
theorem arrive_ev (T:Tc) (r:Nat→Rl) (w:World) (Xs:Nat→List Hm) (qs:Nat→Nat→List Mm) (cls:List Cl) (s:Ts) (a b:Nat) (e:List Atr) (ad:Option Addr) (cap:Nat)
  (hT:Tm T r w Xs qs cls) (v:Vw T Xs qs s) (hb:b<T.nb) (he:EvR r w ad e) (hm:Sm T s) (hl:∀ c∈cls,0≤c.lost∧c.lost<4611686018427387903) :
  Calls Tryz.prog 75 #[.pointer (some ⟨T.TB,0,none⟩),.agg #[.int .i64 a,.int .i64 b],.agg #[.slice ad e.length cap,.int .i64 0,.int .i64 0,.slice none 0 0]] w fun x w'=>x = .returned (.tuple #[])∧SpP T r w cls s b (false,(a:Int)) e w':=by
 obtain ⟨fb,fo,hfa,_⟩:=he.r
 have HT:=Hid.mk' hT
 have HV:=Hid.mk' v
 have HE:=Hid.mk' he
 have HM:=Hid.mk' hm
 have HL:=Hid.mk' hl
 clear hT v he hm hl
 subst hfa
 go_enter Tryz.func75,Tryz.ntmps75
 go_wp2_with fail
 go_quiet (fail)
 have G2:Hid (Gr w ((((w.alloc (.cells #[.int .i64 a,.int .i64 b] 81)).alloc (.cells #[.slice (some ⟨fb,fo,none⟩) e.length cap,.int .i64 0,.int .i64 0,.slice none 0 0] 172)).drewN nq))):=((((Gr.refl w).alloc _).alloc _).drewN nq)
 go_wp2_with fail
 refine (spread_w T r _ Xs qs cls s b (false,(a:Int)) e (some ⟨fb,fo,none⟩) cap (HT.out.gr G2.out) HV.out hb (HE.out.keep G2.out.size (fun i hi _=>G2.out.block i hi) (fun _ _=>rfl)) HM.out HL.out).mono ?_
 rintro x w2 ⟨rfl,h1⟩
 have FE:Hid (SpP T r w cls s b (false,(a:Int)) e w2):=by
  obtain ⟨r',cls',z1,z2,z3⟩:=h1
  exact ⟨r',cls',z1,z2,(Fr.gr (r:=r) G2.out).trans z3⟩
 clear h1 G2
 go_wp2_with fail
 exact bodyPost_end (v:=.tuple #[]) (by simp [results,Tryz.results75,go_sem]) rfl ⟨rfl,FE.out⟩
theorem arrive_x (T:Tc) (r:Nat→Rl) (w:World) (Xs:Nat→List Hm) (qs:Nat→Nat→List Mm) (cls:List Cl) (s:Ts) (a b:Nat) (x:Mm) (e:List Atr) (m0 m1 m2 m3:Value) (hx:mcells x=[m0,m1,m2,m3]) (hms:x.ms = .ev e)
  (hT:Tm T r w Xs (popq qs a b) cls) (v:Vw T Xs qs s) (hab:T.adj a b=true) (hok:MmOk r w x) (hm:Sm T s) (hl:∀ c∈cls,0≤c.lost∧c.lost<4611686018427387903) :
  Calls Tryz.prog 75 #[.pointer (some ⟨T.TB,0,none⟩),.agg #[.int .i64 a,.int .i64 b],.agg #[m0,m1,m2,m3]] w fun x w'=>x = .returned (.tuple #[])∧SpP T r w cls (s.pop a b) b (false,(a:Int)) e w':=by
 have hb:=(hT.b.adj a b hab).2
 have hm':Sm T (s.pop a b):=⟨hm.h,fun p q=>by
  have:((s.pop a b).q p q).length≤(s.q p q).length:=by
   simp only [TS.pop];split
   ·rw [List.length_tail];omega
   ·exact Nat.le_refl _
  have:=hm.q p q
  omega⟩
 obtain ⟨ms,ad,cap⟩:=x
 subst hms
 unfold mcells at hx
 simp only [List.cons.injEq,and_true] at hx
 obtain ⟨rfl,rfl,rfl,rfl⟩:=hx
 exact arrive_ev T r w Xs (popq qs a b) cls (s.pop a b) a b e ad cap hT (vw_pop v a b) hb hok hm' hl
set_option maxRecDepth 100000 in
set_option maxHeartbeats 4000000 in
theorem Step_e (T:Tc) (r:Nat→Rl) (w:World) (cls:List Cl) (s:Ts) (a b:Nat) (ev:List Atr) (rest:List (Ms (List Wnt) (List Atr)))
  (hT:Tw T r w cls s) (hab:T.adj a b=true) (hq:s.q a b = .ev ev::rest) (hm:Sm T s) (hl:∀ c∈cls,0≤c.lost∧c.lost<4611686018427387903) :
  Calls Tryz.prog 37 #[.pointer (some ⟨T.TB,0,none⟩),.int .i64 a,.int .i64 b] w fun e w'=>e = .returned (.int .i64 0)∧SpP T r w cls (s.pop a b) b (false,(a:Int)) ev w':=by
 obtain ⟨Xs,qs,hT,hV⟩:=hT
 obtain ⟨x,xs,hqs,hms⟩:∃ x xs,qs a b=x::xs∧x.ms = .ev ev:=by
  have:=hV.q a b
  rw [hq] at this
  obtain ⟨x,xs,e1,e2,e3⟩:=List.map_eq_cons_iff.1 this.symm
  exact ⟨x,xs,e1,e2⟩
 obtain ⟨a0,n0,c0,k1,k2,a3,n3,c3,hx⟩:=mcells_shape x
 have ga:Gr w (w.alloc (.cells #[.int .i64 a,.int .i64 b] 81)):=(Gr.refl w).alloc _
 have HB:=heap_alloc_new w (.cells #[.int .i64 a,.int .i64 b] 81)
 have hT1:=hT.gr ga
 obtain ⟨mm,es,clock,hmp,_,hall,hev⟩:=hT1.l.lk
 obtain ⟨v,hv⟩:=hev a b hab
 have hQ:Qr (w.alloc (.cells #[.int .i64 a,.int .i64 b] 81)) 172 4 (fun k=>r k = .qu a b) v (xs.length+1) ((qs a b).flatMap mcells):=by
  obtain ⟨a',b',e,_,hQ⟩:=hall _ v hv
  have:=pk_inj e
  simp only [Prod.mk.injEq,Int.natCast_inj] at this
  rw [← this.1, ← this.2] at hQ
  rw [show xs.length+1=(qs a b).length by rw [hqs];rfl];exact hQ
 obtain ⟨va,vc,rfl⟩:=hQ.shape
 have hltn:=hT.b.adj a b hab
 have hnb:=hT.b.nb8
 obtain ⟨lk,hlk⟩:=keyE ((a:Int),(b:Int)) ⟨by omega,by omega⟩ ⟨by omega,by omega⟩
 have hlu:∀ n:Nat,(Instr.lookup 117 (.map (some T.LB)) (.agg #[.int .i64 a,.int .i64 b]) false).run Tryz.prog ((w.alloc (.cells #[.int .i64 a,.int .i64 b] 81)).drewN n) = .ok (.slice va (xs.length+1) vc) ((w.alloc (.cells #[.int .i64 a,.int .i64 b] 81)).drewN n):=fun n=>Mp.look_yes Tryz.keyedE Tryz.underlying117 (hmp.kept (by rw [World.heap_drewN])) hlk hv false
 have hc2:=hT1.b.c2
 have ka0:(w.alloc (.cells #[.int .i64 a,.int .i64 b] 81)).cell? ⟨w.heap.size,0,none⟩=some (.int .i64 a):=by rw [cell_of_row _ _ _ _ _ _ HB];rfl
 have ka1:(w.alloc (.cells #[.int .i64 a,.int .i64 b] 81)).cell? ⟨w.heap.size,1,none⟩=some (.int .i64 b):=by rw [cell_of_row _ _ _ _ _ _ HB];rfl
 have hz:((xs.length:Int)+1==0)=false:=by simp;omega
 have HT1:=Hid.mk' hT1
 have HV:=Hid.mk' hV
 have HMS:=Hid.mk' hms
 have HQ:=Hid.mk' hq
 have HQS:=Hid.mk' hqs
 have HX:=Hid.mk' hx
 have HL:=Hid.mk' hl
 have HM:=Hid.mk' hm
 have GA:=Hid.mk' ga
 have HTOP:=Hid.mk' hT.b.top
 have hTB:=hT1.tlt
 have HHB:=Hid.mk' HB
 clear hT hV hl hms hq hqs hx hm hall hev hv hQ hmp hT1 ga HB
 go_enter Tryz.func37,Tryz.ntmps37
 go_wp2_with fail
 generalize (w.alloc (.cells #[.int .i64 a,.int .i64 b] 81))=W1 at *
 go_quiet (fail)
 have gd:=(Gr.refl W1).drewN nq
 have T2:=HT1.out.gr gd
 have G2:=Hid.mk' (GA.out.drewN nq)
 have HB2:=blk_gr gd HHB.out
 clear hlu ka0 ka1 hc2 HT1
 go_wp2_with fail
 generalize W1.drewN nq=W2 at *
 have rb:r w.heap.size = .no:=by
  rcases Nat.lt_or_ge w.heap.size w.heap.size with h | h
  ·omega
  ·exact HTOP.out _ h
 have ka0:W2.cell? ⟨w.heap.size,0,none⟩=some (.int .i64 a):=by rw [cell_of_row _ _ _ _ _ _ HB2];rfl
 have ka1:W2.cell? ⟨w.heap.size,1,none⟩=some (.int .i64 b):=by rw [cell_of_row _ _ _ _ _ _ HB2];rfl
 have TF:Hid (∀ W3,W3=W2.drew→Calls Tryz.prog 76 #[.pointer (some ⟨T.TB,0,none⟩),.agg #[.int .i64 a,.int .i64 b]] W3 fun e w'=>e = .returned (.agg #[.slice a0 n0 c0,.int .i64 k1,.int .i64 k2,.slice a3 n3 c3])∧Tm T r w' Xs (popq qs a b) cls∧Fr r r W3 w'∧w'.cell? ⟨w.heap.size,0,none⟩=some (.int .i64 a)∧w'.cell? ⟨w.heap.size,1,none⟩=some (.int .i64 b)):=by
  intro W3 e
  subst e
  refine (takeFirst_any T r W2.drew Xs qs cls a b x xs a0 a3 n0 c0 n3 c3 k1 k2 HX.out (T2.gr (Gr.refl W2).drew) hab HQS.out).mono ?_
  rintro e w' ⟨h1,h2,h3⟩
  have hk:=(h3.keep w.heap.size (blk_lt (w:=W2.drew) HB2) (Or.inl rb)).trans HB2
  exact ⟨h1,h2,h3,by rw [cell_of_row _ _ _ _ _ _ hk];rfl,by rw [cell_of_row _ _ _ _ _ _ hk];rfl⟩
 have MOK:Hid (∀ w',Fr r r W2.drew w'→MmOk r w' x):=fun w' k=>by
  have h1:MmOk r W2.drew x:=(T2.gr (Gr.refl W2).drew).l.ms a b x (by rw [HQS.out];simp)
  exact h1.keep k.size (fun i hi hr=>k.keep i hi (Or.inr hr)) k.same
 clear T2 HB2 gd
 go_region_with (first
  | (go_at_call 76;refine (TF.out _ rfl).mono ?_;rintro e w3 ⟨rfl,h1,h2,ka0',ka1'⟩)
  | (go_at_call 75;refine (arrive_x T r _ Xs qs cls s a b x ev _ _ _ _ HX.out HMS.out h1 HV.out hab (MOK.out _ h2) HM.out HL.out).mono ?_;rintro e w4 ⟨rfl,FE⟩))
 all_goals
  have GG:=Hid.mk' ((Fr.gr (r:=r) G2.out.drew).trans h2)
  have FE2:=Hid.mk' FE
  clear h1 h2 ka0' ka1' FE TF MOK
  go_wp2_with fail
  go_ret
  obtain ⟨r',cls',z1,z2,z3⟩:=FE2.out
  exact ⟨rfl,r',cls',z1,z2,GG.out.trans z3⟩
theorem Step_t (T:Tc) (r:Nat→Rl) (w:World) (cs:List (Pc (List Atr))) (s:Ts) (nxt:Nat→Nat→Int) (home:Int→Nat) (ok:List Wnt→Prop) (a b:Nat) (m:Ms (List Wnt) (List Atr)) (rest:List (Ms (List Wnt) (List Atr)))
  (hT:Tf T r w cs s) (I:Inv cov T.adj nxt home ok s) (hab:T.adj a b=true) (hq:s.q a b=m::rest) (hm:Sm T s) (hl:∀ c∈cs,0≤c.lost∧c.lost<4611686018427387903) :
  Calls Tryz.prog 37 #[.pointer (some ⟨T.TB,0,none⟩),.int .i64 a,.int .i64 b] w fun e w'=>e = .returned (.int .i64 0) ∧ ∃ r',Tf T r' w' (hrs mat (s.held b) a m cs) (s.nstep cov T.adj mat a b m)∧Fr r r' w w':=by
 obtain ⟨cls,hT,rfl⟩:=hT
 cases m with
 | ev e =>
  refine (Step_e T r w cls s a b e rest hT hab hq hm (fun c hc=>hl _ (List.mem_map_of_mem hc))).mono ?_
  rintro x w' ⟨h1,r',cls',h2,h3,h4⟩
  exact ⟨h1,r',⟨cls',h2,h3⟩,h4⟩
 | sub k f =>
  refine (Step_f T r w cls s nxt home ok a b _ rest hT I hab hq (fun e h=>by cases h) hm).mono ?_
  rintro x w' ⟨h1,r',h2,h3⟩
  exact ⟨h1,r',⟨cls,h2,rfl⟩,h3⟩
 | uns k =>
  refine (Step_f T r w cls s nxt home ok a b _ rest hT I hab hq (fun e h=>by cases h) hm).mono ?_
  rintro x w' ⟨h1,r',h2,h3⟩
  exact ⟨h1,r',⟨cls,h2,rfl⟩,h3⟩
end Go.Proofs.YtecnfgikbmcgoaaGreat
namespace Go.Proofs.YtecnfgikbmcgoaaGreat
open Go.RowKit
open Go.Maps (Keyed)
theorem Subscribe_t (T:Tc) (r:Nat→Rl) (w:World) (cs:List (Pc (List Atr))) (s:Ts) (c:Pc (List Atr)) (id:Int) (f:List Wnt) (ad:Option Addr) (cap:Nat)
  (hT:Tf T r w cs s) (hc:c∈cs) (hid:I64 id) (hf:FiM w ad f) (hs:∀ b,b<T.nb→Srt (s.held b)) (hn:∀ g∈s.held c.at',g.key≠(c.num,id)) (hm:Sm T s) (hcl:nCl T s<64) :
  Calls Tryz.prog 22 #[.pointer (some ⟨T.TB,0,none⟩),.int .i64 c.num,.int .i64 id,.slice ad f.length cap] w fun e w'=>e = .returned (.int .i64 0) ∧ ∃ r',Tf T r' w' cs (s.turn cov T.adj c.at' (ins ⟨(c.num,id),f,-1⟩ (s.held c.at')))∧Fr r r' w w':=by
 obtain ⟨cls,x,h1,rfl,hx,rfl⟩:=hT.find hc
 refine (Subscribe_ok T r w cls s x id f ad cap h1 hx hid hf hs hn hm hcl).mono ?_
 rintro y w' ⟨h1,r',h2,h3⟩
 exact ⟨h1,r',⟨cls,h2,rfl⟩,h3⟩
end Go.Proofs.YtecnfgikbmcgoaaGreat
