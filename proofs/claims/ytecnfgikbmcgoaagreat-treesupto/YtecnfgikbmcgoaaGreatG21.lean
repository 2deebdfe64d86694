import Derived.Test.YtecnfgikbmcgoaaGreatG14
import Derived.Test.YtecnfgikbmcgoaaGreatG1
import Derived.Test.YtecnfgikbmcgoaaGreatRows
import Derived.Conc.LoneSelect
import Derived.Tactics
import Derived.WalkKit
import Derived.Test.YtecnfgikbmcgoaaGreatG15
import Derived.Test.YtecnfgikbmcgoaaGreatG20
namespace Go.Proofs.YtecnfgikbmcgoaaGreat
open Go.RowKit
theorem Tryz.infoAttrC:(Tryz.prog.info? 74).map (fun i=>(i.zero,i.size,i.bytes))=some (some (.agg #[.string ⟨#[]⟩,.int .i64 0,.int .i64 0,.string ⟨#[]⟩]),4,48):=by kernel_rfl
theorem EvM.len {w:World} {ad:Option Addr} {l:List Atr} (h:EvM w ad l):1≤l.length∧l.length≤8:=by
 have:=h.ok
 simp only [evOk,Bool.and_eq_true,decide_eq_true_eq] at this
 omega
def Rce (B g n q:Nat) (y:Atr) (j:Nat) (x:Value) (_w:World):Prop :=
 match j with
 | 0=>x = .slice (some ⟨g,0,none⟩) n n
 | 1=>x = .int .i64 q
 | 2=>x = .pointer (some ⟨B,0,none⟩)
 | 3=>x = .string y.a
 | 4=>x = .string y.a
 | 5=>x = .pointer (some ⟨B,1,none⟩)
 | 6=>x = .agg #[.int .i64 y.k,.int .i64 y.n,.string y.s]
 | 7=>x = .agg #[.int .i64 y.k,.int .i64 y.n,.string y.s]
 | 8=>x = .agg #[.string y.a,.int .i64 y.k,.int .i64 y.n,.string y.s]
 | 9=>x = .pointer (some ⟨g,q*4,none⟩)
 | _=>True
theorem Rce.st {B g n q:Nat} {y:Atr} (j:Nat) (x:Value) (wa wb:World) (h:Rce B g n q y j x wa):Rce B g n q y j x wb:=by
 unfold Rce at h ⊢;split <;> first | exact h | trivial
set_option maxRecDepth 100000 in
set_option maxHeartbeats 4000000 in
theorem copyOfEvent_any (f:List Atr) (ad:Option Addr) (cap:Nat) (w:World) (h:EvM w ad f) :
  Calls Tryz.prog 55 #[.slice ad f.length cap] w fun e w'=>∃ v,e = .returned v∧w'.ownsRow w.heap.size 74 4 v f.length (acells f)∧Gr w w':=by
 obtain ⟨i0,hi,hz0,hz1,hz2⟩:=info_parts Tryz.infoAttrC
 have HF:=Hid.mk' h
 have hlen:=h.len
 obtain ⟨b,off,rfl,hbw,hat⟩:=h.at'
 have HAT:=Hid.mk' hat
 clear h hat
 go_enter Tryz.func55,Tryz.ntmps55
 go_wp2_with (at_make;refine wpList_make_full _ rfl _ _ 65 rfl w.heap.size 74 i0 _ 4 Tryz.underlying65 hi hz0 hz1 _ _ _ _ f.length rfl rfl (by omega) (by omega) ?b2 ?b3 (Nat.le_refl _) ?_)
 case b2=>rw [hz2];omega
 case b3=>unfold maxLen;omega
 intro w1 hown1 hgrow1
 have G1:Hid (Gr w w1):=Below.grown (Gr.refl w) hgrow1 (Nat.le_refl _) (fun b hb=>by cases hb)
 have O1:=Hid.mk' hown1
 clear hown1 hgrow1
 go_wp2_with fail
 go_loopw [11] (fun i wr=>∃ (q:Nat) (xs:List Value),q≤f.length∧i = .int .i64 q∧Hid (Gr w wr)∧Hid (xs.take (q*4)=acells (f.take q))∧Hid (wr.ownsRow w.heap.size 74 4 (.slice (some ⟨w.heap.size,0,none⟩) f.length f.length) f.length xs)) (fun i _=>f.length - (intOf i).toNat)
 case atStart=>exact ⟨0,_,Nat.zero_le _,rfl,G1,rfl,O1⟩
 case round =>
  obtain ⟨q,xs,hq,rfl,G,HX,O⟩:=hrel
  clear G1 O1
  by_cases hlt:q<f.length
  ·have hxl:xs.length=f.length*4:=O.out.1
   obtain ⟨d1,d2,d3,d4⟩:=(HAT.out.gr G.out hbw) q hlt
   have hbw2:b<wr.heap.size:=G.out.lt hbw
   have okn:nameOk (aat f q).a=true∧valOk (aat f q).k (aat f q).n (aat f q).s=true:=by
    have h1:=HF.out.ok
    simp only [evOk,Bool.and_eq_true,List.all_eq_true] at h1
    have h2:=h1.2 q (by simpa using hlt)
    simp only [okAt,Bool.and_eq_true] at h2
    exact ⟨h2.1.1,h2.1.2⟩
   have hsa:(aat f q).a.size≤255:=by
    have:=okn.1
    simp only [nameOk,Bool.and_eq_true,decide_eq_true_eq] at this
    omega
   have hss:(aat f q).s.size≤255:=by
    have:=val_size okn.2
    omega
   have HSA:=Hid.mk' hsa
   have HSS:=Hid.mk' hss
   have WT:=Hid.mk' (acells_take f q hlt)
   clear hsa hss okn
   generalize aat f q=y at *
   have HNEW:=heap_alloc_new wr (.cells #[.string y.a,.int .i64 y.k,.int .i64 y.n,.string y.s] 74)
   have gal:Gr wr (wr.alloc (.cells #[.string y.a,.int .i64 y.k,.int .i64 y.n,.string y.s] 74)):=(Gr.refl wr).alloc _
   have HHN:=Hid.mk' HNEW
   have GAL:=Hid.mk' gal
   clear HNEW gal
   go_wp2_with fail
   have hws:w.heap.size<wr.heap.size:=by
    obtain ⟨r0,rc0⟩:=row_some O.out 0 (by omega)
    exact World.block_lt_of_cell? _ _ rc0
   refine region_S (c:=16) rfl 10 (by rfl) (Rce wr.heap.size w.heap.size f.length q y)
    (Efr [.slice (some ⟨b,off,none⟩) f.length cap,undef,.slice none 0 0,.slice (some ⟨w.heap.size,0,none⟩) f.length f.length,.int .i64 q,.pointer (some ⟨wr.heap.size,0,none⟩),.slice (some ⟨b,off,none⟩) f.length cap,.int .i64 f.length,.slice (some ⟨w.heap.size,0,none⟩) f.length f.length,.slice (some ⟨b,off,none⟩) f.length cap,.int .i64 f.length,.int .i64 q,.bool true,.int .i64 q,.pointer (some ⟨b,off+q*4,none⟩),.agg #[.string y.a,.int .i64 y.k,.int .i64 y.n,.string y.s]] [u26,undef] 10)
    (fun w'=>Gr (wr.alloc (.cells #[.string y.a,.int .i64 y.k,.int .i64 y.n,.string y.s] 74)) w') (fun _ wa wb=>Gr wa wb) (fun a i x hi h=>Efr.put a i x hi h) (fun a h=>by have:=h.sz;simp at this;omega) (fun i wa wb h g=>Gr.call h g) (fun i j x wa wb _ h g=>Rce.st j x wa wb h) ?front ?last ?e0 (Gr.refl _).drew
   case e0=>exact ⟨rfl,[u16,u17,u18,u19,u20,u21,u22,u23,u24,u25],rfl,rfl⟩
   case front =>
    intro i o a' w2 ho hi2 hE hW hd K hK
    have hA:=blk_gr hW HHN.out
    have c0:w2.cell? ⟨wr.heap.size,0,none⟩=some (.string y.a):=by rw [cell_of_row _ _ _ _ _ _ hA];rfl
    have c1:w2.cell? ⟨wr.heap.size,1,none⟩=some (.int .i64 y.k):=by rw [cell_of_row _ _ _ _ _ _ hA];rfl
    have c2:w2.cell? ⟨wr.heap.size,2,none⟩=some (.int .i64 y.n):=by rw [cell_of_row _ _ _ _ _ _ hA];rfl
    have c3:w2.cell? ⟨wr.heap.size,3,none⟩=some (.string y.s):=by rw [cell_of_row _ _ _ _ _ _ hA];rfl
    have t3:a'.tmps[3]?.getD undef = .slice (some ⟨w.heap.size,0,none⟩) f.length f.length:=(evn a' 3).symm.trans (hE.at_ (by simp))
    have t4:a'.tmps[4]?.getD undef = .int .i64 q:=(evn a' 4).symm.trans (hE.at_ (by simp))
    have t5:a'.tmps[5]?.getD undef = .pointer (some ⟨wr.heap.size,0,none⟩):=(evn a' 5).symm.trans (hE.at_ (by simp))
    clear hE hA
    match i,ho,hi2,hd,hK with
    | 0,ho,_,hd,hK =>
     obtain rfl:=Option.some.inj ho
     unfold Oper.wp
     go_simp
     exact hK _ _ (Gr.refl _) rfl
    | 1,ho,_,hd,hK =>
     obtain rfl:=Option.some.inj ho
     unfold Oper.wp
     go_simp
     exact hK _ _ (Gr.refl _) rfl
    | 2,ho,_,hd,hK =>
     obtain rfl:=Option.some.inj ho
     unfold Oper.wp
     go_simp
     exact hK _ _ (Gr.refl _) rfl
    | 3,ho,_,hd,hK =>
     obtain rfl:=Option.some.inj ho
     have e0:a'.eval (.tmp 18) = .pointer (some ⟨wr.heap.size,0,none⟩):=hd ⟨2,.data⟩ (by simp) rfl
     rw [evn] at e0
     unfold Oper.wp
     go_simp
     exact hK _ _ (Gr.refl _) rfl
    | 4,ho,_,hd,hK =>
     obtain rfl:=Option.some.inj ho
     have e0:a'.eval (.tmp 19) = .string y.a:=hd ⟨3,.data⟩ (by simp) rfl
     rw [evn] at e0
     unfold Oper.wp
     go_simp
     refine (CloneS w2 y.a w2 HSA.out (Gr.refl _)).mono ?_
     rintro e w3 ⟨rfl,g3⟩
     go_simp
     exact hK _ _ g3 rfl
    | 5,ho,_,hd,hK =>
     obtain rfl:=Option.some.inj ho
     unfold Oper.wp
     go_simp
     exact hK _ _ (Gr.refl _) rfl
    | 6,ho,_,hd,hK =>
     obtain rfl:=Option.some.inj ho
     have e0:a'.eval (.tmp 21) = .pointer (some ⟨wr.heap.size,1,none⟩):=hd ⟨5,.data⟩ (by simp) rfl
     rw [evn] at e0
     unfold Oper.wp
     go_simp
     exact hK _ _ (Gr.refl _) rfl
    | 7,ho,_,hd,hK =>
     obtain rfl:=Option.some.inj ho
     have e0:a'.eval (.tmp 22) = .agg #[.int .i64 y.k,.int .i64 y.n,.string y.s]:=hd ⟨6,.data⟩ (by simp) rfl
     rw [evn] at e0
     unfold Oper.wp
     go_simp
     refine (copyOfValue_any y.k y.n y.s w2 HSS.out).mono ?_
     rintro e w3 ⟨rfl,g3⟩
     go_simp
     exact hK _ _ g3 rfl
    | 8,ho,_,hd,hK =>
     obtain rfl:=Option.some.inj ho
     have e0:a'.eval (.tmp 20) = .string y.a:=hd ⟨4,.data⟩ (by simp) rfl
     have e2:a'.eval (.tmp 23) = .agg #[.int .i64 y.k,.int .i64 y.n,.string y.s]:=hd ⟨7,.data⟩ (by simp) rfl
     rw [evn] at e0 e2
     unfold Oper.wp
     go_simp
     exact hK _ _ (Gr.refl _) rfl
    | 9,ho,_,hd,hK =>
     obtain rfl:=Option.some.inj ho
     have e0:a'.eval (.tmp 16) = .slice (some ⟨w.heap.size,0,none⟩) f.length f.length:=hd ⟨0,.data⟩ (by simp) rfl
     have e1:a'.eval (.tmp 17) = .int .i64 q:=hd ⟨1,.data⟩ (by simp) rfl
     rw [evn] at e0 e1
     unfold Oper.wp
     go_simp
     exact hK _ _ (Gr.refl _) rfl
    | k+10,_,hi2,_,_=>exact absurd hi2 (by omega)
   case last =>
    intro o a' w2 ho hE hW hd K hK
    obtain rfl:=Option.some.inj ho
    have e0:a'.eval (.tmp 25) = .pointer (some ⟨w.heap.size,q*4,none⟩):=hd 9 (by omega)
    have e1:a'.eval (.tmp 24) = .agg #[.string y.a,.int .i64 y.k,.int .i64 y.n,.string y.s]:=hd 8 (by omega)
    rw [evn] at e0 e1
    have g5:=Gr.call GAL.out hW
    have O5:=Hid.mk' (ownsGr O.out g5)
    have G5:=Hid.mk' (Gr.call G.out g5)
    obtain ⟨r0,rc0⟩:=row_some O5.out (q*4) (by omega)
    have rf0:=World.ownsRow.frozenAt O5.out (q*4)
    obtain ⟨r1,rc1⟩:=row_some O5.out (q*4+1) (by omega)
    have rf1:=World.ownsRow.frozenAt O5.out (q*4+1)
    obtain ⟨r2,rc2⟩:=row_some O5.out (q*4+1+1) (by omega)
    have rf2:=World.ownsRow.frozenAt O5.out (q*4+1+1)
    obtain ⟨r3,rc3⟩:=row_some O5.out (q*4+1+1+1) (by omega)
    have rf3:=World.ownsRow.frozenAt O5.out (q*4+1+1+1)
    have O6:=Hid.mk' (owns_set4 O5.out (q*4) (.string y.a) (.int .i64 y.k) (.int .i64 y.n) (.string y.s))
    have G6:=Hid.mk' (gr_set4 (Nat.le_refl _) G5.out (.string y.a) (.int .i64 y.k) (.int .i64 y.n) (.string y.s) (k:=q*4))
    have X6:Hid ((set4 xs (q*4) (.string y.a) (.int .i64 y.k) (.int .i64 y.n) (.string y.s)).take ((q+1)*4)=acells (f.take (q+1))):=by
     show _=_
     rw [show (q+1)*4=q*4+4 by omega,take4 _ _ _ _ _ _ (by omega),HX.out,WT.out]
    obtain ⟨z,hz,ht⟩:=hE.ts
    have hdf:=hE.df
    clear O5 G5 O G HX g5 hd hE hW
    match z,hz with
    | [z0,z1,z2,z3,z4,z5,z6,z7,z8,z9],_ =>
    obtain ⟨tm,df⟩:=a'
    simp only at ht hdf
    subst ht
    subst hdf
    obtain rfl:z9 = .pointer (some ⟨w.heap.size,q*4,none⟩):=e0
    obtain rfl:z8 = .agg #[.string y.a,.int .i64 y.k,.int .i64 y.n,.string y.s]:=e1
    unfold Oper.wp
    go_simp
    refine hK _ _ ?_
    go_wp2_with fail
    exact ⟨⟨q+1,_,hlt,by simp,G6,X6,O6⟩,measM_dec _ _ hlt⟩
  ·have hql:q=f.length:=by omega
   have OF:Hid (wr.ownsRow w.heap.size 74 4 (.slice (some ⟨w.heap.size,0,none⟩) f.length f.length) f.length (acells f)):=by
    have e:xs=acells f:=by
     have h1:=HX.out
     have h2:=O.out.1
     rw [hql,List.take_of_length_le (by omega),List.take_of_length_le (Nat.le_refl _)] at h1
     exact h1
    rw [← e];exact O.out
   clear O HX
   go_wp2_with fail
   go_ret
   exact ⟨_,rfl,OF.out,G.out⟩
end Go.Proofs.YtecnfgikbmcgoaaGreat
namespace Go.Proofs.YtecnfgikbmcgoaaGreat
open Go.Conc
section
variable {P:Program} {Q:Exit→Act→World→Prop} {a:Act} {w:World}
def wpN (P:Program) (c:Code) (Q:Exit→Act→World→Prop) (a:Act) (w:World):Prop :=
 ∀ (b:Frame) (k:List Item) (cs:List Frame),b.kind ≠ .early → ∃ e a' w',Q e a' w'∧Arrives P (lone (b.at a (.code c::k)) cs w) b k cs e a' w'
theorem wpN_of {c:Code} (h:c.wp P Q a w):wpN P c Q a w:=fun b k cs _=>h b k cs
theorem wpN_seq2 {x y:Code} (h:wpN P x (Exit.then (wpN P y Q) Q) a w):wpN P (Code.seq x y) Q a w:=by
 intro b k cs hb
 obtain ⟨e,a₁,w₁,hq,harr⟩:=h b (.code y::k) cs hb
 cases e with
 | normal =>
  obtain ⟨e₂,a₂,w₂,hq₂,harr₂⟩:=hq b k cs hb
  exact ⟨e₂,a₂,w₂,hq₂,.of_steps (.head step_seq harr) harr₂⟩
 | exit id=>exact ⟨_,a₁,w₁,hq,.of_steps (.one step_seq) (.pass (x:=.code y) rfl (fun _ _=>.inl (by simp)) harr)⟩
 | goto l=>exact ⟨_,a₁,w₁,hq,.of_steps (.one step_seq) (.pass (x:=.code y) rfl (fun _ _=>.inl (by simp)) harr)⟩
 | ret=>exact ⟨_,a₁,w₁,hq,.of_steps (.one step_seq) (.pass (x:=.code y) rfl (fun _ _=>.inl (by simp)) harr)⟩
 | panic ch=>exact ⟨_,a₁,w₁,hq,.of_steps (.one step_seq) (.pass (x:=.code y) rfl (fun _ _=>.inl (by simp)) harr)⟩
 | outgrown=>exact ⟨_,a₁,w₁,hq,.of_steps (.one step_seq) (.pass (x:=.code y) rfl (fun _ _=>.inl (by simp)) harr)⟩
theorem wpN_seq {x y:Code} (h:∀ K:Act→World→Prop,(∀ a w,wpN P y Q a w→K a w)→x.wp P (Exit.then K Q) a w):wpN P (Code.seq x y) Q a w :=
 wpN_seq2 (wpN_of (h _ fun _ _ h=>h))
theorem wpN_seqN {x y:Code} (h:∀ K:Act→World→Prop,(∀ a w,y.wp P Q a w→K a w)→wpN P x (Exit.then K Q) a w):wpN P (Code.seq x y) Q a w:=by
 refine wpN_seq2 (fun b k cs hb=>?_)
 obtain ⟨e,a',w',hq,harr⟩:=h (fun a w=>y.wp P Q a w) (fun _ _ h=>h) b k cs hb
 refine ⟨e,a',w',?_,harr⟩
 cases e with
 | normal=>exact wpN_of hq
 | exit id=>exact hq
 | goto l=>exact hq
 | ret=>exact hq
 | panic ch=>exact hq
 | outgrown=>exact hq
theorem calls_of_wpN {f:FuncId} {fn:Func} {c:Code} {args:Array Value} {R:Ending→World→Prop} (hf:P.funcs[f]? = some fn) (hb:fn.body=some c)
  (h:wpN P c (bodyPost P fn R) { tmps:=args++Array.replicate (fn.ntmps - args.size) undef,defers:=[] } w):Calls P f args w R:=by
 intro cs
 let b:Frame:={ (default:Frame) with fn:=f,kind:=.normal }
 have henter:Frame.enter P f args .normal=b.at { tmps:=args++Array.replicate (fn.ntmps - args.size) undef,defers:=[] } [.code c]:=by
  simp [Frame.enter,Frame.at,hf,hb,b]
 obtain ⟨e,a',w',hq,harr⟩:=h b [] cs (by simp [b])
 rw [← henter] at harr
 cases e with
 | normal =>
  obtain ⟨hd,v,hr,hR⟩:=hq
  exact ⟨.returned v,w',_,hR,Steps.trans harr (.one step_end),rfl,rfl,hd,rfl,fn,hf,hr⟩
 | ret =>
  obtain ⟨hd,v,hr,hR⟩:=hq
  obtain ⟨todo,hs⟩:=harr
  exact ⟨.returned v,w',_,hR,hs,rfl,rfl,hd,rfl,fn,hf,hr⟩
 | panic chain =>
  obtain ⟨hd,hR⟩:=hq
  obtain ⟨todo,hs⟩:=harr
  exact ⟨.panicked chain,w',_,hR,hs,rfl,rfl,hd,fn,hf⟩
 | outgrown=>exact ⟨.outgrown,w',b,hq,harr.resolve_left (by simp [b]),rfl,trivial⟩
 | exit id=>exact hq.elim
 | goto l=>exact hq.elim
theorem wpN_comm {id:Nat} {o:Oper} {l:List Oper} {v:Value} {w':World} (_hg:o.guard=none)
  (hs:∀ (b:Frame) (k:List Item) (cs:List Frame),b.kind ≠ .early→step P (lone (b.at a (.inRegion (o::l).toArray (0::List.range' 1 l.length)::k)) cs w) = .next (lone (b.at (a.put o.dst v) (.inRegion (o::l).toArray (List.range' 1 l.length)::k)) cs w'))
  (h:wpList P (o::l).toArray Q l (a.put o.dst v) w'):wpN P (.region id (o::l).toArray false) Q a w:=by
 intro b k cs hb
 rw [← wpOps_eq_wpList l 1 (by intro j;simp [Nat.add_comm 1 j])] at h
 obtain ⟨e,a',w'',hq,harr⟩:=wp_ops _ _ _ h b k cs
 refine ⟨e,a',w'',hq,.of_steps (.head step_region ?_) harr⟩
 have hr:List.range (o::l).toArray.size=0::List.range' 1 l.length:=by simp [List.range_eq_range',List.range'_succ]
 rw [hr]
 exact .one (hs b k cs hb)
theorem wanted_none {o:Oper} {ops:Array Oper} {t:Array Value} (hg:o.guard=none):Region.wanted o (yielded ops t)=true:=by simp [Region.wanted,hg]
theorem sel_send_room {o:Oper} {l:List Oper} {c cap s r:Nat} {buf:Array Value} {tm:Bool} {v z:Value} (hg:o.guard=none) (hr:(execOp a.eval o).run P w = .ok (.comm #[scase c v z] false .select) w) (hc:w.heap[c]? = some (.chan cap buf false s r tm)) (hroom:buf.size<cap)
  (b:Frame) (k:List Item) (cs:List Frame) (hb:b.kind ≠ .early):step P (lone (b.at a (.inRegion (o::l).toArray (0::List.range' 1 l.length)::k)) cs w) = .next (lone (b.at (a.put o.dst (.tuple #[goInt 0,.bool false])) (.inRegion (o::l).toArray (List.range' 1 l.length)::k)) cs (w.setChan c cap (buf.push v) false (s+1) r tm)):=by
 rw [lone_eq_solo,step_lone_select_send_room (stepG_comm (by simp) (wanted_none hg) hb hr) hc hroom,lone_eq_solo]
 congr 3
 rw [Frame.finish_at]
 rfl
theorem sel_send_full {o:Oper} {l:List Oper} {c cap s r:Nat} {buf:Array Value} {tm:Bool} {v z:Value} (hg:o.guard=none) (hr:(execOp a.eval o).run P w = .ok (.comm #[scase c v z] false .select) w) (hc:w.heap[c]? = some (.chan cap buf false s r tm)) (hfull:cap≤buf.size)
  (b:Frame) (k:List Item) (cs:List Frame) (hb:b.kind ≠ .early):step P (lone (b.at a (.inRegion (o::l).toArray (0::List.range' 1 l.length)::k)) cs w) = .next (lone (b.at (a.put o.dst (.tuple #[goInt (-1),.bool false])) (.inRegion (o::l).toArray (List.range' 1 l.length)::k)) cs w):=by
 rw [lone_eq_solo,step_lone_select_send_full (stepG_comm (by simp) (wanted_none hg) hb hr) hc hfull,lone_eq_solo]
 congr 3
 rw [Frame.finish_at]
 rfl
end
end Go.Proofs.YtecnfgikbmcgoaaGreat
namespace Go.Proofs.YtecnfgikbmcgoaaGreat
open Go.RowKit
theorem setChan_get {w:World} {c cap s r:Nat} {buf:Array Value} {cl tm:Bool} (h:c<w.heap.size):(w.setChan c cap buf cl s r tm).heap[c]? = some (.chan cap buf cl s r tm):=by simp [World.setChan,h]
theorem setChan_other {w:World} {c cap s r k:Nat} {buf:Array Value} {cl tm:Bool} (h:k≠c):(w.setChan c cap buf cl s r tm).heap[k]? = w.heap[k]? := by
 simp only [World.setChan];rw [Array.getElem?_setIfInBounds_ne (fun e=>h e.symm)]
theorem setChan_size {w:World} {c cap s r:Nat} {buf:Array Value} {cl tm:Bool}:(w.setChan c cap buf cl s r tm).heap.size=w.heap.size:=by simp [World.setChan]
theorem copyEv (f:List Atr) (ad:Option Addr) (cap:Nat) (w:World) (h:EvM w ad f) :
  Calls Tryz.prog 55 #[.slice ad f.length cap] w fun e w'=>∃ g cp,e = .returned (.slice (some ⟨g,0,none⟩) f.length cp)∧(w.heap.size≤g∧g<w'.heap.size∧EvM w' (some ⟨g,0,none⟩) f)∧Gr w w':=by
 refine (copyOfEvent_any f ad cap w h).mono ?_
 rintro e w' ⟨v,rfl,ho,g1⟩
 have hlen:=h.len
 obtain ⟨a,cp,rfl,hb⟩:=owns_shape ho
 obtain ⟨g,rfl⟩:=hb (by omega)
 have hlow:=own_low ho g rfl
 have hlt:=owns_lt ho
 obtain ⟨ad',cap',e1,hfa⟩:=owns_attrs ho
 injection e1 with e1 _ _
 subst e1
 refine ⟨g,cp,rfl,⟨hlow,hlt,?_,h.wf,h.ok⟩,g1⟩
 rcases hfa with h0 | h0
 ·rw [h0] at hlen;simp at hlen
 ·exact h0
section
variable {T:Tc} {r:Nat→Rl} {w:World} {Xs:Nat→List Hm} {qs:Nat→Nat→List Mm} {m1 m2:List Cl} {c:Cl}
theorem Tm.apartC (h:Tm T r w Xs qs (m1++c::m2)) {x:Cl} (hx:x∈m1∨x∈m2):x.num≠c.num:=by
 obtain ⟨es,clock,hm⟩:=h.k.mp
 have hn:=hm.nod
 rw [List.map_append,List.map_cons] at hn
 have:=nod_side hn (x:=cv x) (hx.imp (List.mem_map_of_mem) (List.mem_map_of_mem))
 intro e
 exact this (by show Value.int .i64 x.num = .int .i64 c.num;rw [e])
theorem Tm.client (h:Tm T r w Xs qs (m1++c::m2)) (c':Cl) (hn:c'.num=c.num) (ha:c'.at'=c.at') (hb:c'.blk=c.blk) {r':Nat→Rl} {w':World} (hs:w.heap.size≤w'.heap.size) (hk:∀ k,k<w.heap.size→k≠c.blk→k≠c.chn→w'.heap[k]? = w.heap[k]?)
  (hr:∀ k,k<w.heap.size→r' k=r k) (ht:∀ k,w'.heap.size≤k→r' k = .no) (hB:w'.heap[c'.blk]? = some (.cells #[.int .i64 c'.at',.chan (some c'.chn),.int .i64 c'.lost] 126 (0,0)))
  (hC:r' c'.chn = .ch c'.num ∧ ∃ s q tm,w'.heap[c'.chn]? = some (.chan 16 (c'.box.map bv).toArray false s q tm)) (hX:∀ x∈c'.box,EvR r' w' x.2.1 x.1):Tm T r' w' Xs qs (m1++c'::m2):=by
 have hmem:c∈m1++c::m2:=List.mem_append.2 (Or.inr (List.mem_cons_self))
 have rb:=(h.k.blk c hmem).1
 have rc:=(h.k.chn c hmem).1
 have nb:∀ {k:Nat},r k ≠ .cl c.num→k≠c.blk:=fun h1 e=>h1 (by rw [e];exact rb)
 have nc:∀ {k:Nat},r k ≠ .ch c.num→k≠c.chn:=fun h1 e=>h1 (by rw [e];exact rc)
 have keep:∀ k,k<w.heap.size→r k ≠ .cl c.num→r k ≠ .ch c.num→w'.heap[k]? = w.heap[k]? := fun k h1 h2 h3=>hk k h1 (nb h2) (nc h3)
 have old:∀ x,x∈m1++c'::m2→x=c'∨(x∈m1++c::m2∧x.num≠c.num):=fun x hx=>by
  rcases List.mem_append.1 hx with h1 | h1
  ·exact Or.inr ⟨List.mem_append.2 (Or.inl h1),h.apartC (Or.inl h1)⟩
  ·rcases List.mem_cons.1 h1 with h1 | h1
   ·exact Or.inl h1
   ·exact Or.inr ⟨List.mem_append.2 (Or.inr (List.mem_cons_of_mem _ h1)),h.apartC (Or.inr h1)⟩
 refine ⟨h.b.keep hs (fun k h1 h2=>keep k h1 ?_ ?_) hr ht,h.h.keep hs (fun k h1 h2=>keep k h1 ?_ ?_) hr,h.l.keep hs (fun k h1 h2=>keep k h1 ?_ ?_) hr,?_⟩
 ·rcases h2 with h2 | h2 <;> (rw [h2];exact fun e=>by cases e)
 ·rcases h2 with h2 | h2 <;> (rw [h2];exact fun e=>by cases e)
 ·rcases h2 with h2 | ⟨_,h2⟩ <;> (rw [h2];exact fun e=>by cases e)
 ·rcases h2 with h2 | ⟨_,h2⟩ <;> (rw [h2];exact fun e=>by cases e)
 ·rcases h2 with h2 | h2 | ⟨_,_,h2⟩ <;> (rw [h2];exact fun e=>by cases e)
 ·rcases h2 with h2 | h2 | ⟨_,_,h2⟩ <;> (rw [h2];exact fun e=>by cases e)
 ·obtain ⟨es,clock,hm⟩:=h.k.mp
  have hcm:=h.k.cm
  have ecv:(m1++c'::m2).map cv=(m1++c::m2).map cv:=by
   simp only [List.map_append,List.map_cons]
   rw [show cv c'=cv c by simp [cv,hn,hb]]
  refine ⟨(hr _ hm.lt).trans hcm,⟨es,clock,?_⟩,fun x hx=>?_,fun x hx=>?_,fun x hx=>?_,fun x hx y hy=>?_⟩
  ·rw [ecv];exact hm.kept (keep _ hm.lt (by rw [hcm];exact fun e=>by cases e) (by rw [hcm];exact fun e=>by cases e))
  ·rcases old x hx with rfl | ⟨h1,_⟩
   ·rw [hn,ha];exact h.k.num c hmem
   ·exact h.k.num x h1
  ·rcases old x hx with rfl | ⟨h1,h2⟩
   ·refine ⟨?_,hB⟩
    rw [hb,hn,hr _ (blk_lt (h.k.blk c hmem).2)];exact rb
   ·obtain ⟨k1,k2⟩:=h.k.blk x h1
    have hl:=blk_lt k2
    exact ⟨(hr _ hl).trans k1,(keep _ hl (by rw [k1];exact fun e=>h2 (by injection e)) (by rw [k1];exact fun e=>by cases e)).trans k2⟩
  ·rcases old x hx with rfl | ⟨h1,h2⟩
   ·exact hC
   ·obtain ⟨k1,s,q,tm,k2⟩:=h.k.chn x h1
    have hl:=blk_lt k2
    exact ⟨(hr _ hl).trans k1,s,q,tm,(keep _ hl (by rw [k1];exact fun e=>by cases e) (by rw [k1];exact fun e=>h2 (by injection e))).trans k2⟩
  ·rcases old x hx with rfl | ⟨h1,_⟩
   ·exact hX y hy
   ·exact (h.k.box x h1 y hy).keep hs (fun k h1 h2=>keep k h1 (by rw [h2];exact fun e=>by cases e) (by rw [h2];exact fun e=>by cases e)) hr
end
structure HrC (c c':Cl) (e:List Atr):Prop where
 num:c'.num=c.num
 at':c'.at'=c.at'
 blk:c'.blk=c.blk
 chn:c'.chn=c.chn
 yes:c.box.length<16→c'.box.map (·.1)=c.box.map (·.1)++[e]∧c'.lost=c.lost
 no:16≤c.box.length→c'.box=c.box∧c'.lost=c.lost+1
theorem three_setCell {w:World} {b:Nat} {x y z u:Value} {t:TypeId} (h:w.heap[b]? = some (.cells #[x,y,z] t (0,0))):(w.setCell ⟨b,2,none⟩ u).heap[b]? = some (.cells #[x,y,u] t (0,0)):=by
 have hl:=blk_lt h
 have h':w.heap[b] = .cells #[x,y,z] t (0,0):=by rw [Array.getElem?_eq_getElem hl] at h;injection h
 show (w.heap.modify b _)[b]? = _
 rw [Array.getElem?_eq_getElem (by simpa using hl),Array.getElem_modify_self,h']
 rfl
section
variable {T:Tc} {r:Nat→Rl} {w:World} {Xs:Nat→List Hm} {qs:Nat→Nat→List Mm} {m1 m2:List Cl} {c:Cl}
theorem Tm.hearIn (h:Tm T r w Xs qs (m1++c::m2)) {w1:World} (g1:Gr w w1) {e:List Atr} {g cp s q:Nat} {tm:Bool} (h1:w.heap.size≤g∧g<w1.heap.size∧EvM w1 (some ⟨g,0,none⟩) e) (hroom:c.box.length<16) :
  ∃ r' c',(Tm T r' (w1.setChan c.chn 16 (c.box.map bv++[Value.slice (some ⟨g,0,none⟩) e.length cp]).toArray false s q tm) Xs qs (m1++c'::m2)∧Fr r r' w (w1.setChan c.chn 16 (c.box.map bv++[Value.slice (some ⟨g,0,none⟩) e.length cp]).toArray false s q tm))∧HrC c c' e:=by
 have hmem:c∈m1++c::m2:=List.mem_append.2 (Or.inr (List.mem_cons_self))
 obtain ⟨rB,hB⟩:=h.k.blk c hmem
 obtain ⟨rC,s0,q0,tm0,hC⟩:=h.k.chn c hmem
 have lC:=blk_lt hC
 have lB:=blk_lt hB
 have hs:=g1.size
 have hne:c.blk≠c.chn:=fun e=>by rw [e,rC] at rB;cases rB
 have hsame:∀ k,k<w.heap.size→(if k=g then Rl.fx else r k)=r k:=fun k hk=>if_neg (by omega)
 refine ⟨fun k=>if k=g then .fx else r k,{ c with box:=c.box++[(e,some ⟨g,0,none⟩,cp)] },⟨h.client { c with box:=c.box++[(e,some ⟨g,0,none⟩,cp)] } rfl rfl rfl (by rw [setChan_size];exact hs) (fun k hk h2 h3=>?_) hsame (fun k hk=>?_) ?_ ⟨?_,s,q,tm,?_⟩ (fun x hx=>?_),⟨g1.os,g1.tape,g1.output,by rw [setChan_size];exact hs,fun k hk hr=>?_,hsame⟩⟩,⟨rfl,rfl,rfl,rfl,fun _=>⟨by simp,rfl⟩,fun h=>absurd hroom (by omega)⟩⟩
 ·rw [setChan_other h3];exact g1.block k hk
 ·rw [setChan_size] at hk
  show (if k=g then Rl.fx else r k) = .no
  rw [if_neg (by omega)];exact h.b.top k (by omega)
 ·show _=some (Obj.cells #[.int .i64 c.at',.chan (some c.chn),.int .i64 c.lost] _ _)
  rw [setChan_other hne];exact (g1.block _ lB).trans hB
 ·exact (hsame _ lC).trans rC
 ·rw [setChan_get (by omega)]
  simp [bv]
 ·rcases List.mem_append.1 hx with hx | hx
  ·refine (h.k.box c hmem x hx).keep (by rw [setChan_size];exact hs) (fun k hk hf=>?_) hsame
   rw [setChan_other (fun e=>by rw [e,rC] at hf;cases hf)];exact g1.block k hk
  ·rw [List.mem_singleton.1 hx]
   obtain ⟨⟨b,off,e1,e2,e3⟩,e4,e5⟩:=h1.2.2
   refine ⟨⟨⟨b,off,e1,by rw [setChan_size];exact e2,e3.blk (setChan_other ?_)⟩,e4,e5⟩,g,0,rfl,if_pos rfl⟩
   injection e1 with e1
   injection e1 with e1
   omega
 ·rw [setChan_other (fun e=>by rw [e,rC] at hr;rcases hr with hr | hr <;> cases hr)];exact g1.block k hk
theorem Tm.hearOut (h:Tm T r w Xs qs (m1++c::m2)) {w1:World} (g1:Gr w w1) (e:List Atr) (hroom:¬ c.box.length<16) :
  ∃ r' c',(Tm T r' (w1.setCell ⟨c.blk,2,none⟩ (.int .i64 (c.lost+1))) Xs qs (m1++c'::m2)∧Fr r r' w (w1.setCell ⟨c.blk,2,none⟩ (.int .i64 (c.lost+1))))∧HrC c c' e:=by
 have hmem:c∈m1++c::m2:=List.mem_append.2 (Or.inr (List.mem_cons_self))
 obtain ⟨rB,hB⟩:=h.k.blk c hmem
 obtain ⟨rC,s0,q0,tm0,hC⟩:=h.k.chn c hmem
 have lC:=blk_lt hC
 have lB:=blk_lt hB
 have hs:=g1.size
 have hne:c.chn≠c.blk:=fun e=>by rw [e,rB] at rC;cases rC
 have ot:∀ k,k<w.heap.size→k≠c.blk→(w1.setCell ⟨c.blk,2,none⟩ (.int .i64 (c.lost+1))).heap[k]? = w.heap[k]? := fun k hk hn=>(Below.heap_setCell w1 _ _ k hn).trans (g1.block k hk)
 refine ⟨r,{ c with lost:=c.lost+1 },⟨h.client { c with lost:=c.lost+1 } rfl rfl rfl (by rw [size_set];exact hs) (fun k hk h2 _=>ot k hk h2) (fun _ _=>rfl) (fun k hk=>?_) ?_ ⟨rC,s0,q0,tm0,?_⟩ (fun x hx=>?_),⟨g1.os,g1.tape,g1.output,by rw [size_set];exact hs,fun k hk hr=>ot k hk ?_,fun _ _=>rfl⟩⟩,⟨rfl,rfl,rfl,rfl,fun h=>absurd h hroom,fun _=>⟨rfl,rfl⟩⟩⟩
 ·rw [size_set] at hk;exact h.b.top k (by omega)
 ·exact three_setCell ((g1.block _ lB).trans hB)
 ·exact (ot _ lC hne).trans hC
 ·exact (h.k.box c hmem x hx).keep (by rw [size_set];exact hs) (fun k hk hf=>ot k hk (fun e=>by rw [e,rB] at hf;cases hf)) (fun _ _=>rfl)
 ·exact fun e=>by rw [e,rB] at hr;rcases hr with hr | hr <;> cases hr
end
set_option maxRecDepth 100000 in
set_option maxHeartbeats 4000000 in
theorem hear_t (T:Tc) (r:Nat→Rl) (w:World) (Xs:Nat→List Hm) (qs:Nat→Nat→List Mm) (m1 m2:List Cl) (c:Cl) (e:List Atr) (ad:Option Addr) (cap:Nat)
  (hT:Tm T r w Xs qs (m1++c::m2)) (he:EvR r w ad e) (hl:0≤c.lost∧c.lost<4611686018427387904) :
  Calls Tryz.prog 91 #[.pointer (some ⟨c.blk,0,none⟩),.slice ad e.length cap] w fun x w'=>x = .returned (.tuple #[])∧(∃ r' c',(Tm T r' w' Xs qs (m1++c'::m2)∧Fr r r' w w')∧HrC c c' e)∧w'.heap[T.CB]? = w.heap[T.CB]? := by
 have hmem:c∈m1++c::m2:=List.mem_append.2 (Or.inr (List.mem_cons_self))
 have hCB:T.CB<w.heap.size∧T.CB≠c.blk∧T.CB≠c.chn:=⟨hT.b.lt (by rw [hT.k.cm];exact fun e=>by cases e),(fun e=>by have:=hT.k.cm;rw [e,(hT.k.blk c hmem).1] at this;cases this),(fun e=>by have:=hT.k.cm;rw [e,(hT.k.chn c hmem).1] at this;cases this)⟩
 have HCB:=Hid.mk' hCB
 clear hCB
 have hB:=(hT.k.blk c hmem).2
 have rB:=(hT.k.blk c hmem).1
 obtain ⟨rC,s,q,tm,hC⟩:=hT.k.chn c hmem
 have c1:w.cell? ⟨c.blk,1,none⟩=some (.chan (some c.chn)):=by rw [cell_of_row _ _ _ _ _ _ hB];rfl
 have CP:=Hid.mk' (copyEv e ad cap w he.m)
 have HB:=Hid.mk' hB
 have HC:=Hid.mk' hC
 have HE:=Hid.mk' he
 have HT:=Hid.mk' hT
 have HR:=Hid.mk' (And.intro rB rC)
 have HL:=Hid.mk' hl
 clear hB hC he hT rB rC hmem
 refine calls_of_wpN (fn:=Tryz.f91) Tryz.func91 rfl ?_
 simp only [Tryz.ntmps91,List.size_toArray,List.length_cons,List.length_nil,Nat.reduceAdd,Nat.reduceSub,Array.replicate_succ,Array.replicate_zero,List.push_toArray,List.append_toArray,List.nil_append,List.cons_append]
 refine wpN_seq (fun K hK=>?_)
 go_wp2_with fail
 refine CP.out.mono ?_
 rintro x w1 ⟨g,cp,rfl,h1,g1⟩
 have H1:=Hid.mk' h1
 have hB1:w1.heap[c.blk]? = _:=(g1.block _ (blk_lt HB.out)).trans HB.out
 have hC1:w1.heap[c.chn]? = _:=(g1.block _ (blk_lt HC.out)).trans HC.out
 have f2:w1.frozen? ⟨c.blk,2,none⟩=false:=frozen_of_row _ _ _ _ _ hB1
 have c2:w1.cell? ⟨c.blk,2,none⟩=some (.int .i64 c.lost):=by rw [cell_of_row _ _ _ _ _ _ hB1];rfl
 have HB1:=Hid.mk' hB1
 have HC1:=Hid.mk' hC1
 have G1:=Hid.mk' g1
 clear h1 hB1 hC1 g1 CP
 go_wp2_with fail
 refine wpN_seqN (fun K hK=>?_)
 by_cases hroom:c.box.length<16
 ·refine wpN_comm rfl (sel_send_room rfl (v:=.slice (some ⟨g,0,none⟩) e.length cp) (z:=.slice none 0 0) (by simp [go_sem,execOp,Go.Conc.scase,Act.eval]) HC1.out (by simpa using hroom)) ?_
  go_wp2_with fail
  exact bodyPost_end (v:=.tuple #[]) (by simp [results,Tryz.results91,go_sem]) rfl ⟨rfl,HT.out.hearIn G1.out H1.out hroom,(setChan_other HCB.out.2.2).trans (G1.out.block _ HCB.out.1)⟩
 ·refine wpN_comm rfl (sel_send_full rfl (v:=.slice (some ⟨g,0,none⟩) e.length cp) (z:=.slice none 0 0) (by simp [go_sem,execOp,Go.Conc.scase,Act.eval]) HC1.out (by simpa using hroom)) ?_
  go_wp2_with fail
  exact bodyPost_end (v:=.tuple #[]) (by simp [results,Tryz.results91,go_sem]) rfl ⟨rfl,HT.out.hearOut G1.out e hroom,(Below.heap_setCell _ _ _ _ HCB.out.2.1).trans (G1.out.block _ HCB.out.1)⟩
end Go.Proofs.YtecnfgikbmcgoaaGreat
namespace Go.Proofs.YtecnfgikbmcgoaaGreat
open Go.RowKit
open Go.Maps (Keyed)
open Go.ChangeMaps (setBlock)
theorem asks_eq {X:List Hm} {l:List Hw} (hl:∀ g,g∈l ↔ ∃ x∈X,x.1=g) (s:Bool × Int) (e:List Atr):(X.any fun x=>sdP s x&&mat e x.1.f)=asksP mat l s e:=by
 rw [Bool.eq_iff_iff]
 simp only [asksP,sdP,List.any_eq_true]
 constructor
 ·rintro ⟨x,h1,h2⟩;exact ⟨x.1,(hl _).2 ⟨x,h1,rfl⟩,h2⟩
 ·rintro ⟨g,h1,h2⟩
  obtain ⟨x,hx,rfl⟩:=(hl g).1 h1
  exact ⟨x,hx,h2⟩
theorem tm_asks {T:Tc} {r:Nat→Rl} {w:World} {Xs:Nat→List Hm} {qs:Nat→Nat→List Mm} {cls:List Cl} (hT:Tm T r w Xs qs cls) {b:Nat} (hb:b<T.nb) {l:List Hw} (hl:∀ g,g∈l ↔ ∃ x∈Xs b,x.1=g) (hX:(Xs b).length≤1048576) (s:Bool × Int) (e:List Atr) (ad:Option Addr) (cap:Nat) (he:EvM w ad e) :
  Calls Tryz.prog 90 #[.pointer (some ⟨T.TB,0,none⟩),.int .i64 b,.agg #[.bool s.1,.int .i64 s.2],.slice ad e.length cap] w fun x w'=>x = .returned (.bool (asksP mat l s e))∧Gr w w':=by
 obtain ⟨es,clock,hp⟩:=hT.hp hb
 rw [← asks_eq hl]
 exact asks_any T.TB T.HB 0 T.nb T.hcap b (T.MB b) s e ad cap (Xs b) es clock T.ml w hT.b.c0 (by rw [Nat.zero_add];exact hT.b.hb b hb) hb hT.tlt hT.hlt hX hp he hT.b.ml
theorem sd_nb (h:Hw) (n:Nat):sd h=(false,(n:Int))↔h.fr=(n:Int):=by
 unfold sd
 split
 ·rename_i h1
  constructor
  ·intro e;injection e with e;cases e
  ·intro e;omega
 ·constructor
  ·intro e;injection e
  ·intro e;rw [e]
theorem asks_nb (l:List Hw) (n:Nat) (e:List Atr):asksP mat l (false,(n:Int)) e=l.any fun h=>h.fr==(n:Int)&&mat e h.f:=by
 unfold asksP
 congr 1
 funext h
 have:=sd_nb h n
 by_cases hh:h.fr=(n:Int)
 ·rw [decide_eq_true (this.2 hh),hh];simp
 ·rw [decide_eq_false (fun h1=>hh (this.1 h1))]
  have:(h.fr==(n:Int))=false:=by simpa using hh
  rw [this]
def hrsN (dn:List Int) (l:List Hw) (fr:Bool × Int) (e:List Atr) (c:Pc (List Atr)):Pc (List Atr):=if c.num∈dn then hearAt mat l fr e c else c
structure Vs (cls cls':List Cl) (dn:List Int) (l:List Hw) (fr:Bool × Int) (e:List Atr):Prop where
 cv:cls'.map cv=cls.map cv
 pc:cls'.map pcOf=(cls.map pcOf).map (hrsN dn l fr e)
def Dn (es:Array MapEntry) (seen:Array Nat) (dn:List Int):Prop:=∀ e∈es.toList,(seen.contains e.born=true ↔ ∃ n∈dn,e.key = .int .i64 n)
theorem pc_hear {c c':Cl} {e:List Atr} (h:HrC c c' e):pcOf c'=(pcOf c).hear e:=by
 have hl:(pcOf c).box.length=c.box.length:=by simp [pcOf]
 unfold Pc.hear
 rw [hl]
 by_cases hb:c.box.length<16
 ·rw [if_pos hb]
  obtain ⟨h1,h2⟩:=h.yes hb
  simp only [pcOf,h.num,h.at',h1,h2]
 ·rw [if_neg hb]
  obtain ⟨h1,h2⟩:=h.no (by omega)
  simp only [pcOf,h.num,h.at',h1,h2]
theorem Vs.at_ {cls cls':List Cl} {dn:List Int} {l:List Hw} {fr:Bool × Int} {e:List Atr} (h:Vs cls cls' dn l fr e) {c:Cl} (hc:c∈cls):∃ m1 c1 m2,cls'=m1++c1::m2∧c1.num=c.num∧c1.blk=c.blk:=by
 have:Go.Proofs.YtecnfgikbmcgoaaGreat.cv c∈cls'.map Go.Proofs.YtecnfgikbmcgoaaGreat.cv:=by rw [h.cv];exact List.mem_map_of_mem hc
 obtain ⟨c1,h1,h2⟩:=List.mem_map.1 this
 obtain ⟨m1,m2,rfl⟩:=List.append_of_mem h1
 refine ⟨m1,c1,m2,rfl,?_,?_⟩
 ·have:=congrArg Prod.fst h2
  simp only [Go.Proofs.YtecnfgikbmcgoaaGreat.cv] at this
  injection this
 ·have:=congrArg Prod.snd h2
  simp only [Go.Proofs.YtecnfgikbmcgoaaGreat.cv] at this
  injection this with this
  injection this with this
  injection this
theorem Vs.turn {cls m1 m2:List Cl} {c1 c2:Cl} {dn:List Int} {l:List Hw} {fr:Bool × Int} {e:List Atr} (h:Vs cls (m1++c1::m2) dn l fr e) (hn:c1.num ∉ dn) (hd:∀ x,x∈m1∨x∈m2→x.num≠c1.num) (h2:pcOf c2=hearAt mat l fr e (pcOf c1)) (hb:c2.blk=c1.blk):Vs cls (m1++c2::m2) (c1.num::dn) l fr e:=by
 have hnum:c2.num=c1.num:=by
  have:=congrArg Pc.num h2
  rw [(hearAt_num (mt:=mat) l fr e (pcOf c1)).1] at this
  exact this
 refine ⟨?_,?_⟩
 ·rw [← h.cv]
  simp only [List.map_append,List.map_cons]
  rw [show Go.Proofs.YtecnfgikbmcgoaaGreat.cv c2=Go.Proofs.YtecnfgikbmcgoaaGreat.cv c1 by simp [Go.Proofs.YtecnfgikbmcgoaaGreat.cv,hnum,hb]]
 ·have hpc:=h.pc
  rw [List.map_append,List.map_cons] at hpc
  obtain ⟨a,b,e0,e1,e2⟩:=List.map_eq_append_iff.1 hpc.symm
  obtain ⟨x,t,e3,e4,e5⟩:=List.map_eq_cons_iff.1 e2
  subst e3
  have hx:x=pcOf c1:=by
   have hxn:x.num=c1.num:=by
    have:=congrArg Pc.num e4
    unfold hrsN at this
    split at this
    ·rw [(hearAt_num (mt:=mat) l fr e x).1] at this;exact this
    ·exact this
   unfold hrsN at e4
   rw [hxn,if_neg hn] at e4
   exact e4
  have oth:∀ (m:List Cl) (q:List (Pc (List Atr))),(∀ z∈m,z.num≠c1.num)→q.map (hrsN dn l fr e)=m.map pcOf→m.map pcOf=q.map (hrsN (c1.num::dn) l fr e):=by
   intro m q hm hq
   rw [← hq]
   refine List.map_congr_left fun y hy=>?_
   have:hrsN dn l fr e y∈m.map pcOf:=by rw [← hq];exact List.mem_map_of_mem hy
   obtain ⟨z,hz,hzy⟩:=List.mem_map.1 this
   have hyn:y.num≠c1.num:=by
    have h3:=congrArg Pc.num hzy
    have h4:=hm z hz
    unfold hrsN at h3
    split at h3
    ·rw [(hearAt_num (mt:=mat) l fr e y).1] at h3;rw [← h3];exact h4
    ·rw [← h3];exact h4
   unfold hrsN
   by_cases hyd:y.num∈dn
   ·rw [if_pos hyd,if_pos (List.mem_cons_of_mem _ hyd)]
   ·rw [if_neg hyd,if_neg (fun h5=>by rcases List.mem_cons.1 h5 with h5 | h5 <;> contradiction)]
  rw [e0,List.map_append,List.map_append,List.map_cons,List.map_cons,oth m1 a (fun z hz=>hd z (Or.inl hz)) e1,oth m2 t (fun z hz=>hd z (Or.inr hz)) e5,h2,hx]
  congr 2
  exact (if_pos (show (pcOf c1).num∈c1.num::dn from List.mem_cons_self)).symm
theorem Vs.skip {cls m1 m2:List Cl} {c1:Cl} {dn:List Int} {l:List Hw} {fr:Bool × Int} {e:List Atr} (h:Vs cls (m1++c1::m2) dn l fr e) (hn:c1.num ∉ dn) (hd:∀ x,x∈m1∨x∈m2→x.num≠c1.num) (h2:¬ ((true,c1.num)≠fr∧asksP mat l (true,c1.num) e=true)):Vs cls (m1++c1::m2) (c1.num::dn) l fr e :=
 h.turn hn hd (by unfold hearAt;rw [if_neg (by exact h2)]) rfl
theorem Vs.init {cls:List Cl} {l:List Hw} {fr:Bool × Int} {e:List Atr}:Vs cls cls [] l fr e:=⟨rfl,by
 rw [List.map_congr_left (g:=id) (fun c _=>by unfold hrsN;rw [if_neg (by simp)];rfl)];simp⟩
theorem Vs.all {cls cls':List Cl} {dn:List Int} {l:List Hw} {fr:Bool × Int} {e:List Atr} (h:Vs cls cls' dn l fr e) (hd:∀ c∈cls,c.num∈dn):cls'.map pcOf=(cls.map pcOf).map (hearAt mat l fr e):=by
 rw [h.pc]
 refine List.map_congr_left fun c hc=>?_
 obtain ⟨x,hx,rfl⟩:=List.mem_map.1 hc
 unfold hrsN
 rw [if_pos (by exact hd x hx)]
theorem Dn.push {es:Array MapEntry} {seen:Array Nat} {dn:List Int} (h:Dn es seen dn) (hb:(es.toList.map (·.born)).Nodup) {e0:MapEntry} (he:e0∈es.toList) {n:Int} (hk:e0.key = .int .i64 n) (hinj:∀ e∈es.toList,e.key = .int .i64 n→e=e0):Dn es (seen.push e0.born) (n::dn):=by
 intro e hm
 rw [contains_push,Bool.or_eq_true]
 constructor
 ·rintro (h1 | h1)
  ·obtain ⟨n',h2,h3⟩:=(h e hm).1 h1
   exact ⟨n',List.mem_cons_of_mem _ h2,h3⟩
  ·have:=born_inj hb hm he (beq_iff_eq.1 h1)
   subst this
   exact ⟨n,List.mem_cons_self,hk⟩
 ·rintro ⟨n',h2,h3⟩
  rcases List.mem_cons.1 h2 with rfl | h2
  ·rw [hinj e hm h3];exact Or.inr (by simp)
  ·exact Or.inl ((h e hm).2 ⟨n',h2,h3⟩)
end Go.Proofs.YtecnfgikbmcgoaaGreat
