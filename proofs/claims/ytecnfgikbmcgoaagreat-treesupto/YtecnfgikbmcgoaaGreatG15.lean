import Derived.Test.YtecnfgikbmcgoaaGreatG14
import Derived.Conc.SmallLaws
import Derived.Test.YtecnfgikbmcgoaaGreatG7
import Derived.Test.YtecnfgikbmcgoaaGreatG1
import Derived.Deep.QuietTactic
import Derived.BigQuiet
import Derived.Test.YtecnfgikbmcgoaaGreatG6
namespace Go.Proofs.YtecnfgikbmcgoaaGreat
open Go.RowKit
open Go.Maps (Keyed)
open Go.ChangeMaps (setBlock)
theorem Tryz.infoEvC:(Tryz.prog.info? 65).map (fun i=>(i.zero,i.size,i.bytes))=some (some (.slice none 0 0),1,24):=by kernel_rfl
theorem mkInbox (w:World):(Instr.makeChan 124 (.int .i64 16)).run Tryz.prog w = .ok (.chan (some w.heap.size)) (w.alloc (.chan 16 #[] false 0 0 false)):=by
 obtain ⟨i,hi,_,_,hb⟩:=info_parts Tryz.infoEvC
 simpa using Go.Conc.run_makeChan (P:=Tryz.prog) (w:=w) Tryz.underlying124 hi .i64 16 (by omega) (by rw [hb];omega)
set_option maxRecDepth 100000 in
theorem newInbox_any (w:World):Calls Tryz.prog 87 #[] w fun e w'=>e = .returned (.chan (some w.heap.size))∧w'=w.alloc (.chan 16 #[] false 0 0 false):=by
 have hmk:=mkInbox
 go_enter Tryz.func87,Tryz.ntmps87
 go_wp2_with fail
 go_ret
 exact ⟨rfl,rfl⟩
set_option maxRecDepth 100000 in
theorem newClient_any (b:Nat) (w:World):Calls Tryz.prog 74 #[.int .i64 b] w fun e w'=>e = .returned (.pointer (some ⟨w.heap.size+1,0,none⟩))∧w'=(w.alloc (.chan 16 #[] false 0 0 false)).alloc (.cells #[.int .i64 b,.chan (some w.heap.size),.int .i64 0] 126):=by
 go_enter Tryz.func74,Tryz.ntmps74
 go_wp2_with fail
 refine (newInbox_any w).mono ?_
 rintro e w1 ⟨rfl,rfl⟩
 go_wp2_with fail
 go_ret
 exact ⟨by simp,rfl⟩
set_option maxRecDepth 100000 in
set_option maxHeartbeats 4000000 in
theorem hasBroker_in (T:Tc) (r:Nat→Rl) (w:World) (b:Nat) (h:Tb T r w) (hb:b<T.nb):Calls Tryz.prog 39 #[.pointer (some ⟨T.TB,0,none⟩),.int .i64 b] w fun e w'=>e = .returned (.bool true)∧Gr w w':=by
 have c0:=h.c0
 have hnb:=h.nb8
 have h1:(0:Int)≤(b:Int):=by omega
 have h2:(b:Int)<(T.nb:Int):=by omega
 go_enter Tryz.func39,Tryz.ntmps39
 go_wp2_with fail
 go_ret
 exact ⟨rfl,Gr.refl _⟩
theorem Tm.attach {T:Tc} {r:Nat→Rl} {w:World} {Xs:Nat→List Hm} {qs:Nat→Nat→List Mm} {cls:List Cl} (h:Tm T r w Xs qs cls) (c:Int) (b:Nat) (hc:I64 c) (hb:b<T.nb) (_hn:∀ x∈cls,x.num≠c) {w1:World} (g:Gr w w1) {w2:World} (hw2:w2=(w1.alloc (.chan 16 #[] false 0 0 false)).alloc (.cells #[.int .i64 b,.chan (some w1.heap.size),.int .i64 0] 126))
  {w3:World} (g3:Gr w2 w3) {es:Array MapEntry} {clock:Nat} (hm:Mp Tryz.prog 3 (setBlock w3 T.CB (.map es clock)) T.CB (cls.map cv++[(.int .i64 c,.pointer (some ⟨w1.heap.size+1,0,none⟩))]) es clock) :
  ∃ r',Tm T r' (setBlock w3 T.CB (.map es clock)) Xs qs (cls++[⟨c,b,w1.heap.size+1,w1.heap.size,0,[]⟩])∧Fr r r' w (setBlock w3 T.CB (.map es clock)):=by
 have g2:Gr w1 w2:=by rw [hw2];exact ((Gr.refl w1).alloc _).alloc _
 have gg:=Gr.call (Gr.call g g2) g3
 have s2:w2.heap.size=w1.heap.size+2:=by rw [hw2];simp
 have hcm:r T.CB = .cm:=h.k.cm
 have hlt:T.CB<w.heap.size:=h.b.lt (by rw [hcm];exact fun e=>by cases e)
 have hs:w.heap.size≤(setBlock w3 T.CB (.map es clock)).heap.size:=by simp only [setBlock];simpa using gg.size
 have hkeep:∀ k,k<w.heap.size→r k ≠ .cm→(setBlock w3 T.CB (.map es clock)).heap[k]? = w.heap[k]? := fun k hk h1=>(setBlock_other (fun e=>h1 (by rw [e];exact hcm))).trans (gg.block k hk)
 have hsz:=g.size
 have hch:(setBlock w3 T.CB (.map es clock)).heap[w1.heap.size]? = some (.chan 16 #[] false 0 0 false):=by
  rw [setBlock_other (by omega),g3.block _ (by omega),hw2,heap_alloc_old _ _ (by simp)]
  exact heap_alloc_new w1 _
 have hcl:(setBlock w3 T.CB (.map es clock)).heap[w1.heap.size+1]? = some (.cells #[.int .i64 b,.chan (some w1.heap.size),.int .i64 0] 126 (0,0)):=by
  rw [setBlock_other (by omega),g3.block _ (by omega),hw2]
  have:=heap_alloc_new (w1.alloc (.chan 16 #[] false 0 0 false)) (.cells #[.int .i64 b,.chan (some w1.heap.size),.int .i64 0] 126)
  rw [show (w1.alloc (.chan 16 #[] false 0 0 false)).heap.size=w1.heap.size+1 by simp] at this
  exact this
 have hs3:(setBlock w3 T.CB (.map es clock)).heap.size=w3.heap.size:=by simp [setBlock]
 have hsame:∀ k,k<w.heap.size→(if k=w1.heap.size then Rl.ch c else if k=w1.heap.size+1 then .cl c else r k)=r k:=fun k hk=>by rw [if_neg (by omega),if_neg (by omega)]
 have htop:∀ k,(setBlock w3 T.CB (.map es clock)).heap.size≤k→(if k=w1.heap.size then Rl.ch c else if k=w1.heap.size+1 then .cl c else r k) = .no:=fun k hk=>by
  have:=g3.size
  rw [if_neg (by omega),if_neg (by omega)];exact h.b.top k (by omega)
 refine ⟨fun k=>if k=w1.heap.size then .ch c else if k=w1.heap.size+1 then .cl c else r k,⟨h.b.keep hs (fun k hk hr=>hkeep k hk ?_) hsame htop,h.h.keep hs (fun k hk hr=>hkeep k hk ?_) hsame,h.l.keep hs (fun k hk hr=>hkeep k hk ?_) hsame,⟨(hsame _ hlt).trans hcm,⟨es,clock,by rw [List.map_append];exact hm⟩,fun x hx=>?_,fun x hx=>?_,fun x hx=>?_,fun x hx y hy=>?_⟩⟩,⟨gg.os,gg.tape,gg.output,hs,fun k hk hr=>hkeep k hk ?_,hsame⟩⟩
 ·rcases hr with hr | hr <;> (rw [hr];exact fun e=>by cases e)
 ·rcases hr with hr | ⟨_,hr⟩ <;> (rw [hr];exact fun e=>by cases e)
 ·rcases hr with hr | hr | ⟨_,_,hr⟩ <;> (rw [hr];exact fun e=>by cases e)
 ·rcases List.mem_append.1 hx with hx | hx
  ·exact h.k.num x hx
  ·rw [List.mem_singleton.1 hx];exact ⟨hc,hb⟩
 ·rcases List.mem_append.1 hx with hx | hx
  ·obtain ⟨k1,k2⟩:=h.k.blk x hx
   exact ⟨(hsame _ (blk_lt k2)).trans k1,(hkeep _ (blk_lt k2) (by rw [k1];exact fun e=>by cases e)).trans k2⟩
  ·rw [List.mem_singleton.1 hx]
   exact ⟨by show (if w1.heap.size+1=w1.heap.size then _ else _)=_;rw [if_neg (by omega),if_pos rfl],hcl⟩
 ·rcases List.mem_append.1 hx with hx | hx
  ·obtain ⟨k1,s,q,tm,k2⟩:=h.k.chn x hx
   exact ⟨(hsame _ (blk_lt k2)).trans k1,s,q,tm,(hkeep _ (blk_lt k2) (by rw [k1];exact fun e=>by cases e)).trans k2⟩
  ·rw [List.mem_singleton.1 hx]
   exact ⟨if_pos rfl,0,0,false,hch⟩
 ·rcases List.mem_append.1 hx with hx | hx
  ·exact (h.k.box x hx y hy).keep hs (fun k hk hr=>hkeep k hk (by rw [hr];exact fun e=>by cases e)) hsame
  ·rw [List.mem_singleton.1 hx] at hy;cases hy
 ·rcases hr with hr | hr <;> (rw [hr];exact fun e=>by cases e)
theorem Tryz.zeroC (w:World):(zeroValue 113).run Tryz.prog w = .ok (.pointer none) w:=Tryz.zeroValue113 w
set_option maxRecDepth 100000 in
set_option maxHeartbeats 4000000 in
theorem Attach_new (T:Tc) (r:Nat→Rl) (w:World) (cls:List Cl) (s:Ts) (c:Int) (b:Nat) (hT:Tw T r w cls s) (hc:I64 c) (hb:b<T.nb) (hn:∀ x∈cls,x.num≠c) (hl:cls.length<16) :
  Calls Tryz.prog 36 #[.pointer (some ⟨T.TB,0,none⟩),.int .i64 c,.int .i64 b] w fun e w'=>e = .returned (.int .i64 0) ∧ ∃ r' k h,Tw T r' w' (cls++[⟨c,b,k,h,0,[]⟩]) s∧Fr r r' w w':=by
 obtain ⟨Xs,qs,hT,hV⟩:=hT
 obtain ⟨es,clock,hmp⟩:=hT.k.mp
 obtain ⟨lk,hlk⟩:=keyI c hc
 have hno:∀ v,(Value.int .i64 c,v) ∉ cls.map cv:=by
  intro v hv'
  obtain ⟨x,hx,e⟩:=List.mem_map.1 hv'
  injection e with e1 e2
  injection e1 with e1 e3
  exact hn x hx e3
 have HB:=Hid.mk' (hasBroker_in T r w b hT.b hb)
 have HT:=Hid.mk' hT
 have HV:=Hid.mk' hV
 have HMP:=Hid.mk' hmp
 have HN:=Hid.mk' hn
 have HNO:=Hid.mk' hno
 have HC:=Hid.mk' hc
 clear hT hV hmp hn hno hc
 go_enter Tryz.func36,Tryz.ntmps36
 go_wp2_with fail
 refine HB.out.mono ?_
 rintro e w1 ⟨rfl,g1⟩
 have hlu:=Mp.look_no Tryz.keyedI Tryz.underlying116 (HMP.out.kept (g1.block _ HMP.out.lt)) hlk HNO.out Tryz.zeroC true
 have T1:=HT.out.gr g1
 have c1:=T1.b.c1
 have hblk:=(HMP.out.kept (g1.block _ HMP.out.lt)).blk
 have hsz:es.size=cls.length:=by
  have:=congrArg List.length HMP.out.ent
  simpa using this
 have G1:=Hid.mk' g1
 have hlen:(Builtin.len_ #[116] 3 #[.map (some T.CB)]).run Tryz.prog w1 = .ok (.int .i64 (cls.length:Nat)) w1:=by
  simp [Builtin.len_,run_underlying Tryz.underlying116,getObj,Sem.run,hblk,hsz,goInt]
 have hTB:=T1.tlt
 clear HB T1 g1
 obtain ⟨hup,hM'⟩:=Mp.put_new (v:=.pointer (some ⟨w1.heap.size+1,0,none⟩)) Tryz.keyedI Tryz.underlying116 (HMP.out.kept (w':=((w1.alloc (.chan 16 #[] false 0 0 false)).alloc (.cells #[.int .i64 b,.chan (some w1.heap.size),.int .i64 0] 126)).drew) (((G1.out.alloc _).alloc _).drew.block _ HMP.out.lt)) hlk HNO.out
 have FIN:=Tm.attach HT.out c b HC.out hb HN.out G1.out rfl ((Gr.refl _).drew) hM'
 have HF:=Hid.mk' FIN
 clear FIN hM'
 go_wp2_with fail
 go_region_with (go_at_call 74;refine (newClient_any b _).mono ?_;rintro e w2 ⟨rfl,rfl⟩)
 all_goals
  go_wp2_with fail
  go_ret
  obtain ⟨r',z1,z2⟩:=HF.out
  exact ⟨rfl,r',_,_,⟨Xs,qs,z1,HV.out⟩,z2⟩
end Go.Proofs.YtecnfgikbmcgoaaGreat
namespace Go.Proofs.YtecnfgikbmcgoaaGreat
open Go.RowKit
set_option maxHeartbeats 1000000 in
theorem refCheck_any (l:List Wnt) (b off cap:Nat) (w:World) (hl:l.length≤maxLen) (hb:b<w.heap.size) (hat:WantsAt w b off l) (hwf:∀ x∈l,Wnt.Wf x) :
  Calls Tryz.prog 94 #[.slice (some ⟨b,off,none⟩) l.length cap] w fun e w'=>e = .returned (.int .i64 (chk l))∧Gr w w':=by
 unfold maxLen at hl
 have HC:Hid (WantsAt w b off l):=hat
 have HF:Hid (∀ x∈l,Wnt.Wf x):=hwf
 clear hat hwf
 go_enter Tryz.func94,Tryz.ntmps94
 go_wp2
 ·go_ret;exact ⟨ret_int (chk_size ‹_›).symm,Gr.refl _⟩
 ·go_loopw [3] (fun i wr=>∃ k:Nat,k≤l.length∧i = .int .i64 k∧Gr w wr∧Hid ((l.take k).all wOk=true)) (fun i _=>l.length - (intOf i).toNat)
  case atStart=>exact ⟨0,Nat.zero_le _,rfl,Gr.refl _,rfl⟩
  case round =>
   obtain ⟨k,hk,rfl,g,HA⟩:=hrel
   by_cases hlt:k<l.length
   ·obtain ⟨c1,c2,c3,c4,c5⟩:=(HC.out.gr g hb) k hlt
    go_wp2_with fail
    refine (WantOf_any _ _ _ _ _ _ (HF.out _ (wat_mem hlt)).a).mono ?_
    rintro e w1 ⟨rfl,hb1⟩
    have g1:Gr w w1:=Gr.call g hb1
    clear c1 c2 c3 c4 c5
    go_wp2
    ·go_ret
     refine ⟨ret_int (chk_stop k hlt ?_).symm,g1⟩
     simpa [wOk] using ‹(!wantOk _ _ _ _ _)=true›
    ·go_roundw
     case rel =>
      refine ⟨k+1,by omega,by go_num,g1,all_snoc wOk l k dW hlt HA.out ?_⟩
      simpa [wOk,wat] using ‹(!wantOk _ _ _ _ _)=false›
     case measure=>simp [intOf];omega
   ·go_wp2
    go_ret
    exact ⟨ret_int (chk_end k hlt (by omega) (by omega) HA.out).symm,g⟩
 ·go_ret;exact ⟨ret_int (chk_size (Or.inl ‹_›)).symm,Gr.refl _⟩
set_option maxHeartbeats 2000000 in
theorem CheckEvent_any (l:List Atr) (b off cap:Nat) (w:World) (hl:l.length≤maxLen) (hb:b<w.heap.size) (hat:AttrsAt w b off l) (hwf:∀ x∈l,Atr.Wf x) :
  Calls Tryz.prog 53 #[.slice (some ⟨b,off,none⟩) l.length cap] w fun e w'=>e = .returned (.int .i64 (chkE l))∧Gr w w':=by
 unfold maxLen at hl
 have HC:Hid (AttrsAt w b off l):=hat
 have HF:Hid (∀ x∈l,Atr.Wf x):=hwf
 clear hat hwf
 go_enter Tryz.func53,Tryz.ntmps53
 go_wp2
 ·go_ret;exact ⟨ret_int (chkE_size ‹_›).symm,Gr.refl _⟩
 ·go_loopw [15] (fun i wr=>∃ k:Nat,k≤l.length∧i = .int .i64 k∧Gr w wr∧Hid ((List.range k).all (okAt l)=true)) (fun i _=>l.length - (intOf i).toNat)
  case atStart=>exact ⟨0,Nat.zero_le _,rfl,Gr.refl _,rfl⟩
  case round =>
   obtain ⟨k,hk,rfl,g,HA⟩:=hrel
   by_cases hlt:k<l.length
   ·obtain ⟨c1,c2,c3,c4⟩:=(HC.out.gr g hb) k hlt
    have hb':=g.lt hb
    cases hn:nameOk (aat l k).a
    ·go_wp2_with (go_at_call 88;refine (goodName_any _ _ (HF.out _ (aat_mem hlt)).a).mono ?_;rw [hn];rintro e w' ⟨rfl,rfl⟩)
     go_ret
     exact ⟨ret_int (chkE_stop k hlt (by simp [okAt,hn])).symm,g.alloc _⟩
    ·cases hv:valOk (aat l k).k (aat l k).n (aat l k).s
     ·go_wp2_with (first | (go_at_call 88;refine (goodName_any _ _ (HF.out _ (aat_mem hlt)).a).mono ?_;rw [hn];rintro e w' ⟨rfl,rfl⟩) | (go_at_call 89;refine (goodValue_any _ _ _ _).mono ?_;rw [hv];rintro e w1 ⟨rfl,hb1⟩))
      go_ret
      exact ⟨ret_int (chkE_stop k hlt (by simp [okAt,hv])).symm,Gr.call (g.alloc _) hb1⟩
     ·go_wp2_with (first | (go_at_call 88;refine (goodName_any _ _ (HF.out _ (aat_mem hlt)).a).mono ?_;rw [hn];rintro e w' ⟨rfl,rfl⟩) | (go_at_call 89;refine (goodValue_any _ _ _ _).mono ?_;rw [hv];rintro e w1 ⟨rfl,hb1⟩;obtain ⟨hc1,hf1⟩:=bcell hb1))
      have gz:Gr w w1:=Gr.call (g.alloc _) hb1
      have hbz:=gz.lt hb
      have q1:w1.cell? ⟨wr.heap.size,0,none⟩=some (.string (aat l k).a):=by rw [hc1 _ _ (by simp)];simp [go_sem]
      clear hc1 hf1 c1 c2 c3 c4
      by_cases hk0:k=0
      ·have hd:decide (0<(k:Int))=false:=by simp;omega
       have HO:Hid (okAt l k=true):=by
        show _=_
        simp only [okAt,hn,hv,show (k==0)=true by simpa using hk0,Bool.true_or,Bool.and_self]
       go_quiet (fail)
       go_wp2
       go_roundw
       case rel=>exact ⟨k+1,by omega,by subst hk0;rfl,gz.drewN _,range_snoc k HA.out HO.out⟩
       case measure=>simp [intOf];omega
      ·obtain ⟨p1,p2,p3,p4⟩:=(HC.out.gr gz hb) (k - 1) (by omega)
       have hi0:0<k:=by omega
       have hd:decide (0<k)=true:=by simpa using hi0
       clear hk0
       have hw1:IntKind.i64.wrap ((k:Int) - 1)=((k - 1:Nat):Int):=by rw [IntWalk.i64_in _ (by omega)];omega
       have hi1:(0:Int)<(k:Int):=by omega
       have hi4:((k - 1:Nat):Int)<(l.length:Int):=by omega
       have hi5:k - 1<l.length:=by omega
       have hi2:(0:Int)≤(k:Int) - 1:=by omega
       have hi3:(k:Int) - 1<(l.length:Int):=by omega
       have HO:Hid (okAt l k=Op.bytesLess (aat l (k - 1)).a.toList (aat l k).a.toList):=by
        show _=_
        simp [okAt,hn,hv,show (k==0)=false by simp;omega]
       go_quiet (fail)
       go_wp2
       ·go_ret
        refine ⟨ret_int (chkE_stop k hlt ?_).symm,gz.drewN _⟩
        rw [HO.out]
        simpa using ‹(!Op.bytesLess _ _)=true›
       ·go_roundw
        case rel =>
         refine ⟨k+1,by omega,by go_num,gz.drewN _,range_snoc k HA.out ?_⟩
         rw [HO.out]
         simpa using ‹(!Op.bytesLess _ _)=false›
        case measure=>simp [intOf];omega
   ·go_wp2
    go_ret
    exact ⟨ret_int (chkE_end k hlt hk (by omega) (by omega) HA.out).symm,g⟩
 ·go_ret;exact ⟨ret_int (chkE_size (Or.inl ‹_›)).symm,Gr.refl _⟩
set_option maxHeartbeats 1000000 in
theorem answers_any (l:List Atr) (x:Wnt) (b off cap:Nat) (m:Int) (w:World) (hl:l.length≤maxLen) (hb:b<w.heap.size) (hat:AttrsAt w b off l) (hv:∀ z∈l,valOk z.k z.n z.s=true) (hx:wOk x=true) (hM:Ml m w) :
  Calls Tryz.prog 118 #[.slice (some ⟨b,off,none⟩) l.length cap,.agg #[.string x.a,.int .i64 x.y,.int .i64 x.k,.int .i64 x.n,.string x.s]] w
   fun e w'=>e = .returned (.bool (ans l x))∧Gr w w':=by
 unfold maxLen at hl
 have HC:Hid (AttrsAt w b off l):=hat
 have HV:Hid (∀ z∈l,valOk z.k z.n z.s=true):=hv
 have HX:Hid (wayOk x.y x.k x.n x.s=true):=by
  show _=_
  simp [wOk,wantOk] at hx;exact hx.2
 clear hat hv hx
 go_enter Tryz.func118,Tryz.ntmps118
 go_wp2
 go_loopw [9] (fun i wr=>∃ k:Nat,k≤l.length∧i = .int .i64 k∧Gr (w.alloc (.cells #[.string x.a,.int .i64 x.y,.int .i64 x.k,.int .i64 x.n,.string x.s] 76)) wr∧Hid (ans (l.drop k) x=ans l x)) (fun i _=>l.length - (intOf i).toNat)
 case atStart=>exact ⟨0,Nat.zero_le _,rfl,Gr.refl _,rfl⟩
 case round =>
  obtain ⟨k,hk,rfl,g,HA⟩:=hrel
  have gw:Gr w wr:=Gr.call ((Gr.refl w).alloc _) g
  by_cases hlt:k<l.length
  ·obtain ⟨c1,c2,c3,c4⟩:=(HC.out.gr gw hb) k hlt
   have hb':=gw.lt hb
   have hzr:w.heap.size<wr.heap.size:=g.lt (by simp)
   have x1:wr.cell? ⟨w.heap.size,0,none⟩=some (.string x.a):=by rw [(bcell g).1 _ _ (by simp)];simp [go_sem]
   have x2:wr.cell? ⟨w.heap.size,1,none⟩=some (.int .i64 x.y):=by rw [(bcell g).1 _ _ (by simp)];simp [go_sem]
   have x3:wr.cell? ⟨w.heap.size,1+1,none⟩=some (.int .i64 x.k):=by rw [(bcell g).1 _ _ (by simp)];simp [go_sem]
   have x4:wr.cell? ⟨w.heap.size,1+1+1,none⟩=some (.int .i64 x.n):=by rw [(bcell g).1 _ _ (by simp)];simp [go_sem]
   have x5:wr.cell? ⟨w.heap.size,1+1+1+1,none⟩=some (.string x.s):=by rw [(bcell g).1 _ _ (by simp)];simp [go_sem]
   cases hn:((aat l k).a.toList==x.a.toList)
   ·have HN:=ans_next (x:=x) k hlt hn
    have HN':Hid (ans (l.drop (k+1)) x=ans l x):=by
     show _=_
     rw [← HN];exact HA.out
    clear HN
    go_wp2_with fail
    clear c1 c2 c3 c4 x1 x2 x3 x4 x5
    go_roundw
    case rel=>exact ⟨k+1,by omega,by go_num,g.alloc _,HN'⟩
    case measure=>simp [intOf];omega
   ·have HN:Hid (ans l x=lets x.y x.k x.n x.s (aat l k).k (aat l k).n (aat l k).s):=by
     show _=_
     rw [← HA.out];exact ans_here k hlt hn
    go_wp2_with fail
    refine (letsBy_any _ _ _ _ _ _ _ _ m _ HX.out (HV.out _ (aat_mem hlt)) ((gw.ml hM).alloc _)).mono ?_
    rintro e w1 ⟨rfl,hb1⟩
    go_wp2_with fail
    go_ret
    exact ⟨ret_bool (by rw [HN.out]),Gr.call (gw.alloc _) hb1⟩
  ·go_wp2
   go_ret
   refine ⟨ret_bool ?_,gw⟩
   rw [← HA.out,ans_end k hlt]
set_option maxHeartbeats 1000000 in
theorem matches_any (f:List Wnt) (l:List Atr) (b' off' cap' b off cap:Nat) (m:Int) (w:World) (hf:f.length≤maxLen) (hl:l.length≤maxLen) (hb':b'<w.heap.size) (hat':WantsAt w b' off' f) (hb:b<w.heap.size) (hat:AttrsAt w b off l)
  (hv:∀ z∈l,valOk z.k z.n z.s=true) (hx:∀ x∈f,wOk x=true) (hM:Ml m w) :
  Calls Tryz.prog 92 #[.slice (some ⟨b',off',none⟩) f.length cap',.slice (some ⟨b,off,none⟩) l.length cap] w
   fun e w'=>e = .returned (.bool (mat l f))∧Gr w w':=by
 have HL:Hid (l.length≤maxLen):=hl
 unfold maxLen at hl hf
 have HC:Hid (AttrsAt w b off l):=hat
 have HC':Hid (WantsAt w b' off' f):=hat'
 have HV:Hid (∀ z∈l,valOk z.k z.n z.s=true):=hv
 have HX:Hid (∀ x∈f,wOk x=true):=hx
 clear hat hv hx hat'
 go_enter Tryz.func92,Tryz.ntmps92
 go_wp2
 go_loopw [9] (fun i wr=>∃ k:Nat,k≤f.length∧i = .int .i64 k∧Gr w wr∧Hid ((f.take k).all (ans l)=true)) (fun i _=>f.length - (intOf i).toNat)
 case atStart=>exact ⟨0,Nat.zero_le _,rfl,Gr.refl _,rfl⟩
 case round =>
  obtain ⟨k,hk,rfl,g,HA⟩:=hrel
  by_cases hlt:k<f.length
  ·obtain ⟨c1,c2,c3,c4,c5⟩:=(HC'.out.gr g hb') k hlt
   have hbr:=g.lt hb'
   go_wp2_with fail
   refine (answers_any l (wat f k) _ _ _ m _ HL.out (Gr.lt (g.alloc _) hb) (HC.out.gr (g.alloc _) hb) HV.out (HX.out _ (wat_mem hlt)) ((g.ml hM).alloc _)).mono ?_
   rintro e w1 ⟨rfl,hb1⟩
   have g1:Gr w w1:=Gr.call (g.alloc _) hb1
   clear c1 c2 c3 c4 c5
   go_wp2
   ·go_ret
    refine ⟨ret_bool (all_stop _ f k dW hlt ?_).symm,g1⟩
    simpa [wat] using ‹(!(ans l _))=true›
   ·go_roundw
    case rel =>
     refine ⟨k+1,by omega,by go_num,g1,all_snoc _ f k dW hlt HA.out ?_⟩
     simpa [wat] using ‹(!(ans l _))=false›
    case measure=>simp [intOf];omega
  ·go_wp2
   go_ret
   exact ⟨ret_bool (all_end _ f k hlt HA.out).symm,g⟩
set_option maxHeartbeats 1000000 in
theorem Check_nil (ad:Option Addr) (cap:Nat) (w:World):Calls Tryz.prog 46 #[.slice ad 0 cap] w fun e w'=>e = .returned (.int .i64 2)∧w'=w:=by
 go_enter Tryz.func46,Tryz.ntmps46
 go_wp2
 go_ret
 exact ⟨rfl,rfl⟩
set_option maxHeartbeats 1000000 in
theorem CheckEvent_nil (ad:Option Addr) (cap:Nat) (w:World):Calls Tryz.prog 53 #[.slice ad 0 cap] w fun e w'=>e = .returned (.int .i64 1)∧w'=w:=by
 go_enter Tryz.func53,Tryz.ntmps53
 go_wp2
 go_ret
 exact ⟨rfl,rfl⟩
theorem Check_ad (l:List Wnt) (ad:Option Addr) (cap:Nat) (w:World) (hl:l.length≤maxLen) (h:FiAt w ad l) (hwf:∀ x∈l,Wnt.Wf x) :
  Calls Tryz.prog 46 #[.slice ad l.length cap] w fun e w'=>e = .returned (.int .i64 (chk l))∧Gr w w':=by
 rcases h with rfl | ⟨b,off,rfl,hb,hat⟩
 ·exact (Check_nil ad cap w).mono fun e w' ⟨h1,h2⟩=>⟨h1,by rw [h2];exact Gr.refl _⟩
 ·exact Check_any l b off cap w hl hb hat hwf
theorem CheckEvent_ad (l:List Atr) (ad:Option Addr) (cap:Nat) (w:World) (hl:l.length≤maxLen) (h:EvAt w ad l) (hwf:∀ x∈l,Atr.Wf x) :
  Calls Tryz.prog 53 #[.slice ad l.length cap] w fun e w'=>e = .returned (.int .i64 (chkE l))∧Gr w w':=by
 rcases h with rfl | ⟨b,off,rfl,hb,hat⟩
 ·exact (CheckEvent_nil ad cap w).mono fun e w' ⟨h1,h2⟩=>⟨h1,by rw [h2];exact Gr.refl _⟩
 ·exact CheckEvent_any l b off cap w hl hb hat hwf
theorem matches_ad (f:List Wnt) (l:List Atr) (ad' ad:Option Addr) (cap' cap:Nat) (m:Int) (w:World) (hf:f.length≤maxLen) (hl:l.length≤maxLen) (h':FiAt w ad' f) (h:EvAt w ad l) (he:evOk l=true) (hx:filterOk f=true) (hM:Ml m w) :
  Calls Tryz.prog 92 #[.slice ad' f.length cap',.slice ad l.length cap] w fun e w'=>e = .returned (.bool (mat l f))∧Gr w w':=by
 obtain ⟨hv,hne⟩:=ev_ok_of he
 obtain ⟨hw,hne'⟩:=fi_ok_of hx
 rcases h with h | ⟨b,off,rfl,hb,hat⟩
 ·exact absurd h hne
 rcases h' with h' | ⟨b',off',rfl,hb',hat'⟩
 ·exact absurd h' hne'
 exact matches_any f l b' off' cap' b off cap m w hf hl hb' hat' hb hat hv hw hM
theorem Tryz.infoInt:(Tryz.prog.info? 3).map (fun i=>(i.zero,i.size,i.bytes))=some (some (.int .i64 0),1,8):=by kernel_rfl
set_option maxHeartbeats 2000000 in
theorem Match_any (l:List Atr) (fs:List (List Wnt)) (ad:Option Addr) (cap:Nat) (bl offl capl:Nat) (m:Int) (w:World) (hl:l.length≤maxLen) (h:EvAt w ad l) (hwf:∀ x∈l,Atr.Wf x)
  (hn:fs.length≤8796093022208) (hbl:bl<w.heap.size) (hfs:FisAt w bl offl fs) (hlen:∀ f∈fs,f.length≤maxLen) (hwfs:∀ f∈fs,∀ x∈f,Wnt.Wf x) (hM:Ml m w) :
  Calls Tryz.prog 56 #[.slice ad l.length cap,.slice (some ⟨bl,offl,none⟩) fs.length capl] w
   fun e w'=>∃ v,e = .returned (.tuple #[v,.int .i64 (mErr l fs)])∧Gr w w'∧w'.ownsRow w.heap.size 3 1 v (mRes l fs).length (ints (mRes l fs)):=by
 have HE:Hid (EvAt w ad l):=h
 have HF:Hid (∀ x∈l,Atr.Wf x):=hwf
 have HL:Hid (l.length≤maxLen):=hl
 have HS:Hid (FisAt w bl offl fs):=hfs
 have HN:Hid (∀ f∈fs,f.length≤maxLen):=hlen
 have HW:Hid (∀ f∈fs,∀ x∈f,Wnt.Wf x):=hwfs
 clear h hwf hl hfs hlen hwfs
 obtain ⟨i0,hi,hz0,hz1,hz2⟩:=info_parts Tryz.infoInt
 cases h1:evOk l
 ·have Hc:Hid (chkE l=1):=by
   show _=_
   simp [chkE,h1]
  have Hr:Hid (mErr l fs=1):=by
   show _=_
   simp [mErr,h1]
  go_enter Tryz.func56,Tryz.ntmps56
  go_wp2_with fail
  refine (CheckEvent_ad _ _ _ _ HL.out HE.out HF.out).mono ?_
  rw [Hc.out]
  rintro e w1 ⟨rfl,hb1⟩
  go_wp2_with fail
  go_ret2
  refine ⟨_,ret_tup Hr.out.symm,hb1,?_⟩
  have e:mRes l fs=[]:=by simp [mRes,Hr.out]
  rw [e]
  exact World.ownsRow_nil _ _ _ _
 have Hc:Hid (chkE l=0):=by
  show _=_
  simp [chkE,h1]
 have HE1:Hid (evOk l=true):=h1
 have Hm:Hid (mErr l fs=if fs.all filterOk then 0 else 2):=by
  show _=_
  simp [mErr,h1]
 clear h1
 go_enter Tryz.func56,Tryz.ntmps56
 go_wp2_with fail
 refine (CheckEvent_ad _ _ _ _ HL.out HE.out HF.out).mono ?_
 rw [Hc.out]
 rintro e w1 ⟨rfl,hb1⟩
 go_wp2_with fail
 go_loopw [7,18] (fun v i wr=>∃ k:Nat,k≤fs.length∧i = .int .i64 k∧Gr w wr∧Hid ((fs.take k).all filterOk=true)∧Hid (wr.ownsRow w.heap.size 3 1 v (hits l fs k).length (ints (hits l fs k)))) (fun _ i _=>fs.length - (intOf i).toNat)
 case atStart=>exact ⟨0,Nat.zero_le _,rfl,hb1,rfl,World.ownsRow_nil _ _ _ _⟩
 case round =>
  obtain ⟨k,hk,rfl,g,HA,HO⟩:=hrel
  by_cases hlt:k<fs.length
  ·obtain ⟨ak,ck,ck1,ck2⟩:=(HS.out.gr g hbl) k hlt
   have HK:Hid (FiAt wr ak (fat fs k)):=ck2
   clear ck2
   have hbr:=g.lt hbl
   go_wp2_with fail
   refine (Check_ad (fat fs k) ak ck _ (HN.out _ (fat_mem hlt)) HK.out (HW.out _ (fat_mem hlt))).mono ?_
   cases h2:filterOk (fat fs k)
   ·rw [show chk (fat fs k)=2 by simp [chk,h2]]
    rintro e w2 ⟨rfl,hb2⟩
    have Hr:Hid (mErr l fs=2):=by
     show _=_
     rw [Hm.out,all_stop filterOk fs k [] hlt h2];rfl
    go_wp2_with fail
    go_ret2
    refine ⟨_,ret_tup Hr.out.symm,Gr.call g hb2,?_⟩
    have e:mRes l fs=[]:=by simp [mRes,Hr.out]
    rw [e]
    exact World.ownsRow_nil _ _ _ _
   ·rw [show chk (fat fs k)=0 by simp [chk,h2]]
    rintro e w2 ⟨rfl,hb2⟩
    have g2:Gr w w2:=Gr.call g hb2
    go_wp2_with fail
    refine (matches_ad (fat fs k) l ak ad ck cap m _ (HN.out _ (fat_mem hlt)) HL.out (HK.out.gr hb2) (HE.out.gr g2) HE1.out h2 (g2.ml hM)).mono ?_
    rintro e w3 ⟨rfl,hb3⟩
    have g3:Gr w w3:=Gr.call g2 hb3
    have HO3:Hid (w3.ownsRow w.heap.size 3 1 u7 (hits l fs k).length (ints (hits l fs k))):=ownsGr (ownsGr HO.out hb2) hb3
    have hkl:=hits_le l fs k
    cases h3:mat l (fat fs k)
    ·have HN':Hid (hits l fs (k+1)=hits l fs k):=hits_no h3
     go_wp2_with fail
     go_roundw
     case rel=>exact ⟨k+1,by omega,by go_num,g3,all_snoc filterOk fs k [] hlt HA.out h2,by rw [HN'.out];exact HO3.out⟩
     case measure=>simp [intOf];omega
    ·have HN':Hid (hits l fs (k+1)=hits l fs k++[k]):=hits_yes h3
     have hsz3:=g3.size
     go_wp2_with (at_builtin;refine wpList_append_own _ rfl _ _ 27 rfl w.heap.size 3 i0 (.int .i64 0) 1 8 Tryz.underlying27 hi hz0 hz1 hz2 rfl (by decide) _ _ _ rfl (HO3.out.alloc _) ⟨w3.heap.size,0,none⟩ 1 1 [.int .i64 k] rfl rfl (cell_one_new _ _ _) ?c2 ?c3 ?c4 ?c5 ?_)
     case c2=>intro u hu;simp at hu;subst hu;rfl
     case c3=>unfold maxLen;omega
     case c4=>omega
     case c5=>simp;omega
     intro v' w4 hown' hgrow _
     have g4:Gr w w4:=Below.grown (g3.alloc _) hgrow (by simp;omega) (fun b hb=>by
      rcases HO3.out.2 with ⟨hv,_⟩ | ⟨q,cap,cur,hv,hq,_⟩
      ·rw [hv] at hb;simp [Value.ownBlock] at hb
      ·rw [hv] at hb;simp [Value.ownBlock] at hb;omega)
     have HO4:Hid (w4.ownsRow w.heap.size 3 1 v' (hits l fs (k+1)).length (ints (hits l fs (k+1)))):=by
      show World.ownsRow _ _ _ _ _ _ _
      rw [HN'.out,ints_snoc,List.length_append];exact hown'
     clear hown' hgrow
     go_wp2
     go_roundw
     case rel=>exact ⟨k+1,by omega,by go_num,g4,all_snoc filterOk fs k [] hlt HA.out h2,HO4⟩
     case measure=>simp [intOf];omega
  ·go_wp2
   go_ret2
   have Hr:mErr l fs=0:=by rw [Hm.out,all_end filterOk fs k hlt HA.out];rfl
   have e:mRes l fs=hits l fs k:=by
    have:k=fs.length:=by omega
    simp [mRes,Hr,this]
   refine ⟨_,ret_tup Hr.symm,g,?_⟩
   rw [e]
   exact HO.out
end Go.Proofs.YtecnfgikbmcgoaaGreat
namespace Go.Proofs.YtecnfgikbmcgoaaGreat
open Go.RowKit
open Go.Maps (Keyed)
open Go.ChangeMaps (setBlock)
def nCl (T:Tc) (s:Ts):Nat:=sm T.nb fun b=>((s.held b).filter fun h=>h.fr == -1).length
theorem sm_cong {f g:Nat→Nat}:∀ n,(∀ i,i<n→f i=g i)→sm n f=sm n g
 | 0,_=>rfl
 | n+1,h=>by
  show sm n f+f n=sm n g+g n
  rw [sm_cong n (fun i hi=>h i (Nat.lt_succ_of_lt hi)),h n (Nat.lt_succ_self n)]
theorem ncl_eq {T:Tc} {r:Nat→Rl} {w:World} {Xs:Nat→List Hm} {qs:Nat→Nat→List Mm} {cls:List Cl} {s:Ts} (h:Tm T r w Xs qs cls) (v:Vw T Xs qs s) (hs:∀ b,b<T.nb→Srt (s.held b)):(sm T.nb fun b=>ofCl (Xs b))=nCl T s:=by
 refine sm_cong T.nb fun b hb=>?_
 obtain ⟨es,clock,hp⟩:=h.hp hb
 have:=ofCl_len hp (L:=((s.held b).filter fun h=>h.fr == -1).map fun x=>x.key) (by rw [List.pairwise_map];exact (hs b hb).filter _) (fun k=>by
  rw [List.mem_map]
  constructor
  ·rintro ⟨g,hg,rfl⟩
   obtain ⟨h1,h2⟩:=List.mem_filter.1 hg
   obtain ⟨x,hx,rfl⟩:=(v.held b hb g).1 h1
   exact ⟨x,hx,by simpa using h2,rfl⟩
  ·rintro ⟨x,hx,h1,rfl⟩
   exact ⟨x.1,List.mem_filter.2 ⟨(v.held b hb x.1).2 ⟨x,hx,rfl⟩,by simpa using h1⟩,rfl⟩)
 rw [List.length_map] at this
 exact this.symm
theorem filters_w {T:Tc} {r:Nat→Rl} {w:World} {Xs:Nat→List Hm} {qs:Nat→Nat→List Mm} {cls:List Cl} {s:Ts} (h:Tm T r w Xs qs cls) (v:Vw T Xs qs s) (hs:∀ b,b<T.nb→Srt (s.held b)) (hm:Sm T s) :
  Calls Tryz.prog 47 #[.pointer (some ⟨T.TB,0,none⟩)] w fun e w'=>e = .returned (.int .i64 (nCl T s:Nat))∧Gr w w':=by
 have hh:Hs w T.TB T.HB 0 T.nb T.hcap (fun b=>if b<T.nb then Xs b else []):=by
  refine ⟨h.hs.c0,h.hs.tlt,h.hs.hlt,fun b hb=>?_⟩
  obtain ⟨MB,es,clock,h1,h2⟩:=h.hs.at' b hb
  exact ⟨MB,es,clock,h1,by rw [if_pos hb];exact h2⟩
 have e:(sm T.nb fun b=>ofCl (if b<T.nb then Xs b else []))=nCl T s:=by
  rw [← ncl_eq h v hs]
  exact sm_cong T.nb fun b hb=>by rw [if_pos hb]
 have:=filtersOfClients_any T.TB T.HB 0 T.nb T.hcap _ w h.b.nb8 (fun b=>by
  by_cases hb:b<T.nb
  ·rw [if_pos hb];exact Nat.le_trans (vw_len h v hb) (hm.h b hb)
  ·rw [if_neg hb];simp) hh
 rw [e] at this
 exact this
theorem Tryz.zeroHd (w:World):(zeroValue 121).run Tryz.prog w = .ok (.agg #[.int .i64 0,.int .i64 0,.slice none 0 0,.int .i64 0]) w:=Tryz.zeroValue121 w
theorem Tk.find {T:Tc} {r:Nat→Rl} {w:World} {cls:List Cl} (h:Tk T r w cls) {x:Cl} (hx:x∈cls):(Instr.lookup 116 (.map (some T.CB)) (.int .i64 x.num) true).run Tryz.prog w = .ok (.tuple #[.pointer (some ⟨x.blk,0,none⟩),.bool true]) w:=by
 obtain ⟨es,clock,hmp⟩:=h.mp
 obtain ⟨lk,hlk⟩:=keyI x.num (h.num x hx).1
 exact Mp.look_yes Tryz.keyedI Tryz.underlying116 hmp hlk (List.mem_map.2 ⟨x,hx,rfl⟩) true
theorem copy_own (T:Tc) (r:Nat→Rl) (w w3:World) (Xs:Nat→List Hm) (qs:Nat→Nat→List Mm) (cls:List Cl) (f:List Wnt) (ad:Option Addr) (cap:Nat) (hT:Tm T r w Xs qs cls) (G:Gr w w3) (hf:FiM w ad f) :
  Calls Tryz.prog 49 #[.slice ad f.length cap] w3 fun e w'=>∃ g cp r4,e = .returned (.slice (some ⟨g,0,none⟩) f.length cp)∧(Tm T r4 w' Xs qs cls∧FiR r4 w' (some ⟨g,0,none⟩) f∧Fr r r4 w w')∧Gr w3 w':=by
 refine (copyOfFilter_any f ad cap w3 (hf.gr G)).mono ?_
 rintro e w' ⟨v,rfl,ho,g1⟩
 have hne:0<f.length:=List.length_pos_iff.2 (fi_ok_of hf.ok).2
 obtain ⟨a,cp,rfl,hb⟩:=owns_shape ho
 obtain ⟨g,rfl⟩:=hb hne
 have hlow:=own_low ho g rfl
 have hlt:=owns_lt ho
 obtain ⟨ad',cap',e1,hfa⟩:=owns_wants ho
 injection e1 with e1 _ _
 subst e1
 have hw:=hT.b.ml.pos
 have hs:=G.size
 have T3:=(hT.gr (Gr.call G g1)).own (fun k=>if k=g then .fx else r k) (fun k hk=>by
  by_cases e:k=g
  ·subst e;exact absurd (hT.b.top k (by omega)) hk
  ·exact if_neg e) (by show (if 0=g then Rl.fx else r 0) = .no;rw [if_neg (by omega)];exact hT.b.r0) (fun k hk=>by rw [if_neg (by omega)];exact hT.b.top k (by have:=g1.size;omega))
 refine ⟨g,cp,_,rfl,⟨T3,⟨⟨?_,hf.wf,hf.ok⟩,g,0,rfl,if_pos rfl⟩,?_⟩,g1⟩
 ·rcases hfa with h0 | h0
  ·rw [h0] at hne;simp at hne
  ·exact h0
 ·have gg:=Gr.call G g1
  exact ⟨gg.os,gg.tape,gg.output,gg.size,fun k hk _=>gg.block k hk,fun k hk=>if_neg (by omega)⟩
set_option maxRecDepth 100000 in
set_option maxHeartbeats 4000000 in
theorem Subscribe_ok (T:Tc) (r:Nat→Rl) (w:World) (cls:List Cl) (s:Ts) (x:Cl) (id:Int) (f:List Wnt) (ad:Option Addr) (cap:Nat)
  (hT:Tw T r w cls s) (hx:x∈cls) (hid:I64 id) (hf:FiM w ad f) (hs:∀ b,b<T.nb→Srt (s.held b)) (hn:∀ g∈s.held x.at',g.key≠(x.num,id)) (hm:Sm T s) (hc:nCl T s<64) :
  Calls Tryz.prog 22 #[.pointer (some ⟨T.TB,0,none⟩),.int .i64 x.num,.int .i64 id,.slice ad f.length cap] w fun e w'=>e = .returned (.int .i64 0) ∧ ∃ r',Tw T r' w' cls (s.turn cov T.adj x.at' (ins ⟨(x.num,id),f,-1⟩ (s.held x.at')))∧Fr r r' w w':=by
 obtain ⟨Xs,qs,hT,hV⟩:=hT
 have hnum:=(hT.k.num x hx).1
 have hb:=(hT.k.num x hx).2
 have hnb:=hT.b.nb8
 have hlu:=hT.k.find hx
 have c1:=hT.b.c1
 obtain ⟨fb,fo,rfl,hfb,hfa⟩:=hf.at'
 have hlen:=hf.len
 have hchk:chk f=0:=by simp [chk,hf.ok]
 have CK:=Hid.mk' (Check_ad f (some ⟨fb,fo,none⟩) cap w (by unfold maxLen;omega) (Or.inr ⟨fb,fo,rfl,hfb,hfa⟩) hf.wf)
 rw [hchk] at CK
 have HT:=Hid.mk' hT
 have HV:=Hid.mk' hV
 have HF:=Hid.mk' hf
 have HS:=Hid.mk' hs
 have HN:=Hid.mk' hn
 have HM:=Hid.mk' hm
 have HC:=Hid.mk' hc
 have HX:=Hid.mk' hx
 have HI:=Hid.mk' (And.intro hnum hid)
 clear hT hV hf hs hn hm hc hx hnum hid hfa hchk
 go_enter Tryz.func22,Tryz.ntmps22
 go_wp2_with fail
 refine CK.out.mono ?_
 rintro e w1 ⟨rfl,g1⟩
 have ga:=g1.alloc (.cells #[.int .i64 x.num,.int .i64 id] 112)
 have HB:=heap_alloc_new w1 (.cells #[.int .i64 x.num,.int .i64 id] 112)
 have hsz:(w1.alloc (.cells #[.int .i64 x.num,.int .i64 id] 112)).heap.size=w1.heap.size+1:=by simp
 have G1:=Hid.mk' ga
 have HHB:=Hid.mk' HB
 clear CK g1 ga HB hlu c1
 go_wp2_with fail
 generalize (w1.alloc (.cells #[.int .i64 x.num,.int .i64 id] 112))=W1 at *
 have T1:=HT.out.gr G1.out
 obtain ⟨es,clock,hmp⟩:=(T1.h.at' x.at' hb).2
 obtain ⟨lk,hlk⟩:=keyK (x.num,id) HI.out.1 HI.out.2
 have hno:∀ v,(pk (x.num,id),v) ∉ (Xs x.at').map mv:=by
  intro v hv'
  obtain ⟨y,hy,e⟩:=List.mem_map.1 hv'
  injection e with e1 e2
  exact HN.out y.1 ((HV.out.held _ hb _).2 ⟨y,hy,rfl⟩) (pk_inj e1)
 have gz:Gr W1 (W1.alloc (.cells #[.int .i64 0,.int .i64 0,.slice none 0 0,.int .i64 0] 121)):=(Gr.refl W1).alloc _
 have hlu:=Mp.look_no Tryz.keyedK Tryz.underlying123 (hmp.kept (w':=W1.drew) rfl) hlk hno Tryz.zeroHd true
 have hlu2:=Mp.look_no Tryz.keyedK Tryz.underlying123 (hmp.kept (w':=(W1.alloc (.cells #[.int .i64 0,.int .i64 0,.slice none 0 0,.int .i64 0] 121)).drew) (gz.block _ hmp.lt)) hlk hno Tryz.zeroHd true
 unfold pk at hlu hlu2
 have hTB:=T1.tlt
 have hHB:=T1.hlt
 have hws:w1.heap.size<W1.heap.size:=by omega
 have c0:=T1.b.c0
 have cb:=T1.b.hb x.at' hb
 obtain ⟨hcr,hcb⟩:=T1.k.blk x HX.out
 have hclt:=blk_lt hcb
 have k0:W1.cell? ⟨w1.heap.size,0,none⟩=some (.int .i64 x.num):=by rw [cell_of_row _ _ _ _ _ _ HHB.out];rfl
 have k1:W1.cell? ⟨w1.heap.size,1,none⟩=some (.int .i64 id):=by rw [cell_of_row _ _ _ _ _ _ HHB.out];rfl
 have ka:W1.cell? ⟨x.blk,0,none⟩=some (.int .i64 x.at'):=by rw [cell_of_row _ _ _ _ _ _ hcb];rfl
 have c0':=(gz.cell (p:=⟨T.TB,0,none⟩) hTB).trans c0
 have cb':=(gz.cell (p:=⟨T.HB,x.at',none⟩) hHB).trans cb
 have k0':=(gz.cell (p:=⟨w1.heap.size,0,none⟩) hws).trans k0
 have k1':=(gz.cell (p:=⟨w1.heap.size,1,none⟩) hws).trans k1
 have ka':=(gz.cell (p:=⟨x.blk,0,none⟩) hclt).trans ka
 have HT1:=Hid.mk' T1
 have HCB:=Hid.mk' hcb
 clear T1 hmp hno gz hcr hcb
 go_region
 all_goals
  clear hlu hlu2 c0' cb' k0' k1' ka' c0 cb k0 k1 ka
  have gz:Gr W1 (W1.alloc (.cells #[.int .i64 0,.int .i64 0,.slice none 0 0,.int .i64 0] 121)).drew:=((Gr.refl W1).alloc _).drew
  have G2:=Hid.mk' (Gr.call G1.out gz)
  have HK2:=Hid.mk' (blk_gr gz HHB.out)
  have T2:=HT1.out.gr gz
  have FC:=filters_w T2 HV.out HS.out HM.out
  have HFC:=Hid.mk' FC
  have hcc:=HC.out
  clear gz T2 FC
  go_wp2_with fail
  generalize (W1.alloc (.cells #[.int .i64 0,.int .i64 0,.slice none 0 0,.int .i64 0] 121)).drew=W2 at *
  refine HFC.out.mono ?_
  rintro e w3 ⟨rfl,g3⟩
  have G3:=Hid.mk' (Gr.call G2.out g3)
  have HK3:=Hid.mk' (blk_gr g3 HK2.out)
  have hcc':¬ (64:Int)≤(nCl T s:Int):=by omega
  clear HFC g3
  have HCL3:=Hid.mk' ((HT.out.gr G3.out).k.blk x HX.out).2
  have k0:w3.cell? ⟨w1.heap.size,0,none⟩=some (.int .i64 x.num):=by rw [cell_of_row _ _ _ _ _ _ HK3.out];rfl
  have k1:w3.cell? ⟨w1.heap.size,1,none⟩=some (.int .i64 id):=by rw [cell_of_row _ _ _ _ _ _ HK3.out];rfl
  have ka:w3.cell? ⟨x.blk,0,none⟩=some (.int .i64 x.at'):=by rw [cell_of_row _ _ _ _ _ _ HCL3.out];rfl
  have CF:Hid (∀ W,W=w3.drew→Calls Tryz.prog 49 #[.slice (some ⟨fb,fo,none⟩) f.length cap] W fun e w'=>∃ g cp r4,e = .returned (.slice (some ⟨g,0,none⟩) f.length cp)∧(Tm T r4 w' Xs qs cls∧FiR r4 w' (some ⟨g,0,none⟩) f∧Fr r r4 w w')∧w'.cell? ⟨w1.heap.size,0,none⟩=some (.int .i64 x.num)∧w'.cell? ⟨w1.heap.size,1,none⟩=some (.int .i64 id)∧w'.cell? ⟨x.blk,0,none⟩=some (.int .i64 x.at')):=by
   intro W e
   subst e
   refine (copy_own T r w w3.drew Xs qs cls f _ cap HT.out G3.out.drew HF.out).mono ?_
   rintro e w' ⟨g,cp,r4,h1,h2,h3⟩
   have z1:=blk_gr h3 (show w3.drew.heap[_]? = _ from HK3.out)
   have z2:=blk_gr h3 (show w3.drew.heap[_]? = _ from HCL3.out)
   exact ⟨g,cp,r4,h1,h2,by rw [cell_of_row _ _ _ _ _ _ z1];rfl,by rw [cell_of_row _ _ _ _ _ _ z1];rfl,by rw [cell_of_row _ _ _ _ _ _ z2];rfl⟩
  go_wp2_with fail
  go_region_with (first
   | (go_at_call 49;refine (CF.out _ rfl).mono ?_;rintro e w4 ⟨g,cp,r4,rfl,h4,k0',k1',ka'⟩)
   | (go_at_call 48;refine (hold_w T r4 _ Xs qs cls s x.at' ⟨(x.num,id),f,-1⟩ (some ⟨g,0,none⟩) cp h4.1 HV.out hb h4.2.1 HI.out (HS.out _ hb) HN.out HM.out).mono ?_;rintro e w5 ⟨rfl,FE⟩))
  all_goals
   have FE2:=Hid.mk' FE
   have H4:=Hid.mk' h4.2.2
   clear FE h4 CF k0' k1' ka' k0 k1 ka
   go_wp2_with fail
   go_ret
   obtain ⟨r',z1,z2⟩:=FE2.out
   exact ⟨rfl,r',z1,H4.out.trans z2⟩
end Go.Proofs.YtecnfgikbmcgoaaGreat
