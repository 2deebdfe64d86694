import Derived.Test.YtecnfgikbmcgoaaGreatG28
import Derived.Test.YtecnfgikbmcgoaaGreatG23
import Derived.Test.YtecnfgikbmcgoaaGreatG15
import Derived.Test.YtecnfgikbmcgoaaGreatG4
namespace Go.Proofs.YtecnfgikbmcgoaaGreat
open Go.RowKit
open Go.Maps (Keyed)
theorem hasBroker_out (T:Tc) (r:Nat→Rl) (w:World) (b:Int) (h:Tb T r w) (hb:b<0∨(T.nb:Int)≤b):Calls Tryz.prog 39 #[.pointer (some ⟨T.TB,0,none⟩),.int .i64 b] w fun e w'=>e = .returned (.bool false)∧Gr w w':=by
 have c0:=h.c0
 have hnb:=h.nb8
 by_cases h0:b<0
 ·go_enter Tryz.func39,Tryz.ntmps39
  go_wp2_with fail
  go_ret
  exact ⟨rfl,Gr.refl _⟩
 ·have h1:(T.nb:Int)≤b:=by omega
  have h2:(0:Int)≤b:=by omega
  clear hb h0
  go_enter Tryz.func39,Tryz.ntmps39
  go_wp2_with fail
  go_ret
  exact ⟨ret_bool (by simp;omega),Gr.refl _⟩
theorem Attach_out (T:Tc) (r:Nat→Rl) (w:World) (cls:List Cl) (s:Ts) (c b:Int) (hT:Tw T r w cls s) (hb:b<0∨(T.nb:Int)≤b) :
  Calls Tryz.prog 36 #[.pointer (some ⟨T.TB,0,none⟩),.int .i64 c,.int .i64 b] w fun e w'=>e = .returned (.int .i64 5)∧Gr w w':=by
 have HB:=Hid.mk' (hasBroker_out T r w b hT.b hb)
 clear hT hb
 go_enter Tryz.func36,Tryz.ntmps36
 go_wp2_with fail
 refine HB.out.mono ?_
 rintro e w1 ⟨rfl,g1⟩
 have G1:=Hid.mk' g1
 clear HB g1
 go_wp2_with fail
 go_ret
 exact ⟨rfl,G1.out⟩
set_option maxRecDepth 100000 in
set_option maxHeartbeats 4000000 in
theorem Attach_twice (T:Tc) (r:Nat→Rl) (w:World) (cls:List Cl) (s:Ts) (b:Nat) (x:Cl) (hT:Tw T r w cls s) (hb:b<T.nb) (hx:x∈cls) :
  Calls Tryz.prog 36 #[.pointer (some ⟨T.TB,0,none⟩),.int .i64 x.num,.int .i64 b] w fun e w'=>e = .returned (.int .i64 6)∧Gr w w':=by
 have HB:=Hid.mk' (hasBroker_in T r w b hT.b hb)
 have HT:=Hid.mk' hT
 clear hT
 go_enter Tryz.func36,Tryz.ntmps36
 go_wp2_with fail
 refine HB.out.mono ?_
 rintro e w1 ⟨rfl,g1⟩
 obtain ⟨Xs,qs,hT1,hV⟩:=HT.out.gr g1
 have hlu:=hT1.k.find hx
 have c1:=hT1.b.c1
 have G1:=Hid.mk' g1
 clear HB g1 hT1 hV
 go_wp2_with fail
 go_ret
 exact ⟨rfl,G1.out⟩
theorem Tk.findNo {T:Tc} {r:Nat→Rl} {w:World} {cls:List Cl} (h:Tk T r w cls) {c:Int} (hc:I64 c) (hn:∀ x∈cls,x.num≠c):(Instr.lookup 116 (.map (some T.CB)) (.int .i64 c) true).run Tryz.prog w = .ok (.tuple #[.pointer none,.bool false]) w:=by
 obtain ⟨es,clock,hmp⟩:=h.mp
 obtain ⟨lk,hlk⟩:=keyI c hc
 have hno:∀ v,(Value.int .i64 c,v) ∉ cls.map cv:=by
  intro v hv'
  obtain ⟨x,hx,e⟩:=List.mem_map.1 hv'
  injection e with e1 e2
  injection e1 with e1 e3
  exact hn x hx e3
 exact Mp.look_no Tryz.keyedI Tryz.underlying116 hmp hlk hno Tryz.zeroC true
set_option maxRecDepth 100000 in
set_option maxHeartbeats 4000000 in
theorem Attach_full (T:Tc) (r:Nat→Rl) (w:World) (cls:List Cl) (s:Ts) (c:Int) (b:Nat) (hT:Tw T r w cls s) (hc:I64 c) (hb:b<T.nb) (hn:∀ x∈cls,x.num≠c) (hl:16≤cls.length) (hl2:cls.length≤1048576) :
  Calls Tryz.prog 36 #[.pointer (some ⟨T.TB,0,none⟩),.int .i64 c,.int .i64 b] w fun e w'=>e = .returned (.int .i64 7)∧Gr w w':=by
 have HB:=Hid.mk' (hasBroker_in T r w b hT.b hb)
 have HT:=Hid.mk' hT
 have HN:=Hid.mk' hn
 have HC:=Hid.mk' hc
 clear hT hn hc
 go_enter Tryz.func36,Tryz.ntmps36
 go_wp2_with fail
 refine HB.out.mono ?_
 rintro e w1 ⟨rfl,g1⟩
 obtain ⟨Xs,qs,hT1,hV⟩:=HT.out.gr g1
 have hlu:=hT1.k.findNo HC.out HN.out
 have c1:=hT1.b.c1
 obtain ⟨es,clock,hmp⟩:=hT1.k.mp
 have hblk:=hmp.blk
 have hsz:es.size=cls.length:=by
  have:=congrArg List.length hmp.ent
  simpa using this
 have G1:=Hid.mk' g1
 have hlen:(Builtin.len_ #[116] 3 #[.map (some T.CB)]).run Tryz.prog w1 = .ok (.int .i64 (cls.length:Nat)) w1:=by
  simp [Builtin.len_,run_underlying Tryz.underlying116,getObj,Sem.run,hblk,hsz,goInt]
 have hl3:(16:Int)≤(cls.length:Int):=by omega
 clear HB g1 hT1 hV hmp hblk hsz
 go_wp2_with fail
 go_ret
 exact ⟨rfl,G1.out⟩
set_option maxRecDepth 100000 in
set_option maxHeartbeats 4000000 in
theorem Subscribe_none (T:Tc) (r:Nat→Rl) (w:World) (cls:List Cl) (s:Ts) (c id:Int) (v:Value) (hT:Tw T r w cls s) (hc:I64 c) (hn:∀ x∈cls,x.num≠c) :
  Calls Tryz.prog 22 #[.pointer (some ⟨T.TB,0,none⟩),.int .i64 c,.int .i64 id,v] w fun e w'=>e = .returned (.int .i64 5)∧Gr w w':=by
 obtain ⟨Xs,qs,hT1,hV⟩:=hT
 have hlu:=hT1.k.findNo hc hn
 have c1:=hT1.b.c1
 clear hT1 hV hn
 go_enter Tryz.func22,Tryz.ntmps22
 go_wp2_with fail
 go_ret
 exact ⟨rfl,Gr.refl _⟩
set_option maxRecDepth 100000 in
set_option maxHeartbeats 4000000 in
theorem Unsubscribe_no (T:Tc) (r:Nat→Rl) (w:World) (cls:List Cl) (s:Ts) (c id:Int) (hT:Tw T r w cls s) (hc:I64 c) (hn:∀ x∈cls,x.num≠c) :
  Calls Tryz.prog 18 #[.pointer (some ⟨T.TB,0,none⟩),.int .i64 c,.int .i64 id] w fun e w'=>e = .returned (.int .i64 5)∧Gr w w':=by
 obtain ⟨Xs,qs,hT1,hV⟩:=hT
 have hlu:=hT1.k.findNo hc hn
 have c1:=hT1.b.c1
 clear hT1 hV hn
 go_enter Tryz.func18,Tryz.ntmps18
 go_wp2_with fail
 go_ret
 exact ⟨rfl,Gr.refl _⟩
set_option maxRecDepth 100000 in
set_option maxHeartbeats 4000000 in
theorem Subscribe_bad (T:Tc) (r:Nat→Rl) (w:World) (cls:List Cl) (s:Ts) (x:Cl) (id:Int) (f:List Wnt) (ad:Option Addr) (cap:Nat)
  (hT:Tw T r w cls s) (hx:x∈cls) (hl:f.length≤maxLen) (hf:FiAt w ad f) (hwf:∀ y∈f,Wnt.Wf y) (hk:chk f≠0) :
  Calls Tryz.prog 22 #[.pointer (some ⟨T.TB,0,none⟩),.int .i64 x.num,.int .i64 id,.slice ad f.length cap] w fun e w'=>e = .returned (.int .i64 (chk f))∧Gr w w':=by
 obtain ⟨Xs,qs,hT1,hV⟩:=hT
 have hlu:=hT1.k.find hx
 have c1:=hT1.b.c1
 have CK:=Hid.mk' (Check_ad f ad cap w hl hf hwf)
 have hk':(chk f==0)=false:=by simpa using hk
 generalize chk f=kk at *
 clear hT1 hV hf
 go_enter Tryz.func22,Tryz.ntmps22
 go_wp2_with fail
 refine CK.out.mono ?_
 rintro e w1 ⟨rfl,g1⟩
 have G1:=Hid.mk' g1
 clear CK g1 hlu c1
 go_wp2_with fail
 go_ret
 exact ⟨rfl,G1.out⟩
set_option maxRecDepth 100000 in
set_option maxHeartbeats 4000000 in
theorem Held_out (T:Tc) (r:Nat→Rl) (w:World) (cs:List (Pc (List Atr))) (s:Ts) (b from_:Int) (hT:Tf T r w cs s) (hb:b<0∨(T.nb:Int)≤b) :
  Calls Tryz.prog 16 #[.pointer (some ⟨T.TB,0,none⟩),.int .i64 b,.int .i64 from_] w fun e w'=>e = .returned (.tuple #[.slice none 0 0,.int .i64 5])∧Gr w w':=by
 have HBR:=Hid.mk' (hasBroker_out T r w b hT.b hb)
 clear hT hb
 go_enter Tryz.func16,Tryz.ntmps16
 go_wp2_with fail
 refine HBR.out.mono ?_
 rintro e w1 ⟨rfl,g1⟩
 have G1:=Hid.mk' g1
 clear HBR g1
 go_wp2_with fail
 go_ret2
 exact ⟨rfl,G1.out⟩
end Go.Proofs.YtecnfgikbmcgoaaGreat
namespace Go.Proofs.YtecnfgikbmcgoaaGreat
open Go.RowKit
theorem nbs_count (adj:Nat→Nat→Bool) (nb a:Nat):∀ k,k≤nb→(nbs adj nb a k).length=sm k (fun b=>if adj a b=true then 1 else 0)
 | 0,_=>by simp [nbs,sm]
 | k+1,h=>by
  have ih:=nbs_count adj nb a k (by omega)
  show _=sm k _+_
  cases hk:adj a k with
  | true=>rw [nbs_yes (by omega) hk,List.length_append,ih];simp [hk]
  | false=>rw [nbs_no hk,ih];simp [hk]
theorem lkTo_count (T:Tc) (s:Ts):∀ k,(lkTo T s k).length=sm k (fun a=>sm T.nb fun b=>if T.adj a b=true then 1 else 0)
 | 0=>by simp [lkTo,sm]
 | k+1=>by
  rw [lkTo_succ,List.length_append,lkTo_count T s k]
  show _=sm k _+_
  congr 1
  show _=sm T.nb fun b=>if T.adj k b=true then 1 else 0
  rw [← nbs_count T.adj T.nb k T.nb (Nat.le_refl _)]
  simp [lk1]
theorem links_len {T:Tc} {nxt:Nat→Nat→Int} {rank:Nat→Nat→Nat} (S:Sh T nxt rank) (hp:0<T.nb) (s:Ts):(lkTo T s T.nb).length+2=2*T.nb:=by
 rw [lkTo_count]
 exact links_count S.N S.Z S.R hp
theorem New_no (n:Int) (es:List Ky) (ad:Option Addr) (cap:Nat) (w:World) (hl:es.length≤maxLen) (h:EdAt w ad es) (hI:∀ e∈es,I64 e.1∧I64 e.2) (ht:treeB n es=false) :
  Calls Tryz.prog 35 #[.int .i64 n,.slice ad es.length cap] w fun e w'=>e = .returned (.tuple #[.pointer none,.int .i64 4])∧Gr w w':=by
 have IS:=Hid.mk' (isTree_any n es ad cap w hl h hI)
 rw [ht] at IS
 clear h hI ht
 go_enter Tryz.func35,Tryz.ntmps35
 go_wp2_with fail
 refine IS.out.mono ?_
 rintro e w1 ⟨rfl,g1⟩
 have G1:=Hid.mk' g1
 clear IS g1
 go_wp2_with fail
 exact bodyPost_ret (v:=.tuple #[.pointer none,.int .i64 4]) (by simp [results,Tryz.results35,go_sem]) rfl ⟨rfl,G1.out⟩
theorem Rw.start {A:Nat→Prop} {C:Rc} {T:Tc} {R:Nat→Rl} {w:World} {es:List Ky} {lv:Value} {Ls:List Rln} (h:Rt A C R w (fun _=>(none,0)) (fun _=>[]) lv Ls (.slice none 0 0) []) (hnb:C.nb=T.nb) (hav:Ls.map Rln.av=(lkA es C.nb C.nb).map (fun p=>⟨p.1,p.2,[],[]⟩)) (hg:good (fun b=>b) es) (hE:∀ a b,T.adj a b=true↔EdgeOf es a b) :
  Rw A C T R w [] (TS.none (List Wnt) (List Atr)):=by
 refine ⟨_,_,_,Ls,_,[],h,hnb,⟨fun b _=>rfl,?_⟩,rfl⟩
 rw [hav,hnb,lkA_lks hg hE]
 unfold linksOf
 refine List.map_congr_left fun p _=>?_
 rfl
theorem Rv.fromM {T:Tc} {Xs:Nat→List Hm} {Ls:List Rln} {s:Ts} (h:Rv T Xs Ls s) {b:Nat} (hb:b<T.nb) (from_:Int):fromM from_ (Xs b)=keysOf s b from_:=by
 unfold Go.Proofs.YtecnfgikbmcgoaaGreat.fromM keysOf
 rw [← h.held b hb,List.filter_map,List.map_map]
 rfl
theorem Rv.isLk {T:Tc} {Xs:Nat→List Hm} {Ls:List Rln} {s:Ts} (h:Rv T Xs Ls s) (hadj:∀ a b,T.adj a b=true→a<T.nb∧b<T.nb) (b:Nat) (from_:Int):Ls.any (isLk b from_)=true ↔ ∃ a:Nat,from_=(a:Int)∧T.adj b a=true:=by
 rw [List.any_eq_true]
 constructor
 ·rintro ⟨l,hl,hk⟩
  obtain ⟨k,hk',rfl⟩:=List.getElem_of_mem hl
  have e:(Ls.map Rln.av)[k]? = some (Ls[k]).av:=by rw [List.getElem?_map,List.getElem?_eq_getElem hk'];rfl
  rw [h.lk] at e
  obtain ⟨_,h2,_⟩:=linksOf_at e
  simp only [Go.Proofs.YtecnfgikbmcgoaaGreat.isLk,Bool.and_eq_true,beq_iff_eq,Int.natCast_inj] at hk
  simp only [Rln.av] at h2
  exact ⟨_,hk.2.symm,by rw [← hk.1];exact h2⟩
 ·rintro ⟨a,rfl,hab⟩
  obtain ⟨h1,h2⟩:=hadj b a hab
  obtain ⟨k,hk,hav,_⟩:=h.find h1 h2 hab
  obtain ⟨e1,e2,_⟩:=av_eq hav
  refine ⟨lnat Ls k,lnat_mem hk,?_⟩
  simp only [Go.Proofs.YtecnfgikbmcgoaaGreat.isLk,Bool.and_eq_true,beq_iff_eq,Int.natCast_inj]
  exact ⟨e1,e2⟩
theorem rHeld_t (A:Nat→Prop) (C:Rc) (T:Tc) (R:Nat→Rl) (w:World) (cs:List (Pc (List Atr))) (s:Ts) (b:Nat) (from_:Int) (hT:Rw A C T R w cs s) (hb:b<T.nb) (hm:Sm T s) (hadj:∀ a b,T.adj a b=true→a<T.nb∧b<T.nb) (hlk:(lks T).length≤14) (c:Bool) (hc:c=true↔from_ = -1 ∨ ∃ a:Nat,from_=(a:Int)∧T.adj b a=true) :
  Calls Tryz.prog 105 #[.pointer (some ⟨C.TB,0,none⟩),.int .i64 b,.int .i64 from_] w fun e w'=>HfP c e w w' (keysOf s b from_)∧Gr w w':=by
 obtain ⟨ads,Xs,lv,Ls,cv,rc,rt,hnb,rv,_⟩:=hT
 obtain ⟨la,lc,rfl⟩:=rt.lshape
 have hLl:Ls.length≤14:=by
  have:=congrArg List.length rv.lk
  rw [List.length_map,linksOf_len] at this
  omega
 have hbC:b<C.nb:=by omega
 have hXl:(Xs b).length≤1048576:=by
  have e:=congrArg List.length (rv.held b hb)
  rw [List.length_map] at e
  rw [e];exact hm.h _ hb
 have:=heldFrom_row C.TB C.HB C.nb C.hcap la lc Ls hLl (ads b).1 (ads b).2 (Xs b) b hbC from_ w rt.c0 rt.c1 rt.tlt rt.hlt rt.l.lk.rowAt (rt.hbc hbC) (rt.h.row b hbC).at' hXl
 rw [rv.fromM hb] at this
 have ec:((from_ == -1)||Ls.any (isLk b from_))=c:=by
  rw [Bool.eq_iff_iff,hc,Bool.or_eq_true,beq_iff_eq,rv.isLk hadj b from_]
 rw [ec] at this
 exact this
theorem rHeld_out (A:Nat→Prop) (C:Rc) (T:Tc) (R:Nat→Rl) (w:World) (cs:List (Pc (List Atr))) (s:Ts) (b from_:Int) (hT:Rw A C T R w cs s) (hb:b<0∨(T.nb:Int)≤b) :
  Calls Tryz.prog 105 #[.pointer (some ⟨C.TB,0,none⟩),.int .i64 b,.int .i64 from_] w fun e w'=>e = .returned (.tuple #[.slice none 0 0,.int .i64 5])∧w'=w:=by
 obtain ⟨ads,Xs,lv,Ls,cv,rc,rt,hnb,rv,_⟩:=hT
 exact heldFrom_out C.TB C.HB C.nb C.hcap w b from_ rt.c0 (by omega)
end Go.Proofs.YtecnfgikbmcgoaaGreat
namespace Go.Proofs.YtecnfgikbmcgoaaGreat
open Go.RowKit
open Go.Maps (Keyed)
set_option maxRecDepth 100000 in
set_option maxHeartbeats 4000000 in
theorem Subscribe_full (T:Tc) (r:Nat→Rl) (w:World) (cls:List Cl) (s:Ts) (x:Cl) (id:Int) (f:List Wnt) (ad:Option Addr) (cap:Nat)
  (hT:Tw T r w cls s) (hx:x∈cls) (hid:I64 id) (hf:FiM w ad f) (hs:∀ b,b<T.nb→Srt (s.held b)) (hn:∀ g∈s.held x.at',g.key≠(x.num,id)) (hm:Sm T s) (hc:64≤nCl T s) :
  Calls Tryz.prog 22 #[.pointer (some ⟨T.TB,0,none⟩),.int .i64 x.num,.int .i64 id,.slice ad f.length cap] w fun e w'=>e = .returned (.int .i64 7)∧Gr w w':=by
 obtain ⟨Xs,qs,hT,hV⟩:=hT
 have hnum:=(hT.k.num x hx).1
 have hb:=(hT.k.num x hx).2
 have hnb:=hT.b.nb8
 have hlu:=hT.k.find hx
 have c1:=hT.b.c1
 obtain ⟨fb,fo,rfl,hfb,hfa⟩:=hf.at'
 have hlen:=hf.len
 have hchk:chk f=0:=by simp [chk,hf.ok]
 have CK:=Hid.mk' (Check_ad f (some ⟨fb,fo,none⟩) cap w (by unfold maxLen;omega) (Or.inr ⟨fb,fo,rfl,hfb,hfa⟩) hf.wf)
 rw [hchk] at CK
 have HT:=Hid.mk' hT
 have HV:=Hid.mk' hV
 have HF:=Hid.mk' hf
 have HS:=Hid.mk' hs
 have HN:=Hid.mk' hn
 have HM:=Hid.mk' hm
 have HC:=Hid.mk' hc
 have HX:=Hid.mk' hx
 have HI:=Hid.mk' (And.intro hnum hid)
 clear hT hV hf hs hn hm hc hx hnum hid hfa hchk
 go_enter Tryz.func22,Tryz.ntmps22
 go_wp2_with fail
 refine CK.out.mono ?_
 rintro e w1 ⟨rfl,g1⟩
 have ga:=g1.alloc (.cells #[.int .i64 x.num,.int .i64 id] 112)
 have HB:=heap_alloc_new w1 (.cells #[.int .i64 x.num,.int .i64 id] 112)
 have hsz:(w1.alloc (.cells #[.int .i64 x.num,.int .i64 id] 112)).heap.size=w1.heap.size+1:=by simp
 have G1:=Hid.mk' ga
 have HHB:=Hid.mk' HB
 clear CK g1 ga HB hlu c1
 go_wp2_with fail
 generalize (w1.alloc (.cells #[.int .i64 x.num,.int .i64 id] 112))=W1 at *
 have T1:=HT.out.gr G1.out
 obtain ⟨es,clock,hmp⟩:=(T1.h.at' x.at' hb).2
 obtain ⟨lk,hlk⟩:=keyK (x.num,id) HI.out.1 HI.out.2
 have hno:∀ v,(pk (x.num,id),v) ∉ (Xs x.at').map mv:=by
  intro v hv'
  obtain ⟨y,hy,e⟩:=List.mem_map.1 hv'
  injection e with e1 e2
  exact HN.out y.1 ((HV.out.held _ hb _).2 ⟨y,hy,rfl⟩) (pk_inj e1)
 have gz:Gr W1 (W1.alloc (.cells #[.int .i64 0,.int .i64 0,.slice none 0 0,.int .i64 0] 121)):=(Gr.refl W1).alloc _
 have hlu:=Mp.look_no Tryz.keyedK Tryz.underlying123 (hmp.kept (w':=W1.drew) rfl) hlk hno Tryz.zeroHd true
 have hlu2:=Mp.look_no Tryz.keyedK Tryz.underlying123 (hmp.kept (w':=(W1.alloc (.cells #[.int .i64 0,.int .i64 0,.slice none 0 0,.int .i64 0] 121)).drew) (gz.block _ hmp.lt)) hlk hno Tryz.zeroHd true
 unfold pk at hlu hlu2
 have hTB:=T1.tlt
 have hHB:=T1.hlt
 have hws:w1.heap.size<W1.heap.size:=by omega
 have c0:=T1.b.c0
 have cb:=T1.b.hb x.at' hb
 obtain ⟨hcr,hcb⟩:=T1.k.blk x HX.out
 have hclt:=blk_lt hcb
 have k0:W1.cell? ⟨w1.heap.size,0,none⟩=some (.int .i64 x.num):=by rw [cell_of_row _ _ _ _ _ _ HHB.out];rfl
 have k1:W1.cell? ⟨w1.heap.size,1,none⟩=some (.int .i64 id):=by rw [cell_of_row _ _ _ _ _ _ HHB.out];rfl
 have ka:W1.cell? ⟨x.blk,0,none⟩=some (.int .i64 x.at'):=by rw [cell_of_row _ _ _ _ _ _ hcb];rfl
 have c0':=(gz.cell (p:=⟨T.TB,0,none⟩) hTB).trans c0
 have cb':=(gz.cell (p:=⟨T.HB,x.at',none⟩) hHB).trans cb
 have k0':=(gz.cell (p:=⟨w1.heap.size,0,none⟩) hws).trans k0
 have k1':=(gz.cell (p:=⟨w1.heap.size,1,none⟩) hws).trans k1
 have ka':=(gz.cell (p:=⟨x.blk,0,none⟩) hclt).trans ka
 have HT1:=Hid.mk' T1
 have HCB:=Hid.mk' hcb
 clear T1 hmp hno gz hcr hcb
 go_region
 all_goals
  clear hlu hlu2 c0' cb' k0' k1' ka' c0 cb k0 k1 ka
  have gz:Gr W1 (W1.alloc (.cells #[.int .i64 0,.int .i64 0,.slice none 0 0,.int .i64 0] 121)).drew:=((Gr.refl W1).alloc _).drew
  have G2:=Hid.mk' (Gr.call G1.out gz)
  have HK2:=Hid.mk' (blk_gr gz HHB.out)
  have T2:=HT1.out.gr gz
  have FC:=filters_w T2 HV.out HS.out HM.out
  have HFC:=Hid.mk' FC
  have hcc:=HC.out
  clear gz T2 FC
  go_wp2_with fail
  generalize (W1.alloc (.cells #[.int .i64 0,.int .i64 0,.slice none 0 0,.int .i64 0] 121)).drew=W2 at *
  refine HFC.out.mono ?_
  rintro e w3 ⟨rfl,g3⟩
  have G3:=Hid.mk' (Gr.call G2.out g3)
  have HK3:=Hid.mk' (blk_gr g3 HK2.out)
  have hcc':(64:Int)≤(nCl T s:Int):=by omega
  clear HFC g3
  go_wp2_with fail
  go_ret
  exact ⟨rfl,G3.out⟩
theorem Tw.lookNone {T:Tc} {r:Nat→Rl} {w:World} {cls:List Cl} {s:Ts} (h:Tw T r w cls s) {a b:Int} (ha:I64 a) (hb:I64 b) (hn:∀ x y:Nat,(x:Int)=a→(y:Int)=b→T.adj x y=true→s.q x y=[]):∃ va vc,∀ n:Nat,(Instr.lookup 117 (.map (some T.LB)) (.agg #[.int .i64 a,.int .i64 b]) false).run Tryz.prog (w.drewN n) = .ok (.slice va 0 vc) (w.drewN n):=by
 by_cases hx:∃ x y:Nat,(x:Int)=a∧(y:Int)=b∧T.adj x y=true
 ·obtain ⟨x,y,rfl,rfl,hxy⟩:=hx
  obtain ⟨Xs,qs,h1,h2⟩:=h
  obtain ⟨m,es,clock,hmp,_,hall,hev⟩:=h1.l.lk
  obtain ⟨v,hv⟩:=hev x y hxy
  obtain ⟨a',b',e,_,hQ⟩:=hall _ v hv
  have:=pk_inj e
  simp only [Prod.mk.injEq,Int.natCast_inj] at this
  rw [← this.1, ← this.2] at hQ
  have hq0:(qs x y).length=0:=by rw [vw_qlen h2,hn x y rfl rfl hxy];rfl
  rw [hq0] at hQ
  obtain ⟨va,vc,rfl⟩:=hQ.shape
  obtain ⟨lk,hlk⟩:=keyE ((x:Int),(y:Int)) ha hb
  exact ⟨va,vc,fun n=>Mp.look_yes Tryz.keyedE Tryz.underlying117 (hmp.kept (by rw [World.heap_drewN])) hlk hv false⟩
 ·obtain ⟨Xs,qs,h1,h2⟩:=h
  obtain ⟨m,es,clock,hmp,_,hall,hev⟩:=h1.l.lk
  obtain ⟨lk,hlk⟩:=keyE (a,b) ha hb
  have hno:∀ v,(pk (a,b),v) ∉ m:=fun v hv=>by
   obtain ⟨x,y,e,hxy,_⟩:=hall _ v hv
   have:=pk_inj e
   simp only [Prod.mk.injEq] at this
   exact hx ⟨x,y,this.1.symm,this.2.symm,hxy⟩
  exact ⟨none,0,fun n=>Mp.look_no Tryz.keyedE Tryz.underlying117 (hmp.kept (by rw [World.heap_drewN])) hlk hno Tryz.zeroQ false⟩
set_option maxRecDepth 100000 in
set_option maxHeartbeats 4000000 in
theorem Step_none (T:Tc) (r:Nat→Rl) (w:World) (cls:List Cl) (s:Ts) (a b:Int) (hT:Tw T r w cls s) (ha:I64 a) (hb:I64 b) (hn:∀ x y:Nat,(x:Int)=a→(y:Int)=b→T.adj x y=true→s.q x y=[]) :
  Calls Tryz.prog 37 #[.pointer (some ⟨T.TB,0,none⟩),.int .i64 a,.int .i64 b] w fun e w'=>e = .returned (.int .i64 5)∧Gr w w':=by
 have ga:Gr w (w.alloc (.cells #[.int .i64 a,.int .i64 b] 81)):=(Gr.refl w).alloc _
 have HB:=heap_alloc_new w (.cells #[.int .i64 a,.int .i64 b] 81)
 have hT1:=hT.gr ga
 obtain ⟨va,vc,hlu⟩:=hT1.lookNone ha hb hn
 have hc2:=hT1.b.c2
 have ka0:(w.alloc (.cells #[.int .i64 a,.int .i64 b] 81)).cell? ⟨w.heap.size,0,none⟩=some (.int .i64 a):=by rw [cell_of_row _ _ _ _ _ _ HB];rfl
 have ka1:(w.alloc (.cells #[.int .i64 a,.int .i64 b] 81)).cell? ⟨w.heap.size,1,none⟩=some (.int .i64 b):=by rw [cell_of_row _ _ _ _ _ _ HB];rfl
 have GA:=Hid.mk' ga
 have hTB:=hT1.tlt
 clear hT hn hT1 ga HB
 go_enter Tryz.func37,Tryz.ntmps37
 go_wp2_with fail
 generalize (w.alloc (.cells #[.int .i64 a,.int .i64 b] 81))=W1 at *
 go_quiet (fail)
 have G2:=Hid.mk' (GA.out.drewN nq)
 clear hlu ka0 ka1 hc2
 go_wp2_with fail
 go_ret
 exact ⟨rfl,G2.out⟩
end Go.Proofs.YtecnfgikbmcgoaaGreat
namespace Go.Proofs.YtecnfgikbmcgoaaGreat
open Go.RowKit
theorem Tryz.infoSlLk:(Tryz.prog.info? 51).map (fun i=>(i.zero,i.size,i.bytes))=some (some (.slice none 0 0),1,24):=by kernel_rfl
theorem Tryz.infoSlKy:(Tryz.prog.info? 41).map (fun i=>(i.zero,i.size,i.bytes))=some (some (.slice none 0 0),1,24):=by kernel_rfl
theorem Kv.own {g j base:Nat} {w wr:World} (h:Kv [] (some g) base w wr) (hg:base≤g) (u:Value):Kv [] (some g) base w (wr.setCell ⟨g,j,none⟩ u) :=
 h.trans ⟨Below.setCell (Below.refl _ _) (p:=⟨g,j,none⟩) hg u,fun k _ _ _ hk _ ho=>blk_set hk (p:=⟨g,j,none⟩) (fun (he:k=g)=>ho (by rw [he])) u⟩
theorem own_lt' {w:World} {base:Nat} {T:TypeId} {sz:Nat} {v:Value} {n:Nat} {xs:List Value} (h:w.ownsRow base T sz v n xs):v.ownBlock≠some w.heap.size:=by
 intro he
 rcases h.2 with ⟨hx,_⟩ | ⟨g,cap,cur,hx,_,hh,_⟩
 ·rw [hx] at he;simp [Value.ownBlock] at he
 ·rw [hx] at he
  have:g=w.heap.size:=by simpa [Value.ownBlock] using he
  have:=blk_lt hh;omega
theorem qr_of_owns {w:World} {base:Nat} {e:TypeId} {size n:Nat} {v:Value} {xs:List Value} (h:w.ownsRow base e size v n xs):Qr w e size (fun _=>True) v n xs:=by
 refine ⟨h.1,?_⟩
 rcases h.2 with h2 | ⟨g,cap,cur,hv,_,hh,h1,h2,h3,h4⟩
 ·exact Or.inl h2
 ·exact Or.inr ⟨g,0,cap,cur,hv,trivial,hh,h1,h2,by omega,by rw [List.drop_zero];exact h4⟩
theorem wp_append_keep2 {P:Program} (w:World) {o:Oper} {a:Act} {K:Act→World→Prop} {Q:Exit→Act→World→Prop} (s x:Operand) (t:TypeId)
  (ho:o.op = .call { callee:=.builtin .append,args:=#[s,x],argTypes:=#[t,t] })
  (base:Nat) (e:TypeId) (i:TypeInfo) (z:Value) (size bytes:Nat) (ht:P.underlying t=some (.slice e)) (hi:P.info? e=some i) (hz:i.zero=some z)
  (hsize:i.size=size) (hby:i.bytes=bytes) (hzs:z.cells.size=size) (hsz:0<size)
  (v:Value) (n:Nat) (xs:List Value) (hs:a.eval s=v) (hown:w.ownsRow base e size v n xs)
  (ad:Addr) (m c:Nat) (news:List Value) (hx:a.eval x = .slice (some ad) m c) (hl:news.length=m*size) (hnews:∀ j u,news[j]? = some u→w.cell? (ad.add j)=some u) (h1:∀ u∈news,u.oneCell'=true)
  (h63:n+m≤maxLen) (hbytes:(n+m)*bytes≤140737488355328) (hbase:base≤w.heap.size) (hm:0<m)
  (h:∀ v' w',w'.ownsRow base e size v' (n+m) (xs++news)→w.grownBy w' v.ownBlock→w'.ownsRow base e size v n xs→(v'.ownBlock=v.ownBlock∨v'.ownBlock=some w.heap.size)→K (a.put o.dst v') w'):o.wp P a w K Q:=by
 obtain ⟨v',w',hr,h2,h3,h4⟩:=run_append_keep (P:=P) w t o.type base e i z size bytes ht hi hz hsize hby hzs hsz v n xs hown ad m c news hl hnews h1 h63 hbytes hbase
 obtain ⟨v2,w2,hr2,_,_,h5,_⟩:=run_append_q (P:=P) w t o.type e i z size bytes ht hi hz hsize hby hzs (fun _=>True) v n xs (qr_of_owns hown) ad m c news hm hl hnews h1 h63 hbytes
 rw [hr] at hr2
 injection hr2 with hv hw
 subst hv
 unfold Oper.wp execOp
 simp only [ho,resolve,invoke,builtin,Sem.run_bind,Sem.run_pure,Result.andThen_ok,List.map_toArray,List.map_cons,List.map_nil,hs,hx,hr]
 exact h v' w' h2 h3 h4 h5
def set3 (xs:List Value) (k:Nat) (a b c:Value):List Value:=((xs.set k a).set (k+1) b).set (k+1+1) c
theorem take3 (xs:List Value) (k:Nat) (a b c:Value) (h:k+3≤xs.length):(set3 xs k a b c).take (k+3)=xs.take k++[a,b,c]:=by
 unfold set3
 have h1:=take_set xs k a (by omega)
 have h2:=take_set (xs.set k a) (k+1) b (by simp;omega)
 have h3:=take_set ((xs.set k a).set (k+1) b) (k+1+1) c (by simp;omega)
 rw [show k+3=k+1+1+1 by omega,h3,h2,h1]
 simp
theorem owns_set3 {w:World} {base:Nat} {e:TypeId} {g n cap:Nat} {xs:List Value} (h:w.ownsRow base e 3 (.slice (some ⟨g,0,none⟩) n cap) n xs) (k:Nat) (a b c:Value) :
  (((w.setCell ⟨g,k,none⟩ a).setCell ⟨g,k+1,none⟩ b).setCell ⟨g,k+1+1,none⟩ c).ownsRow base e 3 (.slice (some ⟨g,0,none⟩) n cap) n (set3 xs k a b c) :=
 (World.ownsRow.stored (World.ownsRow.stored (World.ownsRow.stored h k a).1 (k+1) b).1 (k+1+1) c).1
def set2 (xs:List Value) (k:Nat) (a b:Value):List Value:=(xs.set k a).set (k+1) b
theorem take2 (xs:List Value) (k:Nat) (a b:Value) (h:k+2≤xs.length):(set2 xs k a b).take (k+2)=xs.take k++[a,b]:=by
 unfold set2
 have h1:=take_set xs k a (by omega)
 have h2:=take_set (xs.set k a) (k+1) b (by simp;omega)
 rw [show k+2=k+1+1 by omega,h2,h1]
 simp
theorem owns_set2 {w:World} {base:Nat} {e:TypeId} {g n cap:Nat} {xs:List Value} (h:w.ownsRow base e 2 (.slice (some ⟨g,0,none⟩) n cap) n xs) (k:Nat) (a b:Value) :
  ((w.setCell ⟨g,k,none⟩ a).setCell ⟨g,k+1,none⟩ b).ownsRow base e 2 (.slice (some ⟨g,0,none⟩) n cap) n (set2 xs k a b) :=
 (World.ownsRow.stored (World.ownsRow.stored h k a).1 (k+1) b).1
end Go.Proofs.YtecnfgikbmcgoaaGreat
