import Derived.Test.YtecnfgikbmcgoaaGreatG39
import Derived.Test.YtecnfgikbmcgoaaGreatG40
namespace Go.Proofs.YtecnfgikbmcgoaaGreat
open Go.RowKit
structure Pk (xs:List Stp) (a4:Option Addr) (BB:Nat) (J:Nat→World→Option Nat→Option Nat→Prop):Prop where
 swap:∀ i W v1 v2,J i W v1 v2→J i W v2 v1
 up:∀ i j W v1 v2,i≤j→J i W v1 v2→J j W v1 v2
 step:∀ i W PB v2,i<xs.length→J i W (some PB) v2→(sat xs i).kind≠4→(sat xs i).kind≠7→Calls Tryz.prog 31 #[.pointer (some ⟨PB,0,none⟩),.agg #[.int .i64 (sat xs i).wh,.int .i64 (sat xs i).kind,.int .i64 (sat xs i).a,.int .i64 (sat xs i).b,.slice (sat xs i).fad (sat xs i).f.length (sat xs i).fc,.slice (sat xs i).ead (sat xs i).en (sat xs i).ec]] W fun e w'=>e = .returned (.bool true)∧J (i+1) w' (some PB) v2
 still:∀ i W PB v2,i≤xs.length→J i W (some PB) v2 → ∃ LB,W.cell? ⟨PB,2,none⟩=some (.pointer (some ⟨LB,0,none⟩))∧Calls Tryz.prog 32 #[.pointer (some ⟨LB,0,none⟩)] W fun e w'=>e = .returned (.bool true)∧J i w' (some PB) v2
 whole:∀ i W v1 v2,i≤xs.length+300→J i W v1 v2→Calls Tryz.prog 33 #[.pointer (some ⟨BB,0,none⟩)] W fun e w'=>e = .returned (.bool true)∧J i w' v1 v2
 all:∀ i W PB v2,i≤xs.length+150→J i W (some PB) v2→Calls Tryz.prog 34 #[.pointer (some ⟨PB,0,none⟩),.bool false] W fun e w'=>e = .returned (.bool true)∧J (i+101) w' (some PB) v2
 cell:∀ i W v1 v2,i<xs.length→J i W v1 v2 → ∃ b off,a4=some ⟨b,off,none⟩∧W.cell? ⟨b,off+i*6,none⟩=some (.int .i64 (sat xs i).wh)∧W.cell? ⟨b,off+i*6+1,none⟩=some (.int .i64 (sat xs i).kind)∧W.cell? ⟨b,off+i*6+1+1,none⟩=some (.int .i64 (sat xs i).a)∧W.cell? ⟨b,off+i*6+1+1+1,none⟩=some (.int .i64 (sat xs i).b)∧W.cell? ⟨b,off+i*6+1+1+1+1,none⟩=some (.slice (sat xs i).fad (sat xs i).f.length (sat xs i).fc)∧W.cell? ⟨b,off+i*6+1+1+1+1+1,none⟩=some (.slice (sat xs i).ead (sat xs i).en (sat xs i).ec)
set_option maxRecDepth 100000 in
set_option maxHeartbeats 4000000 in
theorem plays_w (n:Int) (es:List Ky) (m:Int) (os:List Ky) (xs:List Stp) (a1 a3 a4:Option Addr) (c1 c3 c4:Nat) (w:World) (J:Nat→World→Option Nat→Option Nat→Prop) (hlen:xs.length≤149796)
  (PK:Hid (Pk xs a4 w.heap.size J)) (ST:Hid (J 0 (w.alloc (.cells book0 89)) none none))
  (O1:Hid (∀ W,J 0 W none none→Calls Tryz.prog 28 #[.int .i64 n,.slice a1 es.length c1,.pointer (some ⟨w.heap.size,0,none⟩)] W fun e w'=>∃ v:Option Nat,e = .returned (.tuple #[pv v,.bool true])∧J 0 w' none v))
  (O2:Hid (∀ W v1,J 0 W none v1→Calls Tryz.prog 28 #[.int .i64 m,.slice a3 os.length c3,.pointer (some ⟨w.heap.size,0,none⟩)] W fun e w'=>∃ v:Option Nat,e = .returned (.tuple #[pv v,.bool true])∧J 0 w' v1 v)) :
  Calls Tryz.prog 9 #[.int .i64 n,.slice a1 es.length c1,.int .i64 m,.slice a3 os.length c3,.slice a4 xs.length c4,.bool false] w fun e w'=>e = .returned (.bool true) ∧ ∃ i v1 v2,J i w' v1 v2:=by
 go_enter Tryz.func9,Tryz.ntmps9
 go_wp2_with fail
 refine (O1.out _ ST.out).mono ?_
 rintro e w1 ⟨v1,rfl,j1⟩
 unfold pv
 generalize hv1:(v1.map fun PB=>(⟨PB,0,none⟩:Addr))=o1
 have J1:=Hid.mk' j1
 clear O1 ST j1
 go_wp2_with fail
 refine (O2.out _ v1 J1.out).mono ?_
 rintro e w2 ⟨v2,rfl,j2⟩
 unfold pv
 generalize hv2:(v2.map fun PB=>(⟨PB,0,none⟩:Addr))=o2
 have J2:=Hid.mk' j2
 clear O2 J1 j2
 go_wp2_with fail
 go_loopw [18,19,20,21,22] (fun i t ok s u wr=>∃ q:Nat,q≤xs.length∧i = .int .i64 q∧Hid (J q wr v1 v2)) (fun i _ _ _ _ _=>xs.length - (intOf i).toNat)
 case atStart=>exact ⟨0,Nat.zero_le _,rfl,J2⟩
 case round =>
  obtain ⟨q,hq,rfl,HJ⟩:=hrel
  by_cases hlt:q<xs.length
  ·obtain ⟨b,off,e0,d0,d1,d2,d3,d4,d5⟩:=PK.out.cell q wr v1 v2 hlt HJ.out
   subst e0
   have STP:=Hid.mk' (fun PB v2=>PK.out.step q wr PB v2 hlt)
   have UP:=Hid.mk' (PK.out.up _ (q+1) _ _ _ (by omega) HJ.out)
   generalize sat xs q=x at *
   clear J2
   cases hpar:(x.wh.tmod 2 != 0) with
   | false =>
    rcases v1 with _ | PB
    ·simp only [Option.map_none] at hv1
     subst hv1
     go_wp2_with fail
     exact ⟨⟨q+1,by omega,by simp,UP.out⟩,measM_dec _ _ hlt⟩
    ·simp only [Option.map_some] at hv1
     subst hv1
     by_cases k4:x.kind=4
     ·have k4':(x.kind==4)=true:=by simp [k4]
      clear k4
      go_wp2_with fail
      exact ⟨⟨q+1,by omega,by simp,UP.out⟩,measM_dec _ _ hlt⟩
     ·have k4':(x.kind==4)=false:=by simp [k4]
      by_cases k7:x.kind=7
      ·have k7':(x.kind==7)=true:=by simp [k7]
       clear k7 k4
       go_wp2_with fail
       exact ⟨⟨q+1,by omega,by simp,UP.out⟩,measM_dec _ _ hlt⟩
      ·have k7':(x.kind==7)=false:=by simp [k7]
       have CC:=Hid.mk' (STP.out PB v2 HJ.out k4 k7)
       clear k4 k7 HJ UP STP
       go_wp2_with fail
       refine CC.out.mono ?_
       rintro e w3 ⟨rfl,j3⟩
       obtain ⟨LB,l1,hst⟩:=PK.out.still (q+1) w3 PB v2 (by omega) j3
       have SC:=Hid.mk' hst
       clear CC j3 hst d0 d1 d2 d3 d4 d5 hpar k4' k7'
       go_wp2_with fail
       refine SC.out.mono ?_
       rintro e w4 ⟨rfl,j4⟩
       have WC:=Hid.mk' (PK.out.whole (q+1) w4 _ _ (by omega) j4)
       clear SC j4 l1
       go_wp2_with fail
       refine WC.out.mono ?_
       rintro e w5 ⟨rfl,j5⟩
       have J5:=Hid.mk' j5
       clear WC j5
       go_wp2_with fail
       go_roundw
       case rel=>exact ⟨q+1,by omega,by go_num,J5.out⟩
       case measure=>exact measM_dec _ _ hlt
   | true =>
    rcases v2 with _ | PB
    ·simp only [Option.map_none] at hv2
     subst hv2
     go_wp2_with fail
     exact ⟨⟨q+1,by omega,by simp,UP.out⟩,measM_dec _ _ hlt⟩
    ·simp only [Option.map_some] at hv2
     subst hv2
     by_cases k4:x.kind=4
     ·have k4':(x.kind==4)=true:=by simp [k4]
      clear k4
      go_wp2_with fail
      exact ⟨⟨q+1,by omega,by simp,UP.out⟩,measM_dec _ _ hlt⟩
     ·have k4':(x.kind==4)=false:=by simp [k4]
      by_cases k7:x.kind=7
      ·have k7':(x.kind==7)=true:=by simp [k7]
       clear k7 k4
       go_wp2_with fail
       exact ⟨⟨q+1,by omega,by simp,UP.out⟩,measM_dec _ _ hlt⟩
      ·have k7':(x.kind==7)=false:=by simp [k7]
       have CC:=Hid.mk' (STP.out PB v1 (PK.out.swap _ _ _ _ HJ.out) k4 k7)
       clear k4 k7 HJ UP STP
       go_wp2_with fail
       refine CC.out.mono ?_
       rintro e w3 ⟨rfl,j3⟩
       obtain ⟨LB,l1,hst⟩:=PK.out.still (q+1) w3 PB v1 (by omega) j3
       have SC:=Hid.mk' hst
       clear CC j3 hst d0 d1 d2 d3 d4 d5 hpar k4' k7'
       go_wp2_with fail
       refine SC.out.mono ?_
       rintro e w4 ⟨rfl,j4⟩
       have WC:=Hid.mk' (PK.out.whole (q+1) w4 _ _ (by omega) j4)
       clear SC j4 l1
       go_wp2_with fail
       refine WC.out.mono ?_
       rintro e w5 ⟨rfl,j5⟩
       have J5:=Hid.mk' j5
       clear WC j5
       go_wp2_with fail
       go_roundw
       case rel=>exact ⟨q+1,by omega,by go_num,(PK.out.swap _ _ _ _ J5.out)⟩
       case measure=>exact measM_dec _ _ hlt
  ·have hqe:q=xs.length:=by omega
   subst hqe
   clear J2
   go_wp2_with fail
   go_loopw [23,24,25,26] (fun i t ok u wr=>∃ p:Nat,p≤2∧i = .int .i64 p∧Hid (J (xs.length+101*p) wr v1 v2)) (fun i _ _ _ _=>2 - (intOf i).toNat)
   case atStart=>exact ⟨0,by omega,rfl,HJ⟩
   case round =>
    clear HJ
    obtain ⟨p,hp,rfl,HP⟩:=hrel
    have UP:=Hid.mk' (PK.out.up _ (xs.length+101*(p+1)) _ _ _ (by omega) HP.out)
    obtain rfl | rfl | rfl:p=0∨p=1∨p=2:=by omega
    ·skip
     rcases v1 with _ | PB
     ·simp only [Option.map_none] at hv1
      subst hv1
      go_wp2_with fail
      exact ⟨⟨1,by omega,rfl,UP.out⟩,by simp [intOf]⟩
     ·simp only [Option.map_some] at hv1
      subst hv1
      have AC:=Hid.mk' (PK.out.all _ wr PB v2 (by omega) HP.out)
      clear HP UP
      go_wp2_with fail
      refine AC.out.mono ?_
      rintro e w3 ⟨rfl,j3⟩
      have WC:=Hid.mk' (PK.out.whole _ w3 _ _ (by omega) j3)
      clear AC j3
      go_wp2_with fail
      refine WC.out.mono ?_
      rintro e w4 ⟨rfl,j4⟩
      have J4:=Hid.mk' j4
      clear WC j4
      go_wp2_with fail
      go_roundw
      case rel=>exact ⟨1,by omega,by go_num,J4.out⟩
      case measure=>simp [intOf]
    ·skip
     rcases v2 with _ | PB
     ·simp only [Option.map_none] at hv2
      subst hv2
      go_wp2_with fail
      exact ⟨⟨2,by omega,rfl,UP.out⟩,by simp [intOf]⟩
     ·simp only [Option.map_some] at hv2
      subst hv2
      have AC:=Hid.mk' (PK.out.all _ wr PB v1 (by omega) (PK.out.swap _ _ _ _ HP.out))
      clear HP UP
      go_wp2_with fail
      refine AC.out.mono ?_
      rintro e w3 ⟨rfl,j3⟩
      have WC:=Hid.mk' (PK.out.whole _ w3 _ _ (by omega) j3)
      clear AC j3
      go_wp2_with fail
      refine WC.out.mono ?_
      rintro e w4 ⟨rfl,j4⟩
      have J4:=Hid.mk' j4
      clear WC j4
      go_wp2_with fail
      go_roundw
      case rel=>exact ⟨2,by omega,by go_num,(PK.out.swap _ _ _ _ J4.out)⟩
      case measure=>simp [intOf]
    ·have FIN:=Hid.mk' HP.out
     clear HP UP
     go_wp2_with fail
     go_ret
     exact ⟨rfl,_,_,_,FIN.out⟩
structure Sin (w:World) (x:Stp):Prop where
 f:FiAt w x.fad x.f
 wf:∀ z∈x.f,Wnt.Wf z
 l:x.f.length≤1048576
 wh:I64 x.wh
 k:I64 x.kind
 a:I64 x.a
 b:I64 x.b
theorem Sin.ok {w:World} {x:Stp} (h:Sin w x) {Ks:List Ky} (hk:(x.a,x.b)∈Ks):SpOk (fun k=>k<w.heap.size) w Ks x :=
 ⟨⟨h.wf,by have:=h.l;omega,h.f.imp id (fun ⟨b,off,e,h1,h2⟩=>⟨b,off,e,h1,h1,h2⟩)⟩,h.a,h.b,hk⟩
theorem Sin.gr {w w':World} {x:Stp} (h:Sin w x) (g:Gr w w'):Sin w' x:=⟨h.f.gr g,h.wf,h.l,h.wh,h.k,h.a,h.b⟩
def kys (xs:List Stp):List Ky:=xs.map fun x=>(x.a,x.b)
theorem kys_len (xs:List Stp):(kys xs).length=xs.length:=by simp [kys]
theorem kys_mem {xs:List Stp} {x:Stp} (h:x∈xs):(x.a,x.b)∈kys xs:=List.mem_map.2 ⟨x,h,rfl⟩
theorem mw_ok {i len:Nat} (h:i≤149946) (hl:len≤149796):8*(len+1)*i<549755813888:=by
 have h1:8*(len+1)*i≤8*(149796+1)*149946:=Nat.mul_le_mul (by omega) h
 omega
theorem plays_any (n:Int) (es:List Ky) (m:Int) (os:List Ky) (xs:List Stp) (a1 a3 a4:Option Addr) (c1 c3 c4:Nat) (ml:Int) (w:World)
  (l1:es.length≤1048576) (h1:EdAt w a1 es) (i1:∀ e∈es,I64 e.1∧I64 e.2) (l3:os.length≤1048576) (h3:EdAt w a3 os) (i3:∀ e∈os,I64 e.1∧I64 e.2) (l4:xs.length*7≤1048576) (h4:SpAd (fun k=>k<w.heap.size) w a4 xs) (hx:∀ x∈xs,Sin w x) (hml:Ml ml w) :
  Calls Tryz.prog 9 #[.int .i64 n,.slice a1 es.length c1,.int .i64 m,.slice a3 os.length c3,.slice a4 xs.length c4,.bool false] w fun e w'=>e = .returned (.bool true)∧Gr w w':=by
 have hlen:xs.length≤149796:=by omega
 have OPN:∀ (n:Int) (es:List Ky) (ad:Option Addr) (cap:Nat) (W:World) (v2:Option Nat),es.length≤1048576→EdAt w ad es→(∀ e∈es,I64 e.1∧I64 e.2)→Jx (fun k=>k<w.heap.size) (fun _=>False) w w.heap.size (kys xs) 0 0 W none v2→Calls Tryz.prog 28 #[.int .i64 n,.slice ad es.length cap,.pointer (some ⟨w.heap.size,0,none⟩)] W fun e w'=>∃ v:Option Nat,e = .returned (.tuple #[pv v,.bool true])∧Jx (fun k=>k<w.heap.size) (fun _=>False) w w.heap.size (kys xs) 0 0 w' v v2:=fun n es ad cap W v2 hl he hi hj=>by
  obtain ⟨nb,adj,nxt,hT⟩:∃ nb adj nxt,treeB n es=true→Tsh n es nb adj nxt:=by
   by_cases ht:treeB n es=true
   ·obtain ⟨nb,adj,nxt,t⟩:=tsh_of ht
    exact ⟨nb,adj,nxt,fun _=>t⟩
   ·exact ⟨0,fun _ _=>false,fun _ _=>0,fun e=>absurd e ht⟩
  have g:Gr w W:=hj.fin (Gr.refl w) (fun _ h=>h)
  refine (opened_any (fun k=>k<w.heap.size) n es ad cap w.heap.size nb adj nxt W hl (he.gr g) hi ⟨ml,g.ml hml⟩ (fun k hk=>g.lt hk) hT).mono ?_
  intro e w' ho
  obtain ⟨v,e1,_,e3⟩:=hj.openP hT ho
  exact ⟨v,e1,e3⟩
 refine (plays_w n es m os xs a1 a3 a4 c1 c3 c4 w (fun i W v1 v2=>Jx (fun k=>k<w.heap.size) (fun _=>False) w w.heap.size (kys xs) (4*i) (8*(xs.length+1)*i) W v1 v2) hlen ⟨?sw,?up,?st,?sl,?wh,?al,?ce⟩ (Jx.start ((Gr.refl w).alloc _) (heap_alloc_new _ _) (Nat.le_refl _) hml) (fun W hj=>(OPN n es a1 c1 W none l1 h1 i1 hj).mono (fun e w' ⟨v,e1,e2⟩=>⟨v,e1,e2.swap⟩)) (fun W v1 hj=>(OPN m os a3 c3 W v1 l3 h3 i3 hj).mono (fun e w' ⟨v,e1,e2⟩=>⟨v,e1,e2.swap⟩))).mono ?_
 case sw=>exact fun i W v1 v2 h=>h.swap
 case up=>exact fun i j W v1 v2 h hj=>hj.up (Nat.mul_le_mul_left _ h) (Nat.mul_le_mul_left _ h)
 case st =>
  intro i W PB v2 hi hj k4 k7
  refine (hj.step (by omega) (by rw [kys_len];omega) (mw_ok (by omega) hlen) (sat xs i) ((hx _ (sat_mem hi)).ok (kys_mem (sat_mem hi))) k4 k7).mono ?_
  rintro e w' ⟨he,hj'⟩
  rw [kys_len] at hj'
  exact ⟨he,hj'⟩
 case sl=>exact fun i W PB v2 hi hj=>hj.still (by omega)
 case wh=>exact fun i W v1 v2 hi hj=>hj.whole (by omega)
 case al =>
  intro i W PB v2 hi hj
  refine (hj.all (by omega) (by rw [kys_len];omega) (mw_ok (by omega) hlen)).mono ?_
  rintro e w' ⟨he,hj'⟩
  exact ⟨he,hj'.up (by omega) (Nat.mul_le_mul_left _ (by omega))⟩
 case ce =>
  intro i W v1 v2 hi hj
  obtain ⟨b,off,e0,hb,ha⟩:=h4.resolve_left (fun e=>by rw [e] at hi;exact absurd hi (Nat.not_lt_zero _))
  obtain ⟨B,O1,O2,j⟩:=hj
  exact ⟨b,off,e0,(ha.blk (j.kp b (Or.inl hb))) i hi⟩
 ·rintro e w' ⟨he,i,v1,v2,hj⟩
  exact ⟨he,hj.fin (Gr.refl w) (fun _ h=>h)⟩
def scells (x:Stp):List Value:=[.int .i64 x.wh,.int .i64 x.kind,.int .i64 x.a,.int .i64 x.b,.slice x.fad x.f.length x.fc,.slice x.ead x.en x.ec]
theorem scells_at:∀ (xs:List Stp) (i j:Nat),i<xs.length→j<6→(xs.flatMap scells)[i*6+j]? = (scells (sat xs i))[j]?
 | [],i,j,h,_=>absurd h (Nat.not_lt_zero _)
 | x::xs,0,j,_,hj=>by
  rw [List.flatMap_cons,List.getElem?_append_left (by simp [scells];omega)]
  simp [sat]
 | x::xs,i+1,j,h,hj=>by
  have ih:=scells_at xs i j (by simpa using h) hj
  rw [List.flatMap_cons,List.getElem?_append_right (by simp [scells];omega)]
  have e:(i+1)*6+j - (scells x).length=i*6+j:=by simp [scells];omega
  rw [e,ih]
  simp [sat]
theorem SpsAt.of {w:World} {b:Nat} {cur:Array Value} {xs:List Stp} (h:w.heap[b]? = some (.cells cur 93 (0,0))) (hc:cur.toList=xs.flatMap scells):SpsAt w b 0 xs:=fun i hi=>by
 have e:∀ j,j<6→w.cell? ⟨b,i*6+j,none⟩=(scells (sat xs i))[j]? := fun j hj=>by
  rw [cell_of_row _ _ _ _ _ _ h, ← Array.getElem?_toList,hc,scells_at xs i j hi hj]
 simp only [Nat.zero_add]
 exact ⟨e 0 (by decide),e 1 (by decide),e 2 (by decide),e 3 (by decide),e 4 (by decide),e 5 (by decide)⟩
def aboveW (n:Int):Wnt:=⟨⟨#[115,105,122,101]⟩,6,1,n,⟨#[]⟩⟩
theorem aboveW_wf (n:Int) (h1 : -9223372036854775808≤n) (h2:n≤9223372036854775807):∀ x∈[aboveW n],Wnt.Wf x:=by
 intro x hx
 simp only [List.mem_singleton] at hx
 subst hx
 exact ⟨by simp [aboveW,maxLen,ByteArray.size],by simp [aboveW,maxLen,ByteArray.size],h1,h2⟩
theorem above_at {w:World} {B:Nat} {n:Int} (h:w.heap[B]? = some (.cells #[.string ⟨#[115,105,122,101]⟩,.int .i64 6,.int .i64 1,.int .i64 n,.string ⟨#[]⟩] 96 (0,0))):WantsAt w B 0 [aboveW n]:=fun i hi=>by
 obtain rfl:i=0:=by simp at hi;exact hi
 simp only [Nat.zero_mul,Nat.zero_add]
 refine ⟨?_,?_,?_,?_,?_⟩ <;> (rw [cell_of_row _ _ _ _ _ _ h];rfl)
def plain (k a b:Int):Stp:=⟨0,k,a,b,[],none,0,none,0,0⟩
def kno (f1 f2:Nat):List Stp:=[plain 1 10 0,plain 1 20 2,⟨0,2,20,1,[aboveW 3],some ⟨f1,0,none⟩,1,none,0,0⟩,plain 8 0 0,plain 5 2 1,plain 8 0 0,plain 6 0 0,⟨0,2,20,2,[aboveW 5],some ⟨f2,0,none⟩,1,none,0,0⟩,plain 8 0 0,plain 3 20 1,plain 8 0 0,plain 6 0 0,plain 9 0 1]
theorem kno_len (f1 f2:Nat):(kno f1 f2).length=13:=rfl
theorem kno_ok {A:Nat→Prop} {w:World} {f1 f2:Nat} (h1:w.heap[f1]? = some (.cells #[.string ⟨#[115,105,122,101]⟩,.int .i64 6,.int .i64 1,.int .i64 3,.string ⟨#[]⟩] 96 (0,0))) (h2:w.heap[f2]? = some (.cells #[.string ⟨#[115,105,122,101]⟩,.int .i64 6,.int .i64 1,.int .i64 5,.string ⟨#[]⟩] 96 (0,0))) (a1:A f1) (a2:A f2):∀ x∈kno f1 f2,SpOk A w (kys (kno f1 f2)) x∧x.kind≠4∧x.kind≠7:=by
 intro x hx
 have hk:=kys_mem hx
 have pl:∀ k a b:Int,I64 a→I64 b→(a,b)∈kys (kno f1 f2)→SpOk A w (kys (kno f1 f2)) (plain k a b):=fun k a b ha hb hm=>⟨⟨(fun _ h=>by cases h),Nat.zero_le _,Or.inl rfl⟩,ha,hb,hm⟩
 have j20:I64 20:=⟨by decide,by decide⟩
 have j1:I64 1:=⟨by decide,by decide⟩
 have j2:I64 2:=⟨by decide,by decide⟩
 have n4:(2:Int)≠4:=by decide
 have n7:(2:Int)≠7:=by decide
 simp only [kno,List.mem_cons,List.not_mem_nil,or_false] at hx
 rcases hx with rfl | rfl | rfl | rfl | rfl | rfl | rfl | rfl | rfl | rfl | rfl | rfl | rfl
 ·exact ⟨pl _ _ _ ⟨by decide,by decide⟩ ⟨by decide,by decide⟩ hk,by decide,by decide⟩
 ·exact ⟨pl _ _ _ ⟨by decide,by decide⟩ ⟨by decide,by decide⟩ hk,by decide,by decide⟩
 ·exact ⟨⟨⟨aboveW_wf 3 (by decide) (by decide),by simp,Or.inr ⟨f1,0,rfl,a1,blk_lt h1,above_at h1⟩⟩,j20,j1,hk⟩,n4,n7⟩
 ·exact ⟨pl _ _ _ ⟨by decide,by decide⟩ ⟨by decide,by decide⟩ hk,by decide,by decide⟩
 ·exact ⟨pl _ _ _ ⟨by decide,by decide⟩ ⟨by decide,by decide⟩ hk,by decide,by decide⟩
 ·exact ⟨pl _ _ _ ⟨by decide,by decide⟩ ⟨by decide,by decide⟩ hk,by decide,by decide⟩
 ·exact ⟨pl _ _ _ ⟨by decide,by decide⟩ ⟨by decide,by decide⟩ hk,by decide,by decide⟩
 ·exact ⟨⟨⟨aboveW_wf 5 (by decide) (by decide),by simp,Or.inr ⟨f2,0,rfl,a2,blk_lt h2,above_at h2⟩⟩,j20,j2,hk⟩,n4,n7⟩
 ·exact ⟨pl _ _ _ ⟨by decide,by decide⟩ ⟨by decide,by decide⟩ hk,by decide,by decide⟩
 ·exact ⟨pl _ _ _ ⟨by decide,by decide⟩ ⟨by decide,by decide⟩ hk,by decide,by decide⟩
 ·exact ⟨pl _ _ _ ⟨by decide,by decide⟩ ⟨by decide,by decide⟩ hk,by decide,by decide⟩
 ·exact ⟨pl _ _ _ ⟨by decide,by decide⟩ ⟨by decide,by decide⟩ hk,by decide,by decide⟩
 ·exact ⟨pl _ _ _ ⟨by decide,by decide⟩ ⟨by decide,by decide⟩ hk,by decide,by decide⟩
def want1 (n:Int):Array Value:=#[.string ⟨#[115,105,122,101]⟩,.int .i64 6,.int .i64 1,.int .i64 n,.string ⟨#[]⟩]
structure Kk (f1 f2 SB PB:Nat) (w:World) (J:Nat→World→Prop):Prop where
 step:∀ i W,i<13→J i W→Calls Tryz.prog 31 #[.pointer (some ⟨PB,0,none⟩),.agg #[.int .i64 (sat (kno f1 f2) i).wh,.int .i64 (sat (kno f1 f2) i).kind,.int .i64 (sat (kno f1 f2) i).a,.int .i64 (sat (kno f1 f2) i).b,.slice (sat (kno f1 f2) i).fad (sat (kno f1 f2) i).f.length (sat (kno f1 f2) i).fc,.slice (sat (kno f1 f2) i).ead (sat (kno f1 f2) i).en (sat (kno f1 f2) i).ec]] W fun e w'=>e = .returned (.bool true)∧J (i+1) w'
 cell:∀ i W,i<13→J i W→W.cell? ⟨SB,i*6,none⟩=some (.int .i64 (sat (kno f1 f2) i).wh)∧W.cell? ⟨SB,i*6+1,none⟩=some (.int .i64 (sat (kno f1 f2) i).kind)∧W.cell? ⟨SB,i*6+1+1,none⟩=some (.int .i64 (sat (kno f1 f2) i).a)∧W.cell? ⟨SB,i*6+1+1+1,none⟩=some (.int .i64 (sat (kno f1 f2) i).b)∧W.cell? ⟨SB,i*6+1+1+1+1,none⟩=some (.slice (sat (kno f1 f2) i).fad (sat (kno f1 f2) i).f.length (sat (kno f1 f2) i).fc)∧W.cell? ⟨SB,i*6+1+1+1+1+1,none⟩=some (.slice (sat (kno f1 f2) i).ead (sat (kno f1 f2) i).en (sat (kno f1 f2) i).ec)
 fin:∀ i W,J i W→Gr w W
def knoW (w3:World) (f1:Nat):World:=(w3.alloc (.cells (want1 5) 96)).alloc (.cells ((kno f1 w3.heap.size).flatMap scells).toArray 93)
theorem kno_start {w w1 w2 w3:World} {BB PB:Nat} (hj:Jx (fun k=>k<w.heap.size) (fun _=>False) w BB (kys (kno w2.heap.size w3.heap.size)) 0 0 w1 (some PB) none) (g2:Gr w1 w2) (g3:Gr (w2.alloc (.cells (want1 3) 96)) w3) :
  ∃ J:Nat→World→Prop,J 0 (knoW w3 w2.heap.size)∧Kk w2.heap.size w3.heap.size (w3.heap.size+1) PB w J:=by
 have s2:=g2.size
 have s3:=g3.size
 rw [World.size_alloc] at s3
 have g4:Gr w3 (knoW w3 w2.heap.size):=((Gr.refl w3).alloc _).alloc _
 have g:Gr w1 (knoW w3 w2.heap.size):=Gr.call (Gr.call (Gr.alloc g2 _) g3) g4
 have b1:(knoW w3 w2.heap.size).heap[w2.heap.size]? = some (.cells (want1 3) 96 (0,0)):=blk_gr g4 (blk_gr g3 (heap_alloc_new _ _))
 have b2:(knoW w3 w2.heap.size).heap[w3.heap.size]? = some (.cells (want1 5) 96 (0,0)):=by
  unfold knoW
  rw [heap_alloc_old _ _ (by rw [World.size_alloc];omega)];exact heap_alloc_new _ _
 have b3:(knoW w3 w2.heap.size).heap[w3.heap.size+1]? = some (.cells ((kno w2.heap.size w3.heap.size).flatMap scells).toArray 93 (0,0)):=by
  have:=heap_alloc_new (w3.alloc (.cells (want1 5) 96)) (.cells ((kno w2.heap.size w3.heap.size).flatMap scells).toArray 93)
  rw [World.size_alloc] at this
  exact this
 have sp:SpsAt (knoW w3 w2.heap.size) (w3.heap.size+1) 0 (kno w2.heap.size w3.heap.size):=SpsAt.of b3 rfl
 have gw:=hj.fin (Gr.refl w) (fun _ h=>h)
 have jr:=hj.rebase (A':=fun k=>k<w.heap.size∨k=w2.heap.size∨k=w3.heap.size) (S:=fun k=>k=w3.heap.size+1) g (fun k hk=>Or.inl hk) (fun k hk=>by
  rcases hk with hk | rfl | rfl
  ·exact Or.inl hk
  ·exact Or.inr ⟨s2,blk_lt b1,_,_,b1⟩
  ·exact Or.inr ⟨by omega,blk_lt b2,_,_,b2⟩) (fun k hk=>by
  have hk:k=w3.heap.size+1:=hk
  subst hk
  exact ⟨by omega,blk_lt b3⟩)
 have ok:=kno_ok (A:=fun k=>k<w.heap.size∨k=w2.heap.size∨k=w3.heap.size) b1 b2 (Or.inr (Or.inl rfl)) (Or.inr (Or.inr rfl))
 refine ⟨fun i W=>i≤13∧Jx (fun k=>k<w.heap.size∨k=w2.heap.size∨k=w3.heap.size) (fun k=>k=w3.heap.size+1) (knoW w3 w2.heap.size) BB (kys (kno w2.heap.size w3.heap.size)) (4*i) (8*(13+1)*i) W (some PB) none,⟨Nat.zero_le _,jr⟩,⟨?_,?_,?_⟩⟩
 ·rintro i W hi ⟨_,hj⟩
  obtain ⟨o1,o2,o3⟩:=ok _ (sat_mem (xs:=kno w2.heap.size w3.heap.size) (i:=i) hi)
  refine (hj.step (by omega) (by rw [kys_len,kno_len];decide) (by omega) (sat (kno w2.heap.size w3.heap.size) i) o1 o2 o3).mono ?_
  rintro e w' ⟨he,hj'⟩
  rw [kys_len,kno_len] at hj'
  exact ⟨he,by omega,hj'⟩
 ·rintro i W hi ⟨_,B,O1,O2,j⟩
  have:=(sp.blk (j.kp (w3.heap.size+1) (Or.inr rfl))) i hi
  simp only [Nat.zero_add] at this
  exact this
 ·rintro i W ⟨_,hj⟩
  exact hj.fin (Gr.call gw g) (fun k hk=>Or.inl hk)
theorem kno_open {ml:Int} (w:World) (hml:Ml ml w):Calls Tryz.prog 28 #[.int .i64 3,.slice (some ⟨w.heap.size,0,none⟩) 2 2,.pointer (some ⟨w.heap.size+1,0,none⟩)] ((w.alloc (.cells #[.int .i64 0,.int .i64 1,.int .i64 2,.int .i64 1] 81)).alloc (.cells #[.slice none 0 0,.slice none 0 0,.slice none 0 0,.slice none 0 0,.slice none 0 0,.slice none 0 0] 89)) fun e w'=>∃ PB,e = .returned (.tuple #[.pointer (some ⟨PB,0,none⟩),.bool true])∧Jx (fun k=>k<w.heap.size) (fun _=>False) w (w.heap.size+1) (kys (kno 0 0)) 0 0 w' (some PB) none:=by
 have ht:treeB 3 [(0,1),(2,1)]=true:=by decide
 obtain ⟨nb,adj,nxt,t⟩:=tsh_of ht
 have g:Gr w ((w.alloc (.cells #[.int .i64 0,.int .i64 1,.int .i64 2,.int .i64 1] 81)).alloc (.cells book0 89)):=((Gr.refl w).alloc _).alloc _
 have be:((w.alloc (.cells #[.int .i64 0,.int .i64 1,.int .i64 2,.int .i64 1] 81)).alloc (.cells book0 89)).heap[w.heap.size]? = some (.cells #[.int .i64 0,.int .i64 1,.int .i64 2,.int .i64 1] 81 (0,0)):=by
  rw [heap_alloc_old _ _ (by rw [World.size_alloc];omega)];exact heap_alloc_new _ _
 have bb:((w.alloc (.cells #[.int .i64 0,.int .i64 1,.int .i64 2,.int .i64 1] 81)).alloc (.cells book0 89)).heap[w.heap.size+1]? = some (.cells book0 89 (0,0)):=by
  have:=heap_alloc_new (w.alloc (.cells #[.int .i64 0,.int .i64 1,.int .i64 2,.int .i64 1] 81)) (.cells book0 89)
  rw [World.size_alloc] at this
  exact this
 have hj:Jx (fun k=>k<w.heap.size) (fun _=>False) w (w.heap.size+1) (kys (kno 0 0)) 0 0 _ none none:=Jx.start g bb (Nat.le_succ _) hml
 have he:EdAt ((w.alloc (.cells #[.int .i64 0,.int .i64 1,.int .i64 2,.int .i64 1] 81)).alloc (.cells book0 89)) (some ⟨w.heap.size,0,none⟩) [(0,1),(2,1)]:=Or.inr ⟨w.heap.size,0,rfl,blk_lt be,fun i hi=>by
  obtain rfl | rfl:i=0∨i=1:=by simp at hi;omega
  ·refine ⟨?_,?_⟩ <;> (rw [cell_of_row _ _ _ _ _ _ be];rfl)
  ·refine ⟨?_,?_⟩ <;> (rw [cell_of_row _ _ _ _ _ _ be];rfl)⟩
 refine (opened_any (fun k=>k<w.heap.size) 3 [(0,1),(2,1)] (some ⟨w.heap.size,0,none⟩) 2 (w.heap.size+1) nb adj nxt _ (by decide) he (fun e h=>?_) ⟨ml,g.ml hml⟩ (fun k hk=>g.lt hk) (fun _=>t)).mono ?_
 ·simp only [List.mem_cons,List.not_mem_nil,or_false] at h
  rcases h with rfl | rfl <;> exact ⟨⟨by decide,by decide⟩,⟨by decide,by decide⟩⟩
 ·intro e w' ho
  obtain ⟨v,e1,e2,e3⟩:=hj.openP (fun _=>t) ho
  cases v with
  | none=>exact absurd rfl (e2 ht)
  | some PB=>exact ⟨PB,e1,e3⟩
set_option maxRecDepth 100000 in
set_option maxHeartbeats 4000000 in
theorem known_any (ml:Int) (w:World) (hml:Ml ml w):Calls Tryz.prog 8 #[.bool false] w fun e w'=>e = .returned (.bool true)∧Gr w w':=by
 have OP:=Hid.mk' (kno_open w hml)
 have KS:Hid (∀ (w1 w2 w3:World) (PB:Nat),Jx (fun k=>k<w.heap.size) (fun _=>False) w (w.heap.size+1) (kys (kno 0 0)) 0 0 w1 (some PB) none→Gr w1 w2→Gr (w2.alloc (.cells (want1 3) 96)) w3 → ∃ J:Nat→World→Prop,J 0 (knoW w3 w2.heap.size)∧Kk w2.heap.size w3.heap.size (w3.heap.size+1) PB w J):=fun w1 w2 w3 PB hj g2 g3=>kno_start hj g2 g3
 clear hml
 go_enter Tryz.func8,Tryz.ntmps8
 go_wp2_with fail
 refine OP.out.mono ?_
 rintro e w1 ⟨PB,rfl,j1⟩
 have J1:=Hid.mk' j1
 clear OP j1
 go_wp2_with fail
 refine (above_any 3 w1).mono ?_
 rintro e w2 ⟨rfl,g2⟩
 have G2:=Hid.mk' g2
 clear g2
 go_wp2_with fail
 refine (above_any 5 _).mono ?_
 rintro e w3 ⟨rfl,g3⟩
 obtain ⟨J,j0,kk⟩:=KS.out w1 w2 w3 PB J1.out G2.out g3
 have J0:=Hid.mk' j0
 have KK:=Hid.mk' kk
 clear g3 j0 kk KS J1 G2
 go_wp2_with fail
 go_loopw [4,6] (fun ok i wr=>∃ q:Nat,q≤13∧ok = .bool true∧i = .int .i64 q∧Hid (J q wr)) (fun _ i _=>13 - (intOf i).toNat)
 case atStart=>exact ⟨0,Nat.zero_le _,rfl,rfl,J0⟩
 case round =>
  clear J0
  obtain ⟨q,hq,rfl,rfl,HJ⟩:=hrel
  by_cases hlt:q<13
  ·obtain ⟨d0,d1,d2,d3,d4,d5⟩:=KK.out.cell q wr hlt HJ.out
   have CC:=Hid.mk' (KK.out.step q wr hlt HJ.out)
   generalize sat (kno w2.heap.size w3.heap.size) q=x at *
   clear HJ
   go_wp2_with fail
   refine CC.out.mono ?_
   rintro e w4 ⟨rfl,j4⟩
   have J4:=Hid.mk' j4
   clear CC j4 d0 d1 d2 d3 d4 d5
   go_wp2_with fail
   go_roundw
   case rel=>exact ⟨q+1,by omega,rfl,by go_num,J4⟩
   case measure=>exact measM_dec _ _ hlt
  ·have hqe:q=13:=by omega
   subst hqe
   have FIN:=Hid.mk' (KK.out.fin 13 wr HJ.out)
   clear KK HJ
   go_wp2_with fail
   go_ret
   exact ⟨rfl,FIN.out⟩
set_option maxRecDepth 100000 in
set_option maxHeartbeats 4000000 in
theorem Trees_any (n:Int) (es:List Ky) (m:Int) (os:List Ky) (xs:List Stp) (a1 a3 a4:Option Addr) (c1 c3 c4:Nat) (ml:Int) (w:World)
  (l1:es.length≤1048576) (h1:EdAt w a1 es) (i1:∀ e∈es,I64 e.1∧I64 e.2) (l3:os.length≤1048576) (h3:EdAt w a3 os) (i3:∀ e∈os,I64 e.1∧I64 e.2) (l4:xs.length*7≤1048576) (h4:SpAd (fun k=>k<w.heap.size) w a4 xs) (hx:∀ x∈xs,Sin w x) (hml:Ml ml w) :
  Calls Tryz.prog 3 #[.int .i64 n,.slice a1 es.length c1,.int .i64 m,.slice a3 os.length c3,.slice a4 xs.length c4] w fun e w'=>e = .returned (.bool true)∧Gr w w':=by
 have KN:=Hid.mk' (known_any ml w hml)
 have PL:Hid (∀ W,Gr w W→Calls Tryz.prog 9 #[.int .i64 n,.slice a1 es.length c1,.int .i64 m,.slice a3 os.length c3,.slice a4 xs.length c4,.bool false] W fun e w'=>e = .returned (.bool true)∧Gr W w'):=fun W g=>plays_any n es m os xs a1 a3 a4 c1 c3 c4 ml W l1 (h1.gr g) i1 l3 (h3.gr g) i3 l4 (h4.gr g) (fun x hx'=>(hx x hx').gr g) (g.ml hml)
 clear h1 i1 h3 i3 h4 hx hml
 go_enter Tryz.func3,Tryz.ntmps3
 go_wp2_with fail
 refine KN.out.mono ?_
 rintro e w1 ⟨rfl,g1⟩
 have G1:=Hid.mk' g1
 clear g1 KN
 go_wp2_with fail
 refine (PL.out w1 G1.out).mono ?_
 rintro e w2 ⟨rfl,g2⟩
 have G2:=Hid.mk' (Gr.call G1.out g2)
 clear g2 PL
 go_wp2_with fail
 go_ret
 exact ⟨rfl,G2.out⟩
end Go.Proofs.YtecnfgikbmcgoaaGreat
namespace Go.Proofs.YtecnfgikbmcgoaaGreat
open Go.ChangeShapes Go.WideShapes Go.ChangeAt Go.RowKit
set_option maxRecDepth 100000 in
theorem trees_lifted (os:Os) (started:os.Started) (H:Type) (enc:TypeId × Value→H) (F:Stop.Interp) :
  ReturnsInHanded {} Tryz.checked os 3 .any ((Rows.OpenSpec.upto Rows.treesSpec).pre6 enc Tryz.prog Tryz.f3 Rows.treesUptoRow.domain false) (((Rows.OpenSpec.upto Rows.treesSpec).at F).post enc Tryz.prog Tryz.f3 false true false false):=by
 refine returns_cond_shaped (C:=Tryz.checked) (s:=Rows.OpenSpec.upto Rows.treesSpec) (k:=Rows.uptoSmall) rfl Tryz.own started (by kernel_rfl) Tryz.func3
  (OpenSpec.witness (enc:=enc) (C:=Tryz.checked) (s:=Rows.OpenSpec.upto Rows.treesSpec) (k:=Rows.uptoSmall) rfl false ⟨#[],#[.int .i64 0,.slice none 0 0,.int .i64 0,.slice none 0 0,.slice none 0 0],[]⟩ 8 (by kernel_rfl) (by kernel_rfl) (by kernel_rfl)
   (x:=([.lit (.int .i64 0),.nil,.lit (.int .i64 0),.nil,.nil],[],[])) (by kernel_rfl) rfl (by kernel_rfl)) ?_
 intro W base args ds gs before hval0 hW hk hsh
 have hval:∀ (j:Nat) t v,Tryz.f3.params[j]? = some t→args[j]? = some v→Value.okWide Tryz.prog W .any base t v:=hval0
 have hW':=hW
 obtain ⟨p,q,hA0,hV,rfl,hfz,hnd⟩:=hW
 have hA:DataW.TrodAll enc Tryz.prog W 0 (fun _=>true) true Tryz.f3.params.toList args.toList ds p:=hA0
 rw [Tryz.params3] at hA hval
 obtain ⟨v0,vs0,d0,ds0,p0,q0,hargs,rfl,rfl,h0,r0⟩:=trodAll_cons hA
 obtain ⟨v1,vs1,d1,ds1,p1,q1,rfl,rfl,rfl,h1,r1⟩:=trodAll_cons r0
 obtain ⟨v2,vs2,d2,ds2,p2,q2,rfl,rfl,rfl,h2,r2⟩:=trodAll_cons r1
 obtain ⟨v3,vs3,d3,ds3,p3,q3,rfl,rfl,rfl,h3,r3⟩:=trodAll_cons r2
 obtain ⟨v4,vs4,d4,ds4,p4,q4,rfl,rfl,rfl,h4,r4⟩:=trodAll_cons r3
 obtain ⟨rfl,rfl,rfl⟩:=trodAll_nil r4
 obtain rfl:args=#[v0,v1,v2,v3,v4]:=by cases args;simp_all
 obtain ⟨rfl,rfl⟩:=trodVars_none hV
 obtain ⟨a1,len1,cap1,rfl⟩:=okWide_slice Tryz.underlying22 (hval 1 22 v1 rfl rfl)
 obtain ⟨a3,len3,cap3,rfl⟩:=okWide_slice Tryz.underlying22 (hval 3 22 v3 rfl rfl)
 obtain ⟨a4,len4,cap4,rfl⟩:=okWide_slice Tryz.underlying23 (hval 4 23 v4 rfl rfl)
 have lt1:∀ x∈p1,x.block<W.heap.size:=by obtain ⟨m,hm⟩:=h1;exact DataW.trod_lt m _ _ _ hm
 have lt3:∀ x∈p3,x.block<W.heap.size:=by obtain ⟨m,hm⟩:=h3;exact DataW.trod_lt m _ _ _ hm
 have lt4:∀ x∈p4,x.block<W.heap.size:=by obtain ⟨m,hm⟩:=h4;exact DataW.trod_lt m _ _ _ hm
 have hb:Rows.uptoBulkAll ([d0,d1,d2,d3,d4]++[])≤1048576:=of_decide_eq_true hk
 have b1:=bulk_in (H:=H) (d:=d1) (l:=[d0,d1,d2,d3,d4]++[]) (by simp)
 have b3:=bulk_in (H:=H) (d:=d3) (l:=[d0,d1,d2,d3,d4]++[]) (by simp)
 have b4:=bulk_in (H:=H) (d:=d4) (l:=[d0,d1,d2,d3,d4]++[]) (by simp)
 generalize Rows.uptoBulkAll ([d0,d1,d2,d3,d4]++[])=BB at *
 clear hk
 obtain ⟨n,rfl,rfl,rfl,wn⟩:=open_int Tryz.underlying3 (hval 0 3 v0 rfl rfl) h0
 obtain ⟨m',rfl,rfl,rfl,wm⟩:=open_int Tryz.underlying3 (hval 2 3 v2 rfl rfl) h2
 obtain ⟨es,e1,i1,w1,l1⟩:=edges_up h1
 obtain ⟨os',e3,i3,w3,l3⟩:=edges_up h3
 obtain ⟨xs,e4,i4,w4,l4⟩:=steps_up h4
 subst e1 e3 e4
 obtain ⟨m,hM⟩:=ml_of hsh
 clear hA0 hval0
 refine (Trees_any n es m' os' xs a1 a3 a4 cap1 cap3 cap4 m W (by omega) i1 w1 (by omega) i3 w3 (by omega) i4 (fun x hx=>⟨(w4 x hx).1.1,(w4 x hx).1.2.1,by have:=(w4 x hx).2;omega,(w4 x hx).1.2.2.1,(w4 x hx).1.2.2.2.1,(w4 x hx).1.2.2.2.2.1,(w4 x hx).1.2.2.2.2.2⟩) hM).mono fun e W' ⟨he,bel⟩=>?_
 subst he
 exact ⟨_,rfl,_,_,_,[],_,[],hW',trodAll_mk1 (shut_bool Tryz.underlying4 _),
  (trodAll_cons_mk (shut_int Tryz.underlying3 wn) (trodAll_cons_mk (Below.trod Tryz.laidOut (by kernel_rfl) (of_decide_eq_true (by kernel_rfl)) h1 bel lt1)
   (trodAll_cons_mk (shut_int Tryz.underlying3 wm)
    (trodAll_cons_mk (Below.trod Tryz.laidOut (by kernel_rfl) (of_decide_eq_true (by kernel_rfl)) h3 bel lt3) (trodAll_cons_mk (Below.trod Tryz.laidOut (by kernel_rfl) (of_decide_eq_true (by kernel_rfl)) h4 bel lt4) trodAll_mk0))))),rfl,Below.frame bel _,fun h=>by cases h⟩
theorem trees_holds:Rows.TreesUptoSaid :=
 OpenClaim.holds_of_cond 3 Tryz.f3 rfl rfl rfl rfl rfl rfl rfl ⟨rfl,rfl,rfl,rfl,rfl⟩ rfl rfl rfl rfl rfl (by kernel_rfl) Tryz.func3 (by kernel_rfl)
  (of_decide_eq_true (by kernel_rfl)) (by unfold Func.isWrapper;first | (rw [if_pos (by decide +kernel)];kernel_rfl) | (rw [if_neg (by decide +kernel)];exact ⟨rfl,rfl⟩))
  (fun os started H enc _ F=>trees_lifted os started H enc F)
#print axioms trees_holds
end Go.Proofs.YtecnfgikbmcgoaaGreat
