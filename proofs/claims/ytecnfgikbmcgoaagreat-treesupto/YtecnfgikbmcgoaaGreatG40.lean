import Derived.Test.YtecnfgikbmcgoaaGreatG4
import Derived.Test.YtecnfgikbmcgoaaGreatG39
namespace Go.Proofs.YtecnfgikbmcgoaaGreat
open Go.ChangeShapes Go.WideShapes Go.ChangeAt Go.RowKit
theorem Tryz.cellsW:Tryz.prog.cellsOf 96=5:=by kernel_rfl
theorem Tryz.cellsV:Tryz.prog.cellsOf 94=3:=by kernel_rfl
theorem Tryz.cellsP:Tryz.prog.cellsOf 81=2:=by kernel_rfl
theorem Tryz.cellsSt:Tryz.prog.cellsOf 93=6:=by kernel_rfl
theorem len3 {cs:List Value} (h:cs.length=3):∃ a b c,cs=[a,b,c]:=by
 rcases cs with _ | ⟨a,_ | ⟨b,_ | ⟨c,_ | _⟩⟩⟩ <;> simp at h
 exact ⟨a,b,c,rfl⟩
theorem len2 {cs:List Value} (h:cs.length=2):∃ a b,cs=[a,b]:=by
 rcases cs with _ | ⟨a,_ | ⟨b,_ | _⟩⟩ <;> simp at h
 exact ⟨a,b,rfl⟩
theorem len5w {cs:List Value} (h:cs.length=5):∃ a b c d e,cs=[a,b,c,d,e]:=by
 rcases cs with _ | ⟨a,_ | ⟨b,_ | ⟨c,_ | ⟨d,_ | ⟨e,_ | _⟩⟩⟩⟩⟩ <;> simp at h
 exact ⟨a,b,c,d,e,rfl⟩
theorem len6 {cs:List Value} (h:cs.length=6):∃ a b c d e f,cs=[a,b,c,d,e,f]:=by
 rcases cs with _ | ⟨a,_ | ⟨b,_ | ⟨c,_ | ⟨d,_ | ⟨e,_ | ⟨f,_ | _⟩⟩⟩⟩⟩⟩ <;> simp at h
 exact ⟨a,b,c,d,e,f,rfl⟩
instance:Inhabited Wnt:=⟨dW⟩
instance:Inhabited Stp:=⟨dS⟩
instance:Inhabited Ky:=⟨(0,0)⟩
set_option maxRecDepth 100000 in
theorem val_raw {H:Type} {enc:TypeId × Value→H} {W:World} {fuel:Nat} {cs:List Value} {x:DataW H × List MemPlace} (h:DataW.trod enc Tryz.prog W 0 (fun _=>true) true fuel 94 cs=some x) :
  ∃ (k n:Int) (s:ByteArray),cs=[.int .i64 k,.int .i64 n,.string s]∧(Lit.int .i64 k).wf=true∧(Lit.int .i64 n).wf=true∧s.size≤maxLen:=by
 obtain ⟨xs,m,_,_,hl,hxl,hf⟩:=DataW.trod_struct Tryz.underlying94 h
 rw [Tryz.cellsV] at hl
 obtain ⟨c0,c1,c2,rfl⟩:=len3 hl
 have e3:xs.length=3:=hxl
 have h0:=hf 0 _ rfl
 have h1:=hf 1 _ rfl
 have h2:=hf 2 _ rfl
 rw [List.getElem?_eq_getElem (by omega)] at h0 h1 h2
 have h0':DataW.trod enc Tryz.prog W 0 (fun _=>true) true m 3 [c0]=some xs[0]:=h0
 have h1':DataW.trod enc Tryz.prog W 0 (fun _=>true) true m 3 [c1]=some xs[1]:=h1
 have h2':DataW.trod enc Tryz.prog W 0 (fun _=>true) true m 9 [c2]=some xs[2]:=h2
 obtain ⟨k,hk,_,wk⟩:=DataW.trod_int Tryz.underlying3 h0'
 obtain ⟨n,hn,_,wn⟩:=DataW.trod_int Tryz.underlying3 h1'
 obtain ⟨s,hs,_,ws⟩:=DataW.trod_string Tryz.underlying9 h2'
 simp only [List.cons.injEq,and_true] at hk hn hs
 exact ⟨k,n,s,by rw [hk,hn,hs],wk,wn,ws⟩
set_option maxRecDepth 100000 in
theorem want_raw {H:Type} {enc:TypeId × Value→H} {W:World} {fuel:Nat} {cs:List Value} {x:DataW H × List MemPlace} (h:DataW.trod enc Tryz.prog W 0 (fun _=>true) true fuel 96 cs=some x) :
  ∃ v:Wnt,cs=[.string v.a,.int .i64 v.y,.int .i64 v.k,.int .i64 v.n,.string v.s]∧v.Wf:=by
 obtain ⟨xs,m,_,_,hl,hxl,hf⟩:=DataW.trod_struct Tryz.underlying96 h
 rw [Tryz.cellsW] at hl
 obtain ⟨c0,c1,c2,c3,c4,rfl⟩:=len5w hl
 have e3:xs.length=3:=hxl
 have h0:=hf 0 _ rfl
 have h1:=hf 1 _ rfl
 have h2:=hf 2 _ rfl
 rw [List.getElem?_eq_getElem (by omega)] at h0 h1 h2
 have h0':DataW.trod enc Tryz.prog W 0 (fun _=>true) true m 9 [c0]=some xs[0]:=h0
 have h1':DataW.trod enc Tryz.prog W 0 (fun _=>true) true m 3 [c1]=some xs[1]:=h1
 have h2':DataW.trod enc Tryz.prog W 0 (fun _=>true) true m 94 [c2,c3,c4]=some xs[2]:=h2
 obtain ⟨a,ha,_,wa⟩:=DataW.trod_string Tryz.underlying9 h0'
 obtain ⟨y,hy,_,wy⟩:=DataW.trod_int Tryz.underlying3 h1'
 obtain ⟨k,n,s,hv,wk,wn,ws⟩:=val_raw h2'
 simp only [List.cons.injEq,and_true] at ha hy hv
 obtain ⟨rfl,rfl,rfl⟩:=hv
 exact ⟨⟨a,y,k,n,s⟩,by rw [ha,hy],⟨wa,ws,(bounds_i64 wn).1,(bounds_i64 wn).2⟩⟩
theorem wants_of {H:Type} {enc:TypeId × Value→H} {W:World} {a:Option Addr} {len cap:Nat} {d:DataW H} {p:List MemPlace} (h:DataW.Trod enc Tryz.prog W 0 (fun _=>true) true 90 (.slice a len cap) d p) :
  ∃ f:List Wnt,f.length=len∧FiAt W a f∧(∀ x∈f,x.Wf)∧(len=0 ∨ ∃ es sp,d = .slice es sp∧es.length=len):=by
 obtain ⟨fuel,hf⟩:=h
 rcases Go.Deep.open_slice Tryz.underlying90 hf with ⟨hcs,_⟩ | ⟨x,l,c,m,n,D,Pl,hcs,_,hl,hm,hmm,hd,hcell⟩
 ·simp [Value.cells] at hcs
  obtain ⟨rfl,rfl,rfl⟩:=hcs
  exact ⟨[],rfl,Or.inl rfl,by simp,Or.inl rfl⟩
 ·simp [Value.cells] at hcs
  obtain ⟨rfl,rfl,rfl⟩:=hcs
  have hmm':m=cap:=by simpa using hmm
  subst hmm'
  rw [Tryz.cellsW] at hcell
  obtain ⟨F,hF⟩:=Go.Deep.choose_lt (α := Wnt) (n:=len) (p:=fun i v=>W.cells? 0 (x.add (i*5)) 5=some [.string v.a,.int .i64 v.y,.int .i64 v.k,.int .i64 v.n,.string v.s]∧v.Wf) (fun i hi=>by
   obtain ⟨cs',h1,h2⟩:=hcell i (by omega)
   obtain ⟨v,rfl,hw⟩:=want_raw h2
   exact ⟨v,h1,hw⟩)
  have hlen:((List.range len).map F).length=len:=by simp
  refine ⟨(List.range len).map F,hlen,?_,fun z hz=>?_,Or.inr ⟨_,_,(Prod.mk.injEq _ _ _ _ ▸ hd).1,by simp⟩⟩
  ·by_cases h0:len=0
   ·exact Or.inl (List.length_eq_zero_iff.1 (by rw [hlen,h0]))
   ·obtain ⟨b,off,spot⟩:=x
    have cc:=fun (i:Nat) (hi:i<len)=>(World.cells?_some (hF i hi).1).2.2
    have hc:=cc 0 (by omega) 0 (by omega)
    simp only [Nat.zero_mul,List.getElem?_cons_zero] at hc
    have hspot:spot=none:=by simpa [Addr.add] using World.cell?_spot hc
    subst hspot
    refine Or.inr ⟨b,off,rfl,?_,fun i hi=>?_⟩
    ·have:=World.block_lt_of_cell? _ _ hc
     simpa [Addr.add] using this
    ·rw [hlen] at hi
     have e:wat ((List.range len).map F) i=F i:=by
      simp [wat,List.getD_eq_getElem?_getD,hi]
     rw [e]
     have k0:=cc i hi 0 (by omega)
     have k1:=cc i hi 1 (by omega)
     have k2:=cc i hi 2 (by omega)
     have k3:=cc i hi 3 (by omega)
     have k4:=cc i hi 4 (by omega)
     rw [addr_add,addr_add] at k0 k1 k2 k3 k4
     exact ⟨k0,k1,k2,k3,k4⟩
  ·obtain ⟨i,hi,rfl⟩:=List.mem_map.1 hz
   exact (hF i (by simpa using hi)).2
theorem wants_raw {H:Type} {enc:TypeId × Value→H} {W:World} {fuel:Nat} {cs:List Value} {x:DataW H × List MemPlace} (h:DataW.trod enc Tryz.prog W 0 (fun _=>true) true fuel 90 cs=some x) :
  ∃ (a:Option Addr) (cap:Nat) (f:List Wnt),cs=[.slice a f.length cap]∧FiAt W a f∧(∀ z∈f,z.Wf)∧f.length≤Rows.uptoBulk x.1:=by
 rcases Go.Deep.open_slice Tryz.underlying90 h with ⟨hcs,_⟩ | ⟨y,l,c,m,n,D,Pl,hcs,_⟩
 ·obtain ⟨f,h1,h2,h3,h4⟩:=wants_of (enc:=enc) (W:=W) (a:=none) (len:=0) (cap:=0) (d:=x.1) (p:=x.2) ⟨fuel,by rw [hcs] at h;exact h⟩
  exact ⟨none,0,f,by rw [h1];exact hcs,h2,h3,by rw [h1];omega⟩
 ·obtain ⟨f,h1,h2,h3,h4⟩:=wants_of (enc:=enc) (W:=W) (a:=some y) (len:=l) (cap:=c) (d:=x.1) (p:=x.2) ⟨fuel,by rw [hcs] at h;exact h⟩
  exact ⟨some y,c,f,by rw [h1];exact hcs,h2,h3,by rw [h1];exact bulk_slice h4⟩
theorem attrs_raw {H:Type} {enc:TypeId × Value→H} {W:World} {fuel:Nat} {cs:List Value} {x:DataW H × List MemPlace} (h:DataW.trod enc Tryz.prog W 0 (fun _=>true) true fuel 91 cs=some x) :
  ∃ (a:Option Addr) (n cap:Nat),cs=[.slice a n cap]:=by
 rcases Go.Deep.open_slice Tryz.underlying91 h with ⟨hcs,_⟩ | ⟨y,l,c,m,n,D,Pl,hcs,_⟩
 ·exact ⟨none,0,0,hcs⟩
 ·exact ⟨some y,l,c,hcs⟩
set_option maxRecDepth 100000 in
theorem pair_raw {H:Type} {enc:TypeId × Value→H} {W:World} {fuel:Nat} {cs:List Value} {x:DataW H × List MemPlace} (h:DataW.trod enc Tryz.prog W 0 (fun _=>true) true fuel 81 cs=some x) :
  ∃ e:Ky,cs=[.int .i64 e.1,.int .i64 e.2]∧I64 e.1∧I64 e.2:=by
 obtain ⟨xs,m,_,_,hl,hxl,hf⟩:=DataW.trod_array Tryz.underlying81 h
 rw [Tryz.cellsP] at hl
 obtain ⟨c0,c1,rfl⟩:=len2 hl
 have e3:xs.length=2:=hxl
 have h0:=hf 0 (by omega)
 have h1:=hf 1 (by omega)
 rw [List.getElem?_eq_getElem (by omega)] at h0 h1
 have h0':DataW.trod enc Tryz.prog W 0 (fun _=>true) true m 3 [c0]=some xs[0]:=h0
 have h1':DataW.trod enc Tryz.prog W 0 (fun _=>true) true m 3 [c1]=some xs[1]:=h1
 obtain ⟨a,ha,_,wa⟩:=DataW.trod_int Tryz.underlying3 h0'
 obtain ⟨b,hb,_,wb⟩:=DataW.trod_int Tryz.underlying3 h1'
 simp only [List.cons.injEq,and_true] at ha hb
 exact ⟨(a,b),by rw [ha,hb],bounds_i64 wa,bounds_i64 wb⟩
theorem edges_up {H:Type} {enc:TypeId × Value→H} {W:World} {a:Option Addr} {len cap:Nat} {d:DataW H} {p:List MemPlace} (h:DataW.Trod enc Tryz.prog W 0 (fun _=>true) true 22 (.slice a len cap) d p) :
  ∃ es:List Ky,es.length=len∧EdAt W a es∧(∀ e∈es,I64 e.1∧I64 e.2)∧len≤Rows.uptoBulk d:=by
 obtain ⟨fuel,hf⟩:=h
 rcases Go.Deep.open_slice Tryz.underlying22 hf with ⟨hcs,_⟩ | ⟨x,l,c,m,n,D,Pl,hcs,_,hl,hm,hmm,hd,hcell⟩
 ·simp [Value.cells] at hcs
  obtain ⟨rfl,rfl,rfl⟩:=hcs
  exact ⟨[],rfl,Or.inl rfl,fun x hx=>(by cases hx),Nat.zero_le _⟩
 ·simp [Value.cells] at hcs
  obtain ⟨rfl,rfl,rfl⟩:=hcs
  have hmm':m=cap:=by simpa using hmm
  subst hmm'
  rw [Tryz.cellsP] at hcell
  obtain ⟨F,hF⟩:=Go.Deep.choose_lt (α := Ky) (n:=len) (p:=fun i e=>W.cells? 0 (x.add (i*2)) 2=some [.int .i64 e.1,.int .i64 e.2]∧I64 e.1∧I64 e.2) (fun i hi=>by
   obtain ⟨cs',h1,h2⟩:=hcell i (by omega)
   obtain ⟨v,rfl,hw⟩:=pair_raw h2
   exact ⟨v,h1,hw⟩)
  have hlen:((List.range len).map F).length=len:=by simp
  refine ⟨(List.range len).map F,hlen,?_,fun z hz=>?_,bulk_slice (Or.inr ⟨_,_,(Prod.mk.injEq _ _ _ _ ▸ hd).1,by simp⟩)⟩
  ·by_cases h0:len=0
   ·exact Or.inl (List.length_eq_zero_iff.1 (by rw [hlen,h0]))
   ·obtain ⟨b,off,spot⟩:=x
    have cc:=fun (i:Nat) (hi:i<len)=>(World.cells?_some (hF i hi).1).2.2
    have hc:=cc 0 (by omega) 0 (by omega)
    simp only [Nat.zero_mul,List.getElem?_cons_zero] at hc
    have hspot:spot=none:=by simpa [Addr.add] using World.cell?_spot hc
    subst hspot
    refine Or.inr ⟨b,off,rfl,?_,fun i hi=>?_⟩
    ·have:=World.block_lt_of_cell? _ _ hc
     simpa [Addr.add] using this
    ·rw [hlen] at hi
     have e:eat ((List.range len).map F) i=F i:=by
      simp [eat,List.getD_eq_getElem?_getD,hi]
     rw [e]
     have k0:=cc i hi 0 (by omega)
     have k1:=cc i hi 1 (by omega)
     rw [addr_add,addr_add] at k0 k1
     exact ⟨k0,k1⟩
  ·obtain ⟨i,hi,rfl⟩:=List.mem_map.1 hz
   exact (hF i (by simpa using hi)).2
def Sraw (W:World) (v:Stp):Prop:=FiAt W v.fad v.f∧(∀ z∈v.f,z.Wf)∧I64 v.wh∧I64 v.kind∧I64 v.a∧I64 v.b
set_option maxRecDepth 100000 in
theorem step_raw {H:Type} {enc:TypeId × Value→H} {W:World} {fuel:Nat} {cs:List Value} {x:DataW H × List MemPlace} (h:DataW.trod enc Tryz.prog W 0 (fun _=>true) true fuel 93 cs=some x) :
  ∃ v:Stp,cs=[.int .i64 v.wh,.int .i64 v.kind,.int .i64 v.a,.int .i64 v.b,.slice v.fad v.f.length v.fc,.slice v.ead v.en v.ec]∧Sraw W v∧v.f.length≤Rows.uptoBulk x.1∧7≤Rows.uptoBulk x.1:=by
 obtain ⟨xs,m,_,hx,hl,hxl,hf⟩:=DataW.trod_struct Tryz.underlying93 h
 rw [Tryz.cellsSt] at hl
 obtain ⟨c0,c1,c2,c3,c4,c5,rfl⟩:=len6 hl
 have e3:xs.length=6:=hxl
 have h0:=hf 0 _ rfl
 have h1:=hf 1 _ rfl
 have h2:=hf 2 _ rfl
 have h3:=hf 3 _ rfl
 have h4:=hf 4 _ rfl
 have h5:=hf 5 _ rfl
 rw [List.getElem?_eq_getElem (by omega)] at h0 h1 h2 h3 h4 h5
 have h0':DataW.trod enc Tryz.prog W 0 (fun _=>true) true m 3 [c0]=some xs[0]:=h0
 have h1':DataW.trod enc Tryz.prog W 0 (fun _=>true) true m 3 [c1]=some xs[1]:=h1
 have h2':DataW.trod enc Tryz.prog W 0 (fun _=>true) true m 3 [c2]=some xs[2]:=h2
 have h3':DataW.trod enc Tryz.prog W 0 (fun _=>true) true m 3 [c3]=some xs[3]:=h3
 have h4':DataW.trod enc Tryz.prog W 0 (fun _=>true) true m 90 [c4]=some xs[4]:=h4
 have h5':DataW.trod enc Tryz.prog W 0 (fun _=>true) true m 91 [c5]=some xs[5]:=h5
 obtain ⟨a,ha,_,wa⟩:=DataW.trod_int Tryz.underlying3 h0'
 obtain ⟨b,hb,_,wb⟩:=DataW.trod_int Tryz.underlying3 h1'
 obtain ⟨c,hc,_,wc⟩:=DataW.trod_int Tryz.underlying3 h2'
 obtain ⟨d,hd,_,wd⟩:=DataW.trod_int Tryz.underlying3 h3'
 obtain ⟨ad,cap,f,he,hi,hw,hll⟩:=wants_raw h4'
 obtain ⟨ead,en,ec,he5⟩:=attrs_raw h5'
 simp only [List.cons.injEq,and_true] at ha hb hc hd he he5
 have hlen:=bulk_len (H:=H) (xs.map (·.1))
 have hin:=bulk_in (H:=H) (d:=(xs[4]).1) (l:=xs.map (·.1)) (List.mem_map_of_mem (List.getElem_mem (by omega)))
 rw [List.length_map,e3] at hlen
 refine ⟨⟨a,b,c,d,f,ad,cap,ead,en,ec⟩,by rw [ha,hb,hc,hd,he,he5],⟨hi,hw,bounds_i64 wa,bounds_i64 wb,bounds_i64 wc,bounds_i64 wd⟩,?_,?_⟩
 ·rw [hx];simp only [Rows.uptoBulk];omega
 ·rw [hx];simp only [Rows.uptoBulk];omega
theorem bulk_each {H:Type} (l:List (DataW H)) (k:Nat) (h:∀ d∈l,k≤Rows.uptoBulk d):l.length*k≤Rows.uptoBulkAll l:=by
 induction l with
 | nil=>simp
 | cons x r ih =>
  have h1:=h x List.mem_cons_self
  have h2:=ih (fun d hd=>h d (List.mem_cons_of_mem _ hd))
  simp only [Rows.uptoBulkAll,List.length_cons]
  rw [Nat.add_mul]
  omega
theorem steps_up {H:Type} {enc:TypeId × Value→H} {W:World} {a:Option Addr} {len cap:Nat} {d:DataW H} {p:List MemPlace} (h:DataW.Trod enc Tryz.prog W 0 (fun _=>true) true 23 (.slice a len cap) d p) :
  ∃ xs:List Stp,xs.length=len∧SpAd (fun k=>k<W.heap.size) W a xs∧(∀ x∈xs,Sraw W x∧x.f.length≤Rows.uptoBulk d)∧len*7≤Rows.uptoBulk d:=by
 obtain ⟨fuel,hf⟩:=h
 rcases Go.Deep.open_slice Tryz.underlying23 hf with ⟨hcs,_⟩ | ⟨x,l,c,m,n,D,Pl,hcs,_,hl,hm,hmm,hd,hcell⟩
 ·simp [Value.cells] at hcs
  obtain ⟨rfl,rfl,rfl⟩:=hcs
  exact ⟨[],rfl,Or.inl rfl,fun x hx=>(by cases hx),Nat.zero_le _⟩
 ·simp [Value.cells] at hcs
  obtain ⟨rfl,rfl,rfl⟩:=hcs
  have hmm':m=cap:=by simpa using hmm
  subst hmm'
  rw [Tryz.cellsSt] at hcell
  have hd1:=(Prod.mk.injEq _ _ _ _ ▸ hd).1
  obtain ⟨F,hF⟩:=Go.Deep.choose_lt (α := Stp) (n:=len) (p:=fun i v=>W.cells? 0 (x.add (i*6)) 6=some [.int .i64 v.wh,.int .i64 v.kind,.int .i64 v.a,.int .i64 v.b,.slice v.fad v.f.length v.fc,.slice v.ead v.en v.ec]∧Sraw W v∧v.f.length≤Rows.uptoBulk (D i)∧7≤Rows.uptoBulk (D i)) (fun i hi=>by
   obtain ⟨cs',h1,h2⟩:=hcell i (by omega)
   obtain ⟨v,rfl,hw⟩:=step_raw h2
   exact ⟨v,h1,hw⟩)
  have hlen:((List.range len).map F).length=len:=by simp
  refine ⟨(List.range len).map F,hlen,?_,fun z hz=>?_,?_⟩
  ·by_cases h0:len=0
   ·exact Or.inl (List.length_eq_zero_iff.1 (by rw [hlen,h0]))
   ·obtain ⟨b,off,spot⟩:=x
    have cc:=fun (i:Nat) (hi:i<len)=>(World.cells?_some (hF i hi).1).2.2
    have hc:=cc 0 (by omega) 0 (by omega)
    simp only [Nat.zero_mul,List.getElem?_cons_zero] at hc
    have hspot:spot=none:=by simpa [Addr.add] using World.cell?_spot hc
    subst hspot
    refine Or.inr ⟨b,off,rfl,?_,fun i hi=>?_⟩
    ·have:=World.block_lt_of_cell? _ _ hc
     simpa [Addr.add] using this
    ·rw [hlen] at hi
     have e:sat ((List.range len).map F) i=F i:=by
      simp [sat,List.getD_eq_getElem?_getD,hi]
     rw [e]
     have k0:=cc i hi 0 (by omega)
     have k1:=cc i hi 1 (by omega)
     have k2:=cc i hi 2 (by omega)
     have k3:=cc i hi 3 (by omega)
     have k4:=cc i hi 4 (by omega)
     have k5:=cc i hi 5 (by omega)
     rw [addr_add,addr_add] at k0 k1 k2 k3 k4 k5
     exact ⟨k0,k1,k2,k3,k4,k5⟩
  ·obtain ⟨i,hi,rfl⟩:=List.mem_map.1 hz
   have hi':i<len:=by simpa using hi
   refine ⟨(hF i hi').2.1,?_⟩
   have h4:=(hF i hi').2.2.1
   rw [hd1]
   simp only [Rows.uptoBulk]
   have:=bulk_in (H:=H) (d:=D i) (l:=(List.range len).map D) (List.mem_map.2 ⟨i,hi,rfl⟩)
   omega
  ·rw [hd1]
   simp only [Rows.uptoBulk]
   have:=bulk_each (H:=H) ((List.range len).map D) 7 (fun z hz=>by
    obtain ⟨i,hi,rfl⟩:=List.mem_map.1 hz
    exact (hF i (by simpa using hi)).2.2.2)
   rw [List.length_map,List.length_range] at this
   omega
end Go.Proofs.YtecnfgikbmcgoaaGreat
namespace Go.Proofs.YtecnfgikbmcgoaaGreat
open Go.RowKit
theorem Le.wide {A A':Nat→Prop} {LB:Nat} {D:Nat→Prop} {M:Nat} {w:World} (h:Le A LB D M w) (hA:∀ k,A k→A' k) (hb:∀ k,A' k→A k ∨ ∃ cs fr,w.heap[k]? = some (.cells cs 96 fr)):Le A' LB D M w:=by
 obtain ⟨base,vf,vw,Fs,h⟩:=h
 exact ⟨base,vf,vw,Fs,h.lt,h.lb,h.f,h.n,h.len,h.fo,h.wo,h.os,fun e he=>(by
  obtain ⟨b,off,e1,e2⟩:=h.ar e he
  exact ⟨b,off,e1,hA b e2⟩),fun k hk=>(hb k hk).elim (h.ba k) Or.inr⟩
theorem St.wide {A A':Nat→Prop} {T:Tc} {C:Rc} {r R:Nat→Rl} {LB PB BB:Nat} {B D:Nat→Prop} {L M:Nat} {w w2:World} {cs:List (Pc (List Atr))} {s:Ts} (h:St A T C r R LB PB BB B D L M w cs s) (g:Gr w w2) (hA:∀ k,A k→A' k) (hF:∀ k,A' k→A k∨(w.heap.size≤k∧k<w2.heap.size ∧ ∃ cs fr,w2.heap[k]? = some (.cells cs 96 fr))):St A' T C r R LB PB BB B D L M w2 cs s:=by
 have h2:=h.gr g
 have tr:=h.pr.p.b.top
 have tR:=h.pr.q.top.1
 have tA:=h.pr.q.top.2
 have tp:=blk_lt h.pr.pb
 have aR:=h.aR
 refine ⟨⟨h2.pr.p,h2.pr.q.wide hA (fun k hk=>?_) (fun k hk=>?_),h2.pr.ap,fun k hk=>?_,h2.pr.R0,h2.pr.pb,h2.pr.np⟩,h2.bo,h2.le.wide hA (fun k hk=>(hF k hk).imp id (fun e=>e.2.2)),fun k hk=>?_,fun k hk=>?_⟩
 ·rcases hF k hk with e | e
  ·exact aR k e
  ·exact tR k e.1
 ·rcases hF k hk with e | e
  ·exact g.lt (tA k e)
  ·exact e.2.1
 ·rcases hF k hk with e | e
  ·exact h.pr.ar k e
  ·exact tr k e.1
 ·obtain ⟨a1,a2,a3,a4,a5⟩:=h.sB k hk
  refine ⟨a1,a2,a3,fun c=>?_,a5⟩
  rcases hF k c with e | e
  ·exact a4 e
  ·exact absurd (h.bo.lt k hk) (by omega)
 ·obtain ⟨a1,a2,a3,a4⟩:=h.sD k hk
  refine ⟨a1,a2,fun c=>?_,a4⟩
  rcases hF k c with e | e
  ·exact a3 e
  ·exact absurd (h.le.lt k hk) (by omega)
theorem Jx.rebase {A G A' S:Nat→Prop} {w0 w w2:World} {BB:Nat} {Ks:List Ky} {L Mw:Nat} {PB:Nat} (h:Jx A G w0 BB Ks L Mw w (some PB) none) (g:Gr w w2) (hA:∀ k,A k→A' k) (hF:∀ k,A' k→A k∨(w.heap.size≤k∧k<w2.heap.size ∧ ∃ cs fr,w2.heap[k]? = some (.cells cs 96 fr))) (hS:∀ k,S k→w.heap.size≤k∧k<w2.heap.size):Jx A' S w2 BB Ks L Mw w2 (some PB) none:=by
 obtain ⟨B,O1,O2,j⟩:=h
 have lB:=j.bo.lt
 have l1:∀ k,O1 k→k<w.heap.size:=fun k hk=>j.a.lt hk
 obtain ⟨T,C,r,R,LB,D,cs,s,nxt,rank,i1,i2,i3⟩:=j.a
 refine ⟨B,O1,O2,j.bo.gr g,⟨T,C,r,R,LB,D,cs,s,nxt,rank,i1,i2.wide g hA hF,i3⟩,j.b,j.ap,fun _ _=>rfl,fun k hk=>?_,Nat.le_refl _,fun k hk=>⟨fun c=>?_,(j.nb k hk).2⟩,fun k hk=>⟨fun c=>?_,j.b k,fun c=>?_⟩,⟨rfl,rfl,rfl⟩,j.ml.imp fun m hm=>g.ml hm⟩
 ·rcases hk with hk | hk
  ·rcases hF k hk with e | e
   ·exact g.lt (j.al k (Or.inl e))
   ·exact e.2.1
  ·exact (hS k hk).2
 ·rcases hF k c with e | e
  ·exact (j.nb k hk).1 e
  ·exact absurd (lB k hk) (by omega)
 ·exact absurd (l1 k c) (by have:=(hS k hk).1;omega)
 ·exact absurd (lB k c) (by have:=(hS k hk).1;omega)
theorem Tryz.infoPair:(Tryz.prog.info? 81).map (fun i=>(i.zero,i.size,i.bytes))=some (some (.agg #[.int .i64 0,.int .i64 0]),2,16):=by kernel_rfl
theorem Kx.call {E:Nat→Prop} {w w1 w2:World} (h:Kx E w w1) (g:Gr w1 w2):Kx E w w2:=⟨g.os.trans h.os,g.tape.trans h.tape,g.output.trans h.output,Nat.le_trans h.size g.size,fun k hk hn=>(g.block k (Nat.lt_of_lt_of_le hk h.size)).trans (h.keep k hk hn)⟩
theorem Kx.set {IB:Nat} {w w':World} (h:Kx (fun k=>k=IB) w w') (j:Nat) (u:Value):Kx (fun k=>k=IB) w (w'.setCell ⟨IB,j,none⟩ u) :=
 have b:=Below.setCell (Below.refl IB w') (p:=⟨IB,j,none⟩) (Nat.le_refl _) u
 ⟨b.os.trans h.os,b.tape.trans h.tape,b.output.trans h.output,Nat.le_trans h.size b.size,fun k hk hn=>(Below.heap_setCell w' ⟨IB,j,none⟩ u k hn).trans (h.keep k hk hn)⟩
theorem Kx.grw {w w1 w2:World} (h:Kx (fun k=>k=w.heap.size) w1 w2) (g:Gr w w1):Gr w w2 :=
 ⟨h.os.trans g.os,h.tape.trans g.tape,h.output.trans g.output,Nat.le_trans g.size h.size,fun k hk=>(h.keep k (g.lt hk) (by omega)).trans (g.block k hk)⟩
theorem tup2 {a b c d:Value} (h:Value.tuple #[a,b] = .tuple #[c,d]):a=c∧b=d:=by
 injection h with h
 injection h with h
 injection h with h1 h
 injection h with h2 _
 exact ⟨h1,h2⟩
theorem tup2p {xo yo:Option Addr} {c d:Int} (h:Value.tuple #[.pointer xo,.int .i64 c] = .tuple #[.pointer yo,.int .i64 d]):xo=yo∧c=d:=by
 obtain ⟨h1,h2⟩:=tup2 h
 injection h1 with h1
 injection h2 with _ h2
 exact ⟨h1,h2⟩
theorem eqPair1 (x y:Int) (W:World):(Op.equalIn 10000 81 (.agg #[.int .i64 x,.int .i64 y]) (.agg #[.int .i64 x,.int .i64 y])).run Tryz.prog W = .ok true W:=by
 have:=eqPair x y x y W
 simpa using this
theorem Ib.set1 {IB:Nat} {X:List Ky} {w w':World} (h:Ib IB X w) (g:Gr w' w) (hB:w'.heap.size≤IB) (i:Nat) (a b:Int):Ib IB (X.set i (a,b)) ((w.setCell ⟨IB,i*2,none⟩ (.int .i64 a)).setCell ⟨IB,i*2+1,none⟩ (.int .i64 b))∧Gr w' ((w.setCell ⟨IB,i*2,none⟩ (.int .i64 a)).setCell ⟨IB,i*2+1,none⟩ (.int .i64 b)):=⟨h.set i a b,gr_set (gr_set g hB _) hB _⟩
theorem kc_rep (n:Nat):kcells (List.replicate n (0,0))=List.replicate (n*2) (.int .i64 0):=by
 induction n with
 | zero=>rfl
 | succ n ih =>
  rw [List.replicate_succ]
  simp only [kcells,List.flatMap_cons] at ih ⊢
  rw [ih,show (n+1)*2=n*2+1+1 by omega,List.replicate_succ,List.replicate_succ]
  rfl
theorem made2 (n:Nat):(madeCells #[.int .i64 0,.int .i64 0] (n*2)).toList=kcells (List.replicate n (0,0)):=by
 have h1:(madeCells #[.int .i64 0,.int .i64 0] (n*2)).toList=List.replicate (n*2) (.int .i64 0):=by
  rw [List.eq_replicate_iff]
  refine ⟨by simp [madeCells],fun x hx=>?_⟩
  simp only [madeCells,Array.toList_map,List.mem_map] at hx
  obtain ⟨i,_,rfl⟩:=hx
  have:i % 2=0∨i % 2=1:=by omega
  rcases this with e | e <;> simp [e]
 rw [h1,kc_rep]
theorem Ib.made {b n:Nat} {w:World} (h:w.ownsRow b 81 2 (.slice (some ⟨b,0,none⟩) n n) n (madeCells #[.int .i64 0,.int .i64 0] (n*2)).toList):Ib b (List.replicate n (0,0)) w:=by
 rcases h.2 with ⟨h2,_⟩ | ⟨g',cap,cur,hv,_,hg,_,_,hs,ht⟩
 ·cases h2
 ·injection hv with hv _ hc
  injection hv with hv
  injection hv with h1 _
  subst h1 hc
  refine ⟨cur,hg,?_⟩
  rw [List.take_of_length_le (by rw [Array.length_toList];omega)] at ht
  rw [ht,made2]
theorem NpP.split {n:Int} {es:List Ky} {nb:Nat} {adj:Nat→Nat→Bool} {w:World} {e:Ending} {w':World} (h:NpP n es nb adj w e w'):∃ xo code,e = .returned (.tuple #[.pointer xo,.int .i64 code])∧Gr w w'∧NpP n es nb adj w (.returned (.tuple #[.pointer xo,.int .i64 code])) w':=by
 rcases h with ⟨h1,rfl,h3⟩ | ⟨h1,TB,HB,hcap,MB,CB,LB,ml,r,rfl,h3,h4⟩
 ·exact ⟨none,4,rfl,h3,Or.inl ⟨h1,rfl,h3⟩⟩
 ·exact ⟨some ⟨TB,0,none⟩,0,rfl,h4.gr0,Or.inr ⟨h1,TB,HB,hcap,MB,CB,LB,ml,r,rfl,h3,h4⟩⟩
theorem RnK.split {A:Nat→Prop} {n:Int} {es:List Ky} {nb:Nat} {adj:Nat→Nat→Bool} {nxt:Nat→Nat→Int} {w w1:World} {xo:Option Addr} {code:Int} {e:Ending} {w2:World} (np:NpP n es nb adj w (.returned (.tuple #[.pointer xo,.int .i64 code])) w1) (rn:RnK A w1 n es e w2) (hT:treeB n es=true→Tsh n es nb adj nxt) (hA:∀ k,A k→k<w.heap.size) (h0:0<w.heap.size) :
  ∃ yo,e = .returned (.tuple #[.pointer yo,.int .i64 code])∧Gr w1 w2∧N2P A n es nb adj w (.tuple #[.pointer xo,.int .i64 code]) (.tuple #[.pointer yo,.int .i64 code]) w2:=by
 have rn':=rn
 unfold RnK at rn'
 rw [refB_tree] at rn'
 rcases rn' with ⟨h1,rfl,h3⟩ | ⟨h1,C,R,lv,Ls,rfl,h3,h4,h5,h6⟩
 ·rcases np with ⟨ht,he,g⟩ | ⟨ht,_⟩
  ·injection he with he
   obtain ⟨e1,e2⟩:=tup2 he
   injection e2 with _ e2
   subst e2
   exact ⟨none,rfl,h3,N2P.of (Or.inl ⟨ht,by rw [he],g⟩) rn hT hA h0⟩
  ·rw [ht] at h1;cases h1
 ·have np':=np
  rcases np' with ⟨ht,he,g⟩ | ⟨ht,TB,HB,hcap,MB,CB,LB,ml,r,he,tf,fr⟩
  ·rw [ht] at h1;cases h1
  ·injection he with he
   obtain ⟨e1,e2⟩:=tup2 he
   injection e2 with _ e2
   subst e2
   exact ⟨_,rfl,h6.gr0,N2P.of np rn hT hA h0⟩
set_option maxRecDepth 100000 in
set_option maxHeartbeats 4000000 in
theorem opened_any (A:Nat→Prop) (n:Int) (es:List Ky) (ad:Option Addr) (cap BB:Nat) (nb:Nat) (adj:Nat→Nat→Bool) (nxt:Nat→Nat→Int) (w:World) (hl:es.length≤1048576) (h:EdAt w ad es) (hI:∀ e∈es,I64 e.1∧I64 e.2) (hml:∃ m,Ml m w) (hA:∀ k,A k→k<w.heap.size) (hT:treeB n es=true→Tsh n es nb adj nxt) :
  Calls Tryz.prog 28 #[.int .i64 n,.slice ad es.length cap,.pointer (some ⟨BB,0,none⟩)] w fun e w'=>OpP A n es BB nb adj w e w':=by
 obtain ⟨i0,hi,hz0,hz1,hz2⟩:=info_parts Tryz.infoPair
 have HE:=Hid.mk' h
 have HA:=Hid.mk' hA
 have HW0:Hid (0<w.heap.size):=by
  obtain ⟨m,hm⟩:=hml
  exact hm.pos
 have NP:Hid (∀ (W:World) (a:Option Addr) (c:Nat),Gr w W→EdAt W a es→Calls Tryz.prog 35 #[.int .i64 n,.slice a es.length c] W fun e w'=>∃ xo code,e = .returned (.tuple #[.pointer xo,.int .i64 code])∧Gr W w'∧NpP n es nb adj W (.returned (.tuple #[.pointer xo,.int .i64 code])) w'):=fun W a c g ha=>(new_prog n es a c W nb adj nxt (Nat.le_trans hl (by decide)) ha hI (hml.imp fun m hm=>g.ml hm) hT).mono (fun e w' he=>he.split)
 have NR:Hid (∀ (W W1:World) (xo:Option Addr) (code:Int),Gr w W→(Gr W W1∧NpP n es nb adj W (.returned (.tuple #[.pointer xo,.int .i64 code])) W1)→Calls Tryz.prog 57 #[.int .i64 n,.slice ad es.length cap] W1 fun e w'=>∃ yo,e = .returned (.tuple #[.pointer yo,.int .i64 code])∧Gr W1 w'∧N2P A n es nb adj W (.tuple #[.pointer xo,.int .i64 code]) (.tuple #[.pointer yo,.int .i64 code]) w'):=fun W W1 xo code g hq=>(new_ref A n es ad cap W1 (h.gr (Gr.call g hq.1)) (fun k hk=>(Gr.call g hq.1).lt (hA k hk))).mono (fun e w' he=>RnK.split hq.2 he hT (fun k hk=>g.lt (hA k hk)) (g.lt HW0.out))
 clear h hI hml hA hT
 go_enter Tryz.func28,Tryz.ntmps28
 go_wp2_with (at_make;refine wpList_make_full _ rfl _ _ 22 rfl w.heap.size 81 i0 _ 2 Tryz.underlying22 hi hz0 hz1 _ _ _ _ (es.length+8) rfl rfl (by omega) (by omega) ?b2 ?b3 ?b4 ?_)
 case b2=>rw [hz2];omega
 case b3=>unfold maxLen;omega
 case b4=>exact Nat.le_refl _
 intro w1 hown1 hgrow1
 have g1:Gr w w1:=Below.grown (Gr.refl w) hgrow1 (Nat.le_refl _) (fun b hb=>by cases hb)
 have IB1:Hid (Ib w.heap.size (List.replicate (es.length+8) (0,0)) w1):=Ib.made hown1
 have G1:=Hid.mk' g1
 clear hown1 hgrow1 g1
 go_wp2_with fail
 go_loopw [9] (fun i wr=>∃ (q:Nat) (X:List Ky),q≤es.length+8∧i = .int .i64 q∧Hid (X.length=es.length+8)∧Hid (∀ j,j<q→eat X j=eat (outEd es) j)∧Hid (Gr w wr)∧Hid (Ib w.heap.size X wr)) (fun i _=>es.length+8 - (intOf i).toNat)
 case atStart=>exact ⟨0,_,Nat.zero_le _,rfl,by show _=_;simp,fun j hj=>absurd hj (Nat.not_lt_zero _),G1,IB1⟩
 case round =>
  obtain ⟨q,X,hq,rfl,HL,HX,HG,HB⟩:=hrel
  by_cases hlt:q<es.length+8
  ·obtain ⟨c0,c1⟩:=HB.out.cell (i:=q) (by rw [HL.out];exact hlt)
   have f0:=HB.out.fz (q*2)
   have f1:=HB.out.fz (q*2+1)
   by_cases hqf:q<es.length
   ·obtain ⟨b,off,e0,hbl,hce⟩:=HE.out.resolve_left (fun e=>by rw [e] at hqf;exact absurd hqf (Nat.not_lt_zero _))
    subst e0
    obtain ⟨d0,d1⟩:=hce q hqf
    have nb:b≠w.heap.size:=by omega
    rw [← (bcell HG.out).1 b _ hbl] at d0 d1
    have S1:=HB.out.set1 HG.out (Nat.le_refl _) q 77 77
    have k0:=S1.1.fz (q*2)
    have k1:=S1.1.fz (q*2+1)
    have S2:=Hid.mk' (S1.1.set1 S1.2 (Nat.le_refl _) q (eat es q).1 (eat es q).2)
    clear S1 hce
    go_wp2_with fail
    refine ⟨⟨q+1,_,by omega,by simp,?_,?_,S2.out.2,S2.out.1⟩,measM_dec _ _ hlt⟩
    ·show _=_
     rw [List.length_set,List.length_set];exact HL.out
    ·intro j hj
     rw [eat_set (by rw [List.length_set,HL.out];exact hlt),eat_set (by rw [HL.out];exact hlt)]
     by_cases e:j=q
     ·subst e;rw [if_pos rfl,eat_outEd hqf]
     ·rw [if_neg e,if_neg e];exact HX.out j (by omega)
   ·have S1:=Hid.mk' (HB.out.set1 HG.out (Nat.le_refl _) q 77 77)
    go_wp2_with fail
    refine ⟨⟨q+1,_,by omega,by simp,?_,?_,S1.out.2,S1.out.1⟩,measM_dec _ _ hlt⟩
    ·show _=_
     rw [List.length_set];exact HL.out
    ·intro j hj
     rw [eat_set (by rw [HL.out];exact hlt)]
     by_cases e:j=q
     ·subst e;rw [if_pos rfl,eat_outEd' hqf hlt]
     ·rw [if_neg e];exact HX.out j (by omega)
  ·have hqe:q=es.length+8:=by omega
   obtain ⟨wx,hwx⟩:∃ wx,wx=wr:=⟨wr,rfl⟩
   subst hwx
   have EA:Hid (EdAt wx (some ⟨w.heap.size,0,none⟩) es):=Or.inr ⟨w.heap.size,0,rfl,HB.out.lt,fun i hi=>by
    obtain ⟨c0,c1⟩:=HB.out.cell (i:=i) (by rw [HL.out];omega)
    rw [HX.out i (by omega),eat_outEd hi] at c0 c1
    rw [Nat.zero_add]
    exact ⟨c0,c1⟩⟩
   have NN:Hid (Calls Tryz.prog 35 #[.int .i64 n,if es.length=0 then .slice none 0 0 else .slice (some ⟨w.heap.size,0,none⟩) es.length (es.length+8)] wx fun e w'=>∃ xo code,e = .returned (.tuple #[.pointer xo,.int .i64 code])∧Gr wx w'∧NpP n es nb adj wx (.returned (.tuple #[.pointer xo,.int .i64 code])) w'):=by
    show Calls _ _ _ _ _
    by_cases h0:es.length=0
    ·rw [if_pos h0]
     have:=NP.out wx none 0 HG.out (Or.inl (List.length_eq_zero_iff.1 h0))
     rw [h0] at this
     exact this
    ·rw [if_neg h0];exact NP.out wx _ _ HG.out EA.out
   clear NP EA
   by_cases h0:es.length=0
   ·have h0':((es.length:Int)==0)=true:=by simp [h0]
    rw [if_pos h0] at NN
    clear h0
    go_wp2_with fail
    clear h0'
    refine NN.out.mono ?_
    rintro e w2 ⟨xo,code,rfl,g2,q1⟩
    have RR:=Hid.mk' (NR.out wx w2 xo code HG.out ⟨g2,q1⟩)
    have G2:=Hid.mk' g2
    clear NN NR g2 q1
    go_wp2_with fail
    refine RR.out.mono ?_
    rintro e w3 ⟨yo,rfl,g3,q2⟩
    have QQ:=Hid.mk' q2
    have G3:=Hid.mk' (Gr.call G2.out g3)
    have I3:=Hid.mk' (HB.out.gr G3.out)
    have GW:=Hid.mk' (Gr.call HG.out G3.out)
    have GX:=Hid.mk' HG.out.size
    have HLT:Hid (w.heap.size<wx.heap.size∧w.heap.size≠0 ∧ ¬ A w.heap.size):=⟨HB.out.lt,by have:=HW0.out;omega,fun c=>absurd (HA.out _ c) (by omega)⟩
    clear RR G2 g3 q2
    go_wp2_with fail
    go_loopw [15,16] (fun ok i w4=>∃ (p:Nat) (Y:List Ky),p≤es.length+8∧ok = .bool true∧i = .int .i64 p∧Hid (Y.length=es.length+8)∧Hid (∀ j,p≤j→j<es.length+8→eat Y j=eat (outEd es) j)∧Hid (Kx (fun k=>k=w.heap.size) w3 w4)∧Hid (Ib w.heap.size Y w4)) (fun _ i _=>es.length+8 - (intOf i).toNat)
    case atStart=>exact ⟨0,X,Nat.zero_le _,rfl,rfl,HL,fun j _ hj=>HX.out j (by omega),Kx.gr (Gr.refl _),I3⟩
    case round =>
     obtain ⟨p,Y,hp,rfl,rfl,HL3,HX3,HK,HB3⟩:=hrel
     by_cases hlt3:p<es.length+8
     ·obtain ⟨c0,c1⟩:=HB3.out.cell (i:=p) (by rw [HL3.out];exact hlt3)
      rw [HX3.out p (Nat.le_refl _) hlt3] at c0 c1
      have f0:=HB3.out.fz (p*2)
      have f1:=HB3.out.fz (p*2+1)
      have S3:=Hid.mk' (And.intro (HB3.out.set p 0 1) ((HK.out.set (p*2) (.int .i64 0)).set (p*2+1) (.int .i64 1)))
      have L3:Hid ((Y.set p (0,1)).length=es.length+8):=by
       show _=_
       rw [List.length_set];exact HL3.out
      have X3:Hid (∀ j,p+1≤j→j<es.length+8→eat (Y.set p (0,1)) j=eat (outEd es) j):=fun j h1 h2=>by
       rw [eat_set (by rw [HL3.out];exact hlt3),if_neg (by omega)]
       exact HX3.out j (by omega) h2
      by_cases hpf:p<es.length
      ·obtain ⟨b,off,e0,hbl,hce⟩:=HE.out.resolve_left (fun e=>by rw [e] at hpf;exact absurd hpf (Nat.not_lt_zero _))
       subst e0
       obtain ⟨d0,d1⟩:=hce p hpf
       have gw:=Gr.call HG.out G3.out
       have eb:=(HK.out.keep b (gw.lt hbl) (by omega)).trans (gw.block b hbl)
       rw [← cell_blk eb] at d0 d1
       rw [eat_outEd hpf] at c0 c1
       have eq1:=eqPair1 (eat es p).1 (eat es p).2
       clear hce eb gw
       go_wp2_with fail
       go_quiet (fail)
       have S3:=Hid.mk' (And.intro ((HB3.out.gr ((Gr.refl _).drewN nq)).set p 0 1) (((HK.out.call ((Gr.refl _).drewN nq)).set (p*2) (.int .i64 0)).set (p*2+1) (.int .i64 1)))
       go_wp2_with fail
       exact ⟨⟨p+1,_,by omega,rfl,by simp,L3,X3,S3.out.2,S3.out.1⟩,measM_dec _ _ hlt3⟩
      ·rw [eat_outEd' hpf hlt3] at c0 c1
       have eq1:=eqPair1 77 77
       go_wp2_with fail
       exact ⟨⟨p+1,_,by omega,rfl,by simp,L3,X3,S3.out.2,S3.out.1⟩,measM_dec _ _ hlt3⟩
     ·clear HX3 HL3 HB3
      go_wp2_with fail
      refine (num_any code wr).mono ?_
      rintro e w5 ⟨rfl,hw5⟩
      have hw5':=hw5.symm
      clear hw5
      subst hw5'
      rcases QQ.out with ⟨ht,pe,re,gq⟩ | ⟨ht,T,C,r,R,pe,re,hnb',hadj',⟨HB',hcap',MB',CB',LB',ml',hTe⟩,tw,gq⟩
      ·obtain ⟨rfl,rfl⟩:=tup2p pe
       obtain ⟨rfl,_⟩:=tup2p re
       have FIN:Hid (OpP A n es BB nb adj w (.returned (.tuple #[.pointer none,.bool true])) wr):=Or.inl ⟨ht,rfl,HK.out.grw GW.out⟩
       clear QQ pe re gq ht
       go_wp2_with fail
       exact bodyPost_ret (v:=.tuple #[.pointer none,.bool true]) (by simp [results,Tryz.results28,go_sem]) rfl FIN.out
      ·obtain ⟨rfl,rfl⟩:=tup2p pe
       obtain ⟨rfl,_⟩:=tup2p re
       have FIN:Hid (OpP A n es BB nb adj w (.returned (.tuple #[.pointer (some ⟨wr.heap.size+1,0,none⟩),.bool true])) ((wr.alloc (.cells lent0 152)).alloc (.cells #[.pointer (some ⟨T.TB,0,none⟩),.pointer (some ⟨C.TB,0,none⟩),.pointer (some ⟨wr.heap.size,0,none⟩),.pointer (some ⟨BB,0,none⟩)] 103))):=by
        refine Or.inr ⟨ht,T,C,r,R,wr.heap.size,wr.heap.size+1,wx,wr,rfl,((HK.out.grw GW.out).alloc _).alloc _,⟨T.TB,HB',hcap',MB',CB',LB',ml',hTe⟩,tw.apart HK.out HLT.out.1 HLT.out.2.1 HLT.out.2.2,GX.out,((Gr.refl wr).alloc _).alloc _,?_,?_,Nat.le_refl _,Nat.le_succ _,by omega⟩
        ·rw [heap_alloc_old _ _ (by simp)];exact heap_alloc_new _ _
        ·have:=heap_alloc_new (wr.alloc (.cells lent0 152)) (.cells #[.pointer (some ⟨T.TB,0,none⟩),.pointer (some ⟨C.TB,0,none⟩),.pointer (some ⟨wr.heap.size,0,none⟩),.pointer (some ⟨BB,0,none⟩)] 103)
         rw [World.size_alloc] at this
         exact this
       clear QQ pe re gq ht tw hTe hnb' hadj'
       go_wp2_with fail
       exact bodyPost_ret (v:=.tuple #[.pointer (some ⟨wr.heap.size+1,0,none⟩),.bool true]) (by simp [results,Tryz.results28,go_sem]) rfl FIN.out
   ·have h0':((es.length:Int)==0)=false:=by simpa using h0
    rw [if_neg h0] at NN
    clear h0
    go_wp2_with fail
    clear h0'
    refine NN.out.mono ?_
    rintro e w2 ⟨xo,code,rfl,g2,q1⟩
    have RR:=Hid.mk' (NR.out wx w2 xo code HG.out ⟨g2,q1⟩)
    have G2:=Hid.mk' g2
    clear NN NR g2 q1
    go_wp2_with fail
    refine RR.out.mono ?_
    rintro e w3 ⟨yo,rfl,g3,q2⟩
    have QQ:=Hid.mk' q2
    have G3:=Hid.mk' (Gr.call G2.out g3)
    have I3:=Hid.mk' (HB.out.gr G3.out)
    have GW:=Hid.mk' (Gr.call HG.out G3.out)
    have GX:=Hid.mk' HG.out.size
    have HLT:Hid (w.heap.size<wx.heap.size∧w.heap.size≠0 ∧ ¬ A w.heap.size):=⟨HB.out.lt,by have:=HW0.out;omega,fun c=>absurd (HA.out _ c) (by omega)⟩
    clear RR G2 g3 q2
    go_wp2_with fail
    go_loopw [15,16] (fun ok i w4=>∃ (p:Nat) (Y:List Ky),p≤es.length+8∧ok = .bool true∧i = .int .i64 p∧Hid (Y.length=es.length+8)∧Hid (∀ j,p≤j→j<es.length+8→eat Y j=eat (outEd es) j)∧Hid (Kx (fun k=>k=w.heap.size) w3 w4)∧Hid (Ib w.heap.size Y w4)) (fun _ i _=>es.length+8 - (intOf i).toNat)
    case atStart=>exact ⟨0,X,Nat.zero_le _,rfl,rfl,HL,fun j _ hj=>HX.out j (by omega),Kx.gr (Gr.refl _),I3⟩
    case round =>
     obtain ⟨p,Y,hp,rfl,rfl,HL3,HX3,HK,HB3⟩:=hrel
     by_cases hlt3:p<es.length+8
     ·obtain ⟨c0,c1⟩:=HB3.out.cell (i:=p) (by rw [HL3.out];exact hlt3)
      rw [HX3.out p (Nat.le_refl _) hlt3] at c0 c1
      have f0:=HB3.out.fz (p*2)
      have f1:=HB3.out.fz (p*2+1)
      have S3:=Hid.mk' (And.intro (HB3.out.set p 0 1) ((HK.out.set (p*2) (.int .i64 0)).set (p*2+1) (.int .i64 1)))
      have L3:Hid ((Y.set p (0,1)).length=es.length+8):=by
       show _=_
       rw [List.length_set];exact HL3.out
      have X3:Hid (∀ j,p+1≤j→j<es.length+8→eat (Y.set p (0,1)) j=eat (outEd es) j):=fun j h1 h2=>by
       rw [eat_set (by rw [HL3.out];exact hlt3),if_neg (by omega)]
       exact HX3.out j (by omega) h2
      by_cases hpf:p<es.length
      ·obtain ⟨b,off,e0,hbl,hce⟩:=HE.out.resolve_left (fun e=>by rw [e] at hpf;exact absurd hpf (Nat.not_lt_zero _))
       subst e0
       obtain ⟨d0,d1⟩:=hce p hpf
       have gw:=Gr.call HG.out G3.out
       have eb:=(HK.out.keep b (gw.lt hbl) (by omega)).trans (gw.block b hbl)
       rw [← cell_blk eb] at d0 d1
       rw [eat_outEd hpf] at c0 c1
       have eq1:=eqPair1 (eat es p).1 (eat es p).2
       clear hce eb gw
       go_wp2_with fail
       go_quiet (fail)
       have S3:=Hid.mk' (And.intro ((HB3.out.gr ((Gr.refl _).drewN nq)).set p 0 1) (((HK.out.call ((Gr.refl _).drewN nq)).set (p*2) (.int .i64 0)).set (p*2+1) (.int .i64 1)))
       go_wp2_with fail
       exact ⟨⟨p+1,_,by omega,rfl,by simp,L3,X3,S3.out.2,S3.out.1⟩,measM_dec _ _ hlt3⟩
      ·rw [eat_outEd' hpf hlt3] at c0 c1
       have eq1:=eqPair1 77 77
       go_wp2_with fail
       exact ⟨⟨p+1,_,by omega,rfl,by simp,L3,X3,S3.out.2,S3.out.1⟩,measM_dec _ _ hlt3⟩
     ·clear HX3 HL3 HB3
      go_wp2_with fail
      refine (num_any code wr).mono ?_
      rintro e w5 ⟨rfl,hw5⟩
      have hw5':=hw5.symm
      clear hw5
      subst hw5'
      rcases QQ.out with ⟨ht,pe,re,gq⟩ | ⟨ht,T,C,r,R,pe,re,hnb',hadj',⟨HB',hcap',MB',CB',LB',ml',hTe⟩,tw,gq⟩
      ·obtain ⟨rfl,rfl⟩:=tup2p pe
       obtain ⟨rfl,_⟩:=tup2p re
       have FIN:Hid (OpP A n es BB nb adj w (.returned (.tuple #[.pointer none,.bool true])) wr):=Or.inl ⟨ht,rfl,HK.out.grw GW.out⟩
       clear QQ pe re gq ht
       go_wp2_with fail
       exact bodyPost_ret (v:=.tuple #[.pointer none,.bool true]) (by simp [results,Tryz.results28,go_sem]) rfl FIN.out
      ·obtain ⟨rfl,rfl⟩:=tup2p pe
       obtain ⟨rfl,_⟩:=tup2p re
       have FIN:Hid (OpP A n es BB nb adj w (.returned (.tuple #[.pointer (some ⟨wr.heap.size+1,0,none⟩),.bool true])) ((wr.alloc (.cells lent0 152)).alloc (.cells #[.pointer (some ⟨T.TB,0,none⟩),.pointer (some ⟨C.TB,0,none⟩),.pointer (some ⟨wr.heap.size,0,none⟩),.pointer (some ⟨BB,0,none⟩)] 103))):=by
        refine Or.inr ⟨ht,T,C,r,R,wr.heap.size,wr.heap.size+1,wx,wr,rfl,((HK.out.grw GW.out).alloc _).alloc _,⟨T.TB,HB',hcap',MB',CB',LB',ml',hTe⟩,tw.apart HK.out HLT.out.1 HLT.out.2.1 HLT.out.2.2,GX.out,((Gr.refl wr).alloc _).alloc _,?_,?_,Nat.le_refl _,Nat.le_succ _,by omega⟩
        ·rw [heap_alloc_old _ _ (by simp)];exact heap_alloc_new _ _
        ·have:=heap_alloc_new (wr.alloc (.cells lent0 152)) (.cells #[.pointer (some ⟨T.TB,0,none⟩),.pointer (some ⟨C.TB,0,none⟩),.pointer (some ⟨wr.heap.size,0,none⟩),.pointer (some ⟨BB,0,none⟩)] 103)
         rw [World.size_alloc] at this
         exact this
       clear QQ pe re gq ht tw hTe hnb' hadj'
       go_wp2_with fail
       exact bodyPost_ret (v:=.tuple #[.pointer (some ⟨wr.heap.size+1,0,none⟩),.bool true]) (by simp [results,Tryz.results28,go_sem]) rfl FIN.out
end Go.Proofs.YtecnfgikbmcgoaaGreat
