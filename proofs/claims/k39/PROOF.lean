
import PyProof.Rows.All
import Wide.All
import OpenK.AllK
import Wide.FinOn
import Lean
import PyProof.EqAt
import PyProof.EqKinds
import PyProof.TupleCall
import PyProof.ZipIter
import KE.KDictList
import PyProof.Rows.TupDisplay
import PyProof.Rows.SortRev
import PyProof.Rows.CallKwBuiltin
import PySem.SetTable
import PyProof.SetScanFacts
import PyProof.SetKind
import PyProof.FactsAll.tuple_iterator
import PySem.Challenge.RW_threetrees_k39_whole_ways
set_option genSizeOfSpec false
set_option linter.all false
set_option Elab.async false
set_option maxRecDepth 100000
set_option linter.defProp false
abbrev AA:=List (List Nat)
abbrev AB:=List (List Int)
abbrev AC:=List Nat
abbrev AD:=List Int
abbrev AF:=List PySem.PyData
abbrev AG:=List PySem.Value
abbrev AH:=List PySem.Str
abbrev AJ:=Array PySem.Value
abbrev AK:=Option PySem.Addr
abbrev AL:=List PySem.Addr
abbrev AM:=List PySem.Expr
def Aa:=@PySem.wpAny_bind
def Ab:=@if_neg
def Ac:=@if_pos
def Ae:=@PySem.wpAny_pure
def Af:=@PySem.F.type_list_append
def Ag:=@PySem.F.slot_list_append
def Ah:=@Bool.false_ne_true
def Ai:=@List.idxOf_lt_length_iff
def Aj:=@PySem.PassesOwn.never
def Ak:=@decide_eq_false
def Al:=@List.mem_append_left
def Am:=@decide_eq_true_eq
def An:=@of_decide_eq_true
def Ao:=@PySem.isSubtype_type
def Ap:=@List.mem_filter
def Aq:=@Bool.and_eq_true
def As:=@decide_eq_true
def Au:=@Option.map_eq_some_iff
def Av:=@List.mem_of_getElem?
def Aw:=@PySem.boot_len
def Ax:=@Array.length_toList
def Ay:=@List.length_cons
def Az:=@PyProof.Rows.callWith_type1
def Ba:=@PySem.W.mg_none_of
def Bb:=@List.filterMap_map
def Bc:=@List.getElem?_set_self
def Bd:=@Nat.le_trans
def Be:=@PySem.call_isinstance
def Bf:=@Array.getElem?_eq_getElem
def Bg:=@List.map_congr_left
def Bh:=@List.mem_of_mem_take
def Bi:=@List.mem_reverse
def Bj:=@List.cons.injEq
def Bk:=@List.getElem?_append_left
def Bl:=@List.mem_cons_self
def Bm:=@of_decide_eq_false
def Bn:=@PyProof.Rows.slot_tuple_getitem
def Bo:=@List.filterMap_cons
def Bp:=@List.replicate_succ
def Bq:=@List.append_nil
def Br:=@List.getElem?_append_right
def Bs:=@List.length_drop
def Bu:=@PySem.wpAny_newObj_type
def Bv:=@List.find?_cons
def Bw:=@List.headD_cons
def Bx:=@PySem.wpAny_holding
def By:=@List.Pairwise.imp_of_mem
def Bz:=@List.take_succ_eq_append_getElem
def Ca:=@List.flatten_cons
def Cb:=@decide_eq_false_iff_not
def Cc:=@Int.emod_nonneg
def Cd:=@List.drop_eq_getElem_cons
def Ce:=@List.range_succ
def Cf:=@PySem.wpAny_call_entry
def Cg:=@PySem.wpAny_callSpecial?_slot
def Ci:=@Nat.zero_le
def Cj:=@List.map_nil
def Ck:=@Bool.eq_iff_iff
def Cm:=@List.take_length
def Co:=@Int.emod_lt_of_pos
def Cp:=@Nat.le_of_lt
def Cq:=@List.mem_of_mem_drop
def Cr:=@List.length_range
def Cs:=@List.getElem?_replicate
def Ct:=@Nat.lt_or_ge
def Cu:=@Prod.mk.injEq
def Cv:=@PySem.Heap.get?_update_self
def Cw:=@List.perm_append_comm
def Cz:=@List.length_erase_of_mem
def Dc:=@List.length_pos_iff
def Dd:=@decide_eq_decide
def De:=@List.take_succ
def Df:=@List.nodup_range
def Dg:=@List.length_pos_of_mem
def Dh:=@List.length_replicate
def Di:=@List.getElem_mem
def Dj:=@Bool.false_eq_true
def Dk:=@List.filter_append
def Dl:=@PySem.Heap.size_push
def Dm:=@Nat.lt_succ_of_lt
def Dq:=@Array.getElem?_eq_none
def Dr:=@List.take_of_length_le
def Ds:=@PySem.Heap.get?_update_other
def Dt:=@PySem.W.mg_of
def Du:=@PySem.sizeLine_eq
def Dv:=@List.length_set
def Dx:=@PySem.Heap.SameBut.update
def Dy:=@Array.getElem?_toList
def Dz:=@List.getElem?_take
def Eb:=@Bool.or_eq_true
abbrev Ec:=PySem.Value->PySem.Shared->Prop
abbrev Ed:=List (PySem.Addr×PySem.Obj)
open PySem.W (Frag)
def Aa0:=@List.mem_append
def Aa1:=@List.mem_cons
def Aa2:=@List.getElem?_eq_getElem
def Aa3:=@List.length_map
def Aa4:=@List.nodup_append
def Aa5:=@List.nodup_cons
def Aa6:=@PySem.Heap.get?_push_of_some
def Aa7:=@Nat.le_refl
def Aa8:=@List.mem_map
def Aa9:=@List.getElem?_map
def Ab0:=@List.getElem?_eq_some_iff
def Ab1:=@PySem.F.plainAttrs_list
def Ab2:=@List.size_toArray
def Ab3:=@PySem.Heap.lt_size
def Ab4:=@Option.some.inj
def Ab5:=@List.mem_range
def Ab6:=@List.cons_append
def Ab7:=@List.length_append
def Ab8:=@Nat.lt_of_lt_of_le
def Ab9:=@Nat.ne_of_lt
def Ac0:=@List.getD_eq_getElem?_getD
def Ac1:=@List.mem_append_right
def Ac2:=@List.not_mem_nil
def Ac3:=@PySem.Heap.get?_push_size
def Ac4:=@List.idxOf_lt_length_of_mem
def Ac5:=@List.eq_nil_or_concat
def Ac6:=@List.nodup_iff_pairwise_ne
def Ac7:=@List.map_cons
def Ac8:=@Int.toNat_natCast
def Ac9:=@List.all_eq_true
def Ad0:=@List.getElem?_set_ne
def Ad1:=@List.length_take
def Ad2:=@List.map_append
def Ad3:=@List.take_append_drop
def Ad4:=@List.mem_cons_of_mem
def Ad5:=@List.append_of_mem
def Ad6:=@List.getElem?_eq_none
def Ad7:=@List.append_assoc
def Ad8:=@List.mem_singleton
def Ad9:=@Nat.lt_irrefl
def Ae0:=@List.pairwise_map
def Ae1:=@List.length_reverse
def Ae2:=@List.map_map
namespace L2
open PySem PySem.Spec PyProof.Rows
abbrev Key:=Sum Int Str
def dE5:Key->Value->Bool
 | .inl k,v=>Value.isInt k v
 | .inr x,v=>Value.isStrOf x v
def dV5 (w:World):Key->Int
 | .inl k=>hashInt k
 | .inr x=>hashStr w x
theorem L7:∀{k:Key} {v:Value},dE5 k v=true->(∃i t,k=Sum.inl i/\v=Value.int i t)\/(∃x t,k=Sum.inr x/\v=Value.str x t)
 | .inl i,v,h=>by
  obtain⟨t,e⟩:=Value.isInt_shape (k:=i) (v:=v) h;exact .inl ⟨i,t,rfl,e⟩
 | .inr x,v,h=>by
  obtain⟨t,e⟩:=Value.isStrOf_shape (x:=x) (v:=v) h;exact .inr ⟨x,t,rfl,e⟩
theorem dK7 (a b:Int):decide ((Sum.inl a:Key)=Sum.inl b)=(a==b):=by
 by_cases e:a=b
 .subst e;simp
 .have h:¬(Sum.inl a:Key)=Sum.inl b:=λq=>e (Sum.inl.inj q)
  rw[Ak h];exact(beq_eq_false_iff_ne.mpr e).symm
theorem dN4 (a b:Str):decide ((Sum.inr a:Key)=Sum.inr b)=decide (a=b):=by
 by_cases e:a=b
 .subst e;simp
 .have h:¬(Sum.inr a:Key)=Sum.inr b:=λq=>e (Sum.inr.inj q)
  rw[Ak h,Ak e]
theorem dH4 (a:Int)(b:Str):decide ((Sum.inl a:Key)=Sum.inr b)=false:=Ak (λq=>nomatch q)
theorem dG8 (a:Str)(b:Int):decide ((Sum.inr a:Key)=Sum.inl b)=false:=Ak (λq=>nomatch q)
def bZ6 (prog:Program)(w:World):PySem.KeyKind prog w Key where
 is:=dE5
 hash:=dV5 w
 inj:=λv a b ha hb=>by
  rcases L7 ha with⟨i,t,rfl,rfl⟩ | ⟨x,t,rfl,rfl⟩
  .rcases L7 hb with⟨j,u,rfl,e⟩ | ⟨y,u,rfl,e⟩
   .injection e with e1 _;rw[e1]
   .exact nomatch e
  .rcases L7 hb with⟨j,u,rfl,e⟩ | ⟨y,u,rfl,e⟩
   .exact nomatch e
   .injection e with e1 _;rw[e1]
 byValue:=λk v h=>by
  rcases L7 h with⟨i,t,rfl,rfl⟩ | ⟨x,t,rfl,rfl⟩ <;> rfl
 pyHash:=λhv h=>by
  rcases L7 hv with⟨i,t,rfl,rfl⟩ | ⟨x,t,rfl,rfl⟩
  .exact wpAny_pyHash_int h
  .exact wpAny_pyHash_str h
 eqBool:=λhu hv h=>by
  rcases L7 hu with⟨i,t,rfl,rfl⟩ | ⟨x,t,rfl,rfl⟩
  .rcases L7 hv with⟨j,u,rfl,rfl⟩ | ⟨y,u,rfl,rfl⟩
   .rw[dK7]at h;exact wpAny_eqBool_int h
   .rw[dH4]at h;exact SeqAt.EqAt.int_str i t y u _ _ _ _ h
  .rcases L7 hv with⟨j,u,rfl,rfl⟩ | ⟨y,u,rfl,rfl⟩
   .rw[dG8]at h;exact SeqAt.EqAt.str_int x t j u _ _ _ _ h
   .rw[dN4]at h;exact wpAny_eqBool_str h
 «strs» := λk x t v h=>by
  rcases L7 h with⟨i,u,rfl,e⟩ | ⟨y,u,rfl,e⟩
  .exact nomatch e
  .injection e with e1 _
   subst e1;cases v <;> rfl
inductive V where
 | non | bl (b:Bool) | int (i:Int) | str (x:Str) | byt (b:Array UInt8) | flt (b:UInt64) | ref (a:Addr) | ty (n:String)
 deriving DecidableEq
def RelV:V->Value->Prop
 | .non,u=>u=Value.none
 | .bl b,u=>u=Value.bool b
 | .int i,u=>∃t,u=Value.int i t
 | .str x,u=>∃t,u=Value.str x t
 | .byt b,u=>∃t,u=Value.bytes b t
 | .flt b,u=>∃t,u=Value.float b t
 | .ref a,u=>u=Value.ref a
 | .ty n,u=>u=Value.type n
abbrev Vals:List V->AG->Prop:=Paired RelV
theorem Vals.length {xs:List V}{us:AG}(r:Vals xs us):xs.length=us.length:=Paired.length r
theorem Vals.get:∀{xs:List V} {us:AG} {i:Nat} {x:V},Vals xs us->xs[i]? = some x->∃u,us[i]? = some u/\RelV x u
 | _,_,_,_,.nil,e=>by simp at e
 | _,_,0,_,.cons r _,e=>by simp at e;subst e;exact⟨_,rfl,r⟩
 | _,_,i+1,x,.cons _ t,e=>by
  obtain⟨u,h1,h2⟩:=Vals.get (i:=i) (x:=x) t (by simpa using e)
  exact⟨u,by simpa using h1,h2⟩
theorem Vals.set (r:RelV x u):∀{xs:List V} {us:AG} (i:Nat),Vals xs us->Vals (xs.set i x) (us.set i u)
 | _,_,_,.nil=>.nil
 | _,_,0,.cons _ t=>.cons r t
 | _,_,i+1,.cons q t=>.cons q (Vals.set r i t)
theorem Vals.append:∀{xs ys:List V} {us ws:AG},Vals xs us->Vals ys ws->Vals (xs++ys) (us++ws)
 | _,_,_,_,.nil,s=>s
 | _,_,_,_,.cons r t,s=>.cons r (Vals.append t s)
theorem Vals.take:∀{xs:List V} {us:AG} (n:Nat),Vals xs us->Vals (xs.take n) (us.take n)
 | _,_,0,_=>.nil
 | _,_,_+1,.nil=>.nil
 | _,_,n+1,.cons r t=>.cons r (Vals.take n t)
theorem Vals.drop:∀{xs:List V} {us:AG} (n:Nat),Vals xs us->Vals (xs.drop n) (us.drop n)
 | _,_,0,r=>r
 | _,_,_+1,.nil=>.nil
 | _,_,n+1,.cons _ t=>Vals.drop n t
def cF8:Option V->Option Value->Prop
 | some v,some u=>RelV v u
 | none,none=>True
 | _,_=>False
def KV {κ:Type}:List (κ×V)->List (κ×Value)->Prop:=Paired λ(p:κ×V) (q:κ×Value)=>p.1=q.1/\RelV p.2 q.2
def kV:Key->V
 | .inl i=>.int i
 | .inr x=>.str x
inductive HO where
 /-- a list -/
 | lst (xs:List V)
 /-- a tuple (never changes) -/
 | tup (xs:List V)
 /-- a dict whose keys are ints and texts;one whose keys are tuples of ints and texts (the empty one is both) -/
 | dK (kvs:List (Key×V)) | dT (kvs:List (List Key×V))
 /-- a set of ints: its members,its size -/
 | set (S:Int->Bool) (n:Nat)
 /-- an instance of the class at C,its dict at dx,its attributes -/
 | ins (C dx:Addr) (fs:List (Str×V))
 /-- the dict of the instance at x -/
 | own (x:Addr)
 /-- the dict of an exception -/
 | xd (fs:List (Str×V))
 /-- a bound method,f of x -/
 | met (f x:Addr)
 /-- a range object lo,lo+1,.. below hi -/
 | rng (lo hi:Int)
 /-- a thing that is known to the object (the script;a dict while a loop walks it): read,never written while it is so -/
 | frz (o:Obj) (u:HO)
 /-- a code object's table -/
 | tbl (ps:AJ)
 /-- any other thing,by what is true of its one object (a def of one's own: SetO a S n:=HO.ext λh=>..) -/
 | ext (φ:Heap->Prop)
abbrev Hp:=Addr->Option HO
def upd (H:Hp)(a:Addr)(o:HO):Hp:=λb=>if b=a then some o else H b
theorem C5:upd H a o a=some o:=by unfold upd;rw[Ac rfl]
theorem B9 (h:b≠a):upd H a o b=H b:=by unfold upd;rw[Ab h]
theorem F1 {H:Hp}{a b:Addr}{o:HO}(h:H a=some o)(h':H b=none):a≠b:=by
 intro e;subst e;rw[h]at h';cases h'
def Tup0 (h:Heap)(a:Addr)(items:AJ):Prop:=∃o,h.get? a=some o/\o.cls=.type "tuple" /\ (∃n,o.data=.seq items n)/\o.dict=none
theorem Tup0.tup {h:Heap}{a:Addr}{items:AJ}(p:Tup0 h a items):IsTup h a items:=p.imp λ_ q=>⟨q.1,q.2.1,q.2.2.1⟩
theorem Tup0.nw (h:Heap)(items:AJ)(n:Nat):Tup0 (h.push {cls:=.type "tuple",data:=.seq items n}) h.objs.size items:=⟨_,Ac3 _ rfl,rfl,⟨n,rfl⟩,rfl⟩
section
variable (P:Program)(w:World)
def ObjOk (H:Hp)(h:Heap)(a:Addr):HO->Prop
 | .lst xs=>xs.length<=sizeLine/\∃(its:AG) (n:Nat),Vals xs its/\h.get? a=some {cls:=.type "list",data:=.seq its.toArray n}
 | .tup xs=>xs.length<=sizeLine/\∃its:AG,Vals xs its/\Tup0 h a its.toArray
 | .dK kvs=>kvs.length<=sizeLine/\(a==sysModules)=false/\∃vs,KV kvs vs/\h.DictOf (bZ6 P w) a vs
 | .dT kvs=>kvs.length<=sizeLine/\(a==sysModules)=false/\∃xs:List (List Key×Addr×Value),
   Paired (λ(p:List Key×V) (q:List Key×Addr×Value)=>p.1=q.1/\H q.2.1=some (.tup (p.1.map kV))/\RelV p.2 q.2.2) kvs xs /\
   ∃o es ep,h.get? a=some o/\o.ExactDict/\o.data=.dict es ep/\es.toList=xs.map (entryOfKey (tupleKind (bZ6 P w)))/\(xs.map (·.1)).Nodup
 | .set S n=>h.SetOf (intKind P w) a S n
 | .ins C dx fs=>H dx=some (.own a)/\fs.length<=1000/\dx≠a/\h.get? a=some (PySem.W.instObj C dx) /\
   ∃mA,h.Ns1 dx mA/\(∀f,cF8 (fs.lookup f) (mA f))/\PySem.Within mA (fs.map (·.1))
 | .own _=>∃o,h.get? a=some o
 | .xd fs=>∃mA,h.Ns1 a mA/\∀f,cF8 (fs.lookup f) (mA f)
 | .rng lo hi=>∃t u v,h.get? a=some {cls:=.type "range",data:=.fields #[.int lo t,.int hi u,.int 1 v]}
 | .frz o u=>h.get? a=some o/\ObjOk H h a u
 | .tbl ps=>h.get? a=some {cls:=.none,data:=.fields ps}
 | .met f x=>h.get? a=some (PySem.W.methodObj (.ref f) (.ref x))
 | .ext φ => φ h/\(∃o,h.get? a=some o)/\∀h1 h2:Heap,φ h1->(∀o,h1.get? a=some o->h2.get? a=some o)->φ h2
def HOk (H:Hp)(h:Heap):Prop:=∀a o,H a=some o->ObjOk P w H h a o
end
section
theorem ObjOk.lt (x:ObjOk P w H h a o):a<h.objs.size:=by
 cases o with
 | lst xs=>obtain⟨_,_,_,_,e⟩:=x;exact Ab3 e
 | tup xs=>obtain⟨_,_,_,p⟩:=x;exact p.tup.lt
 | dK kvs=>obtain⟨_,_,_,_,o,_,_,e,_⟩:=x;exact Ab3 e
 | dT kvs=>obtain⟨_,_,_,_,o,_,_,e,_⟩:=x;exact Ab3 e
 | set S n=>obtain⟨o,_,_,_,e,_⟩:=x;exact Ab3 e
 | ins C dx fs=>obtain⟨_,_,_,e,_⟩:=x;exact Ab3 e
 | own y=>obtain⟨_,e⟩:=x;exact Ab3 e
 | xd fs=>obtain⟨_,⟨_,_,_,e,_⟩,_⟩:=x;exact Ab3 e
 | rng lo hi=>obtain⟨_,_,_,e⟩:=x;exact Ab3 e
 | frz z u=>obtain⟨e,_⟩:=x;exact Ab3 e
 | tbl ps=>exact Ab3 (show h.get? a=some _ from x)
 | met f y=>exact Ab3 (show h.get? a=some _ from x)
 | ext φ=>obtain⟨_,⟨_,e⟩,_⟩:=x;exact Ab3 e
theorem Paired.mapP:∀{l₁:List α} {l₂:List β},Paired F l₁ l₂->(∀a b,F a b->G a b)->Paired G l₁ l₂
 | _,_,.nil,_=>.nil
 | _,_,.cons r t,f=>.cons (f _ _ r) (Paired.mapP t f)
theorem ObjOk.stay (x:ObjOk P w H h a o)(k:∀b u,(b=a\/H b=some (.own a))->h.get? b=some u->h'.get? b=some u)
  (ho:∀b,H b=some (.own a)->H' b=some (.own a)) (J:∀b xs,H b=some (.tup xs)->H' b=some (.tup xs)):ObjOk P w H' h' a o:=by
 induction o with
 | lst xs=>obtain⟨z,its,n,r,e⟩:=x;exact⟨z,its,n,r,k _ _ (.inl rfl) e⟩
 | tup xs=>obtain⟨z,its,r,j,e,c⟩:=x;exact⟨z,its,r,j,k _ _ (.inl rfl) e,c⟩
 | dK kvs=>obtain⟨z,y,vs,r,j,Y,m,e,c⟩:=x;exact⟨z,y,vs,r,j,Y,m,k _ _ (.inl rfl) e,c⟩
 | dT kvs=>
  obtain⟨z,y,xs,r,j,Y,m,e,c⟩:=x;exact⟨z,y,xs,Paired.mapP r λp q z=>⟨z.1,J _ _ z.2.1,z.2.2⟩,j,Y,m,k _ _ (.inl rfl) e,c⟩
 | set S n=>obtain⟨j,Y,m,t,e,c⟩:=x;exact⟨j,Y,m,t,k _ _ (.inl rfl) e,c⟩
 | ins C dx fs=>
  obtain⟨d,z,ne,e,X,⟨U,Y,m,e2,c⟩,r⟩:=x;exact⟨ho _ d,z,ne,k _ _ (.inl rfl) e,X,⟨U,Y,m,k _ _ (.inr d) e2,c⟩,r⟩
 | own y=>obtain⟨j,e⟩:=x;exact⟨j,k _ _ (.inl rfl) e⟩
 | xd fs=>obtain⟨X,⟨U,Y,m,e,c⟩,r⟩:=x;exact⟨X,⟨U,Y,m,k _ _ (.inl rfl) e,c⟩,r⟩
 | rng lo hi=>obtain⟨t,u,v,e⟩:=x;exact⟨t,u,v,k _ _ (.inl rfl) e⟩
 | frz j u M=>obtain⟨e,q⟩:=x;exact⟨k _ _ (.inl rfl) e,M q⟩
 | tbl ps=>
  have e:h.get? a=some {cls:=.none,data:=.fields ps}:=x
  show h'.get? a=some {cls:=.none,data:=.fields ps}
  exact k a _ (.inl rfl) e
 | met f y=>
  have e:h.get? a=some (PySem.W.methodObj (.ref f) (.ref y)):=x
  show h'.get? a=some (PySem.W.methodObj (.ref f) (.ref y))
  exact k a _ (.inl rfl) e
 | ext φ=>obtain⟨p,⟨o,e⟩,st⟩:=x;exact⟨st _ _ p λo q=>k _ _ (.inl rfl) q,⟨o,k _ _ (.inl rfl) e⟩,st⟩
theorem HOk.lt (x:HOk P w H h)(e:H a=some o):a<h.objs.size:=(x a o e).lt
theorem HOk.fresh (x:HOk P w H h)(e:h.objs.size<=a):H a=none:=by
 cases q:H a with
 | none=>rfl
 | some u=>exact absurd (Ab8 (x.lt q) e) (Ad9 _)
theorem HOk.kept (x:HOk P w H h)(k:∀b u,h.get? b=some u->h'.get? b=some u):HOk P w H h':=λa o e=>
 (x a o e).stay (λb u _ q=>k b u q) (λ_ q=>q) λ_ _ q=>q
theorem HOk.laid (x:HOk P w H h)(k:∀b u,h.get? b=some u->h'.get? b=some u)(hp:h.objs.size<=a)(z:ObjOk P w (upd H a o) h' a o):HOk P w (upd H a o) h':=λb u e=>by
 have m:=x.fresh hp
 by_cases j:b=a
 .subst j;rw[C5]at e;cases e;exact z
 .rw[B9 j]at e;exact(x b u e).stay (λc v _ q=>k c v q) (λc q=>by rw[B9 (F1 q m)];exact q) λc xs q=>by rw[B9 (F1 q m)];exact q
end
def Rd (H:Hp)(a:Addr)(u:HO):Prop:=H a=some u\/∃o,H a=some (.frz o u)
theorem Rd.ok {P:Program}{w:World}{H:Hp}{h:Heap}{a:Addr}{u:HO}(r:Rd H a u)(x:HOk P w H h):ObjOk P w H h a u:=by
 rcases r with r | ⟨o,r⟩
 .exact x a u r
 .obtain⟨_,q⟩:=x a _ r;exact q
def Mut:Option HO->Prop
 | some (.lst _)=>True
 | some (.dK _)=>True
 | some (.dT _)=>True
 | some (.set _ _)=>True
 | some (.ins _ _ _)=>True
 | some (.ext _)=>True
 | _=>False
section
theorem HOk.write (ok:HOk P w H h)(U:Mut (H x))(N:e=x\/H e=some (.own x))(k:∀b u,b≠e->h.get? b=some u->h'.get? b=some u)(J:∃u,h'.get? e=some u)
  (M:ObjOk P w (upd H x o') h' x o'):HOk P w (upd H x o') h':=λb u q=>by
 have m:∀c y,H c=some (.own y)->c≠x:=λc y r z=>by subst z;rw[r]at U;exact U
 have Y:∀c xs,H c=some (.tup xs)->c≠x:=λc xs r z=>by subst z;rw[r]at U;exact U
 by_cases X:b=x
 .subst X;rw[C5]at q;cases q;exact M
 .rw[B9 X]at q;by_cases j:b=e
  .have R:H b=some (.own x):=by
    rcases N with z | z
    .exact absurd (j.trans z) X
    .rw[j];exact z
   rw[q]at R;cases R;obtain⟨v,Q⟩:=J;exact⟨v,by rw[j];exact Q⟩
  .refine(ok b u q).stay (λc v hc r=>k c v ?_ r) (λc r=>by rw[B9 (m c b r)];exact r) λc xs r=>by rw[B9 (Y c xs r)];exact r
   rcases hc with rfl | hc
   .exact j
   .rintro rfl;rcases N with z | z
    .exact m c b hc z
    .rw[hc]at z;cases z;exact X rfl
end
structure Un (fs ex:AL)(H H':Hp)(h h':Heap):Prop where
 keep:∀b o,h.get? b=some o->H b=none->b∉fs->b∉ex->h'.get? b=some o
 slot:∀b o,h.get? b=some o->H b=none->b∈fs->b∉ex->∃sl,h'.get? b=some {o with slots:=sl}
 free:∀b o,h.get? b=some o->H b=none->b∉ex->H' b=none
 there:∀b o,h.get? b=some o->b∉ex->∃o',h'.get? b=some o'
 tups:∀b xs,H b=some (.tup xs)->H' b=some (.tup xs)
 frzs:∀b o u,H b=some (.frz o u)->H' b=some (.frz o u)
 tbls:∀b ps,H b=some (.tbl ps)->∃more,H' b=some (.tbl (ps++more))
section
theorem Un.any (u:Un fs ex H H1 h h1){b:Addr}{ob:Obj}(q:h.get? b=some ob)(n:H b=none)(z:b∉ex):∃sl,h1.get? b=some {ob with slots:=sl}:=by
 by_cases w:b∈fs
 .exact u.slot b ob q n w z
 .exact⟨ob.slots,u.keep b ob q n w z⟩
theorem Un.kept (k:∀b u,h.get? b=some u->h'.get? b=some u):Un fs ex H H h h':=
 ⟨λb w q _ _ _=>k b w q,λb w q _ _ _=>⟨w.slots,k b w q⟩,λ_ _ _ n _=>n,λb w q _=>⟨w,k b w q⟩,λ_ _ q=>q,λ_ _ _ q=>q,λ_ ps q=>⟨#[],by rw[q];simp⟩⟩
theorem Un.refl:Un fs ex H H h h:=Un.kept λ_ _ q=>q
theorem Un.laid (k:∀b u,h.get? b=some u->h'.get? b=some u)(hp:h.objs.size<=a)(w:H a=none):Un fs ex H (upd H a o) h h' where
 keep:=λb u q _ _ _=>k b u q
 slot:=λb u q _ _ _=>⟨u.slots,k b u q⟩
 free:=λb u q n _=>by rw[B9 (Ab9 (Ab8 (Ab3 q) hp))];exact n
 there:=λb u q _=>⟨u,k b u q⟩
 tups:=λb xs q=>by rw[B9 (F1 q w)];exact q
 frzs:=λb u xs q=>by rw[B9 (F1 q w)];exact q
 tbls:=λb ps q=>⟨#[],by rw[B9 (F1 q w),q];simp⟩
theorem Un.write (j:Mut (H x))(J:e=x\/H e=some (.own x))(k:∀b u,b≠e->h.get? b=some u->h'.get? b=some u)(m:∃u,h'.get? e=some u):Un fs ex H (upd H x o) h h':=by
 have U:∀b,H b=none->b≠x:=λb n z=>by subst z;rw[n]at j;exact j
 have X:∀b,H b=none->b≠e:=λb n z=>by
  subst z;rcases J with r | r
  .exact U b n r
  .rw[n]at r;cases r
 have Y:∀b u,H b=some u->¬Mut (some u)->b≠x:=λb u q nm z=>by subst z;rw[q]at j;exact nm j
 refine⟨λb u q n _ _=>k b u (X b n) q,λb u q n _ _=>⟨u.slots,k b u (X b n) q⟩,λb u q n _=>by rw[B9 (U b n)];exact n,λb u q _=>?_,
  λb xs q=>by rw[B9 (Y b _ q λz=>z)];exact q,λb u xs q=>by rw[B9 (Y b _ q λz=>z)];exact q,λb ps q=>⟨#[],by rw[B9 (Y b _ q λz=>z),q];simp⟩⟩
 by_cases w:b=e
 .subst w;exact m
 .exact⟨u,k b u w q⟩
end
def trk (h:Heap)(H:Hp):AL:=(List.range h.objs.size).filter λa=>(H a).isSome
def bG5 (h:Heap)(H:Hp):Heap:=PySem.W.hideAll h (trk h H)
theorem cF4 (h:Heap)(H:Hp):(bG5 h H).objs.size=h.objs.size:=PySem.W.hideAll_size _ _
theorem cS7 (e:h.get? b=some o)(n:H b=none):(bG5 h H).get? b=some o:=
 PySem.W.hideAll_get _ e λw=>by
  have q:(H b).isSome=true:=(Ap.mp w).2
  rw[n]at q;simp at q
theorem cU4 (e:(bG5 h H).get? b=some o):h.get? b=some o/\H b=none:=by
 have e':h.get? b=some o:=PySem.W.of_hideAll (trk h H) e
 refine⟨e',?_⟩;cases q:H b with
 | none=>rfl
 | some x=>
  have w:b∈trk h H:=Ap.mpr ⟨Ab5.mpr (Ab3 e'),by simp[q]⟩
  have z:(bG5 h H).get? b=none:=PySem.W.hideAll_none (trk h H) w
  rw[z]at e;cases e
def bI1 (g h:Heap)(L:Addr):List (Addr×Obj):=(List.range h.objs.size).filterMap λa=>if a=L\/(g.get? a).isSome=true then none else(h.get? a).map λo=>(a,o)
theorem Q9 (h1:a≠L)(z:g.get? a=none)(w:h.get? a=some o):(a,o)∈bI1 g h L:=
 List.mem_filterMap.mpr ⟨a,Ab5.mpr (Ab3 w),by simp[h1,z,w]⟩
theorem aV2 (hp:p∈bI1 g h L):p.1≠L/\g.get? p.1=none/\h.get? p.1=some p.2:=by
 obtain⟨b,_,e⟩:=List.mem_filterMap.mp hp;split at e
 .cases e
 .rename_i hn;cases q:h.get? b with
  | none=>rw[q]at e;simp at e
  | some u=>
   rw[q]at e;simp only[Option.map_some,Option.some.injEq]at e;subst e;refine⟨λz=>hn (.inl z),?_,q⟩
   show g.get? b=none
   cases r:g.get? b with
   | none=>rfl
   | some v=>exact(hn (.inr (by simp[r]))).elim
theorem bN9:News g L h (bI1 g h L):=λp hp=>let ⟨a,b,c⟩:=aV2 hp;⟨c,a,b⟩
structure Mod (K:Frag)(mg:Str->Option Value)(base:Heap):Prop where
 kin:K.In base
 glob:base.Ns mainGlobals mg
 blt:∃mb,base.Ns builtinsNs mb/\∀x:Str,x≠"__name__" -> mb x=bootBuiltins x
 nolimit:base.NoLimit
structure Cx where
 prog:Program
 w:World
 K:Frag
 mg:Str->Option Value
 base:Heap
 A:Around
 N:AH
 s₀:Shared
 H₀:Hp
 env:Env
 outer:List Env
 stack:List Env
 ex:AL
 fn:Str->Bool
 calm:Bool
 pn:List (Addr×Obj)
 xe:Value->Shared->Prop
def frs (l:List Env):AL:=l.filterMap (·.frame)
abbrev Cx.fs (X:Cx):AL:=frs X.outer
def Vis (sc:Scope)(x:Str):Prop:=sc.names.lookup x=some .local\/sc.names.lookup x=some .cell\/sc.names.lookup x=some .free
def Loc (sc:Scope)(x:Str):Prop:=sc.names.lookup x=some .local\/sc.names.lookup x=some .cell
def dW9 (env:Env)(h:Heap)(m:Str->Option Value)(x:Str)(u:Value):Prop:=
 (env.kindOf x=some .local/\m x=some u)\/((env.kindOf x=some .cell\/env.kindOf x=some .free)/\∃c,env.cells.lookup x=some c/\h.IsCell c (some u))
structure Cx.Ok (X:Cx):Prop where
 mod:Mod X.K X.mg X.base
 kind:X.env.scope.kind=.function
 glob:X.env.globals=mainGlobals
 blt:X.env.builtins=builtinsNs
 above:X.s₀.heap.objs.size<=X.env.locals
 inj:∀x y c,X.env.cells.lookup x=some c->X.env.cells.lookup y=some c->x=y
 has:∀x,(X.env.kindOf x=some .cell\/X.env.kindOf x=some .free)->∃c,X.env.cells.lookup x=some c
 cab:∀x c,X.fn x=true->X.env.cells.lookup x=some c->X.s₀.heap.objs.size<=c
 hd:X.calm=true->X.A.handled=none
 frames:X.A.frames=some X.stack
 stk:X.stack=X.outer\/(X.stack=X.env::X.outer/\X.env.frame=some X.env.locals)
 exf:∀b∈X.ex,b≠X.env.locals/\∀x c,X.env.cells.lookup x=some c->c≠b
 bs:∀b o,X.base.get? b=some o->X.s₀.heap.get? b=some o/\X.H₀ b=none
 bsz:X.base.objs.size<=X.s₀.heap.objs.size
 noex:∀b o,X.base.get? b=some o->b∉X.ex
 exfs:∀b∈X.ex,b∉X.fs
 funs:X.s₀.heap.FunFrames X.base X.outer
 frf:∀b∈X.fs,X.H₀ b=none
structure Inv (X:Cx)(aA:Ed)(σ:List (Option V))(H:Hp)(s:Shared):Prop where
 ok:X.Ok
 os:s.os=X.s₀.os
 bare:AllBare s.gens
 base:Un X.fs X.ex X.H₀ H X.s₀.heap s.heap
 loc:∃m,s.heap.Ns X.env.locals m/\∀(i:Nat) (x:Str) (v:V),X.N[i]? = some x->σ[i]? = some (some v)->Vis X.env.scope x->∃u,RelV v u/\dW9 X.env s.heap m x u
 cell:∀x c,X.env.cells.lookup x=some c->∃v,s.heap.IsCell c v
 free:H X.env.locals=none
 freeC:∀x c,X.env.cells.lookup x=some c->H c=none
 pin:∀p∈X.pn++aA,s.heap.get? p.1=some p.2/\H p.1=none/\p.1≠X.env.locals/\p.1∉X.fs/\∀v,p.2.data≠.cell v
 hok:HOk X.prog X.w H s.heap
 len:σ.length=X.N.length
section
variable {X:Cx}{aA:Ed}{σ:List (Option V)}{H H':Hp}{s:Shared}{h':Heap}
theorem Cx.Ok.nofr (ok:X.Ok)(e:X.base.get? b=some o):b∉X.fs:=λw=>by
 have:=(ok.funs.mem w).1
 rw[e]at this;cases this
theorem Inv.bs (I:Inv X aA σ H s):∀b o,X.base.get? b=some o->s.heap.get? b=some o/\H b=none:=λb o e=>
 ⟨I.base.keep b o (I.ok.bs b o e).1 (I.ok.bs b o e).2 (I.ok.nofr e) (I.ok.noex b o e),I.base.free b o (I.ok.bs b o e).1 (I.ok.bs b o e).2 (I.ok.noex b o e)⟩
theorem Inv.bk (I:Inv X aA σ H s):∀b o,X.base.get? b=some o->s.heap.get? b=some o:=λb o e=>(I.bs b o e).1
theorem Inv.mod (I:Inv X aA σ H s):Mod X.K X.mg X.base:=I.ok.mod
theorem Inv.kIn (I:Inv X aA σ H s):X.K.In s.heap:=I.ok.mod.kin.keeps I.bk
theorem Inv.lt (I:Inv X aA σ H s):X.env.locals<s.heap.objs.size:=let ⟨_,w,_⟩:=I.loc;w.lt
theorem Inv.sz (I:Inv X aA σ H s):X.s₀.heap.objs.size<=s.heap.objs.size:=Bd I.ok.above (Cp I.lt)
theorem Inv.nofs (I:Inv X aA σ H s)(h:s.heap.objs.size<=a):a∉X.fs:=λw=>by
 obtain⟨_,o,ho,_⟩:=I.ok.funs.mem w;exact absurd (Ab8 (Ab3 ho) (Bd I.sz h)) (Ad9 _)
theorem Inv.cne (I:Inv X aA σ H s):∀x c,X.env.cells.lookup x=some c->c≠X.env.locals:=λx c e z=>by
 obtain⟨v,o,ho,Y⟩:=I.cell x c e;obtain⟨m,⟨M,J,U,j,w,_⟩,_⟩:=I.loc;rw[z,j]at ho;cases ho;rw[w]at Y;cases Y
theorem Inv.funs (I:Inv X aA σ H s):s.heap.FunFrames X.base X.outer:=by
 have all:∀(l:List Env),(∀b∈frs l,b∈X.fs)->X.s₀.heap.FunFrames X.base l->s.heap.FunFrames X.base l:=by
  intro l;induction l with
  | nil=>intro _ _;trivial
  | cons U r D=>
   intro Y N;obtain⟨M,⟨L,o,m,R,ho,J⟩,Q⟩:=N;have w:L∈X.fs:=Y L (by unfold frs;rw[Bo,m];exact Bl)
   obtain⟨F,e⟩:=I.base.slot L o ho (I.ok.frf L w) w λz=>I.ok.exfs L z w
   exact⟨M,⟨L,_,m,R,e,J⟩,D (λb j=>Y b (by unfold frs;rw[Bo,m];exact Ad4 _ j)) Q⟩
 exact all X.outer (λ_ j=>j) I.ok.funs
theorem Inv.stack (I:Inv X aA σ H s):s.heap.FunFrames X.base X.stack:=by
 rcases I.ok.stk with e | ⟨e,w⟩
 .rw[e];exact I.funs
 .rw[e];obtain⟨m,z,_⟩:=I.loc;refine .cons (by rw[I.ok.kind];decide) w z ?_ I.funs
  exact Heap.get?_none_of_le (Bd I.ok.bsz I.ok.above)
theorem Inv.stkSub (I:Inv X aA σ H s):∀b∈frs X.stack,b∈X.env.locals::X.fs:=λb w=>by
 rcases I.ok.stk with e | ⟨e,z⟩
 .rw[e]at w;exact Ad4 _ w
 .rw[e]at w;unfold frs at w;rw[Bo,z]at w;exact w
theorem Inv.stkFree (I:Inv X aA σ H s):∀b∈frs X.stack,H b=none:=λb hb=>by
 rcases Aa1.mp (I.stkSub b hb) with e | hb
 .rw[e];exact I.free
 .obtain⟨_,o,ho,_⟩:=I.ok.funs.mem hb;exact I.base.free b o ho (I.ok.frf b hb) λz=>I.ok.exfs b z hb
theorem Inv.step {g':Array GenState}{t':Nat}{d':Drawn}{ch:AL}(I:Inv X aA σ H s)
  (J:∀b∈ch,(b∈X.ex\/X.s₀.heap.objs.size<=b)/\b≠X.env.locals/\(∀x c,X.env.cells.lookup x=some c->c≠b)/\∀p∈X.pn++aA,p.1≠b)
  (keep:∀b o,b≠X.env.locals->b∉X.fs->b∉ch->s.heap.get? b=some o->H b=none->h'.get? b=some o)
  (slot:∀b o,b≠X.env.locals->b∈X.fs->b∉ch->s.heap.get? b=some o->H b=none->∃sl,h'.get? b=some {o with slots:=sl}) (Y:∀b o,b∉ch->s.heap.get? b=some o->H b=none->H' b=none)
  (Q:∀b o,b∉ch->s.heap.get? b=some o->∃o',h'.get? b=some o')
  (P:∀b xs,H b=some (.tup xs)->H' b=some (.tup xs)) (D:∀b o u,H b=some (.frz o u)->H' b=some (.frz o u)) (B:∀b ps,H b=some (.tbl ps)->∃more,H' b=some (.tbl (ps++more)))
  (ns:∀m,s.heap.Ns X.env.locals m->h'.Ns X.env.locals m) (hok:HOk X.prog X.w H' h') (hg:AllBare g') :
  Inv X aA σ H' {s with heap:=h',gens:=g',drawn:=d',toks:=t'}:=by
 have F:∀b o,X.s₀.heap.get? b=some o->b≠X.env.locals:=λb o e=>Ab9 (Ab8 (Ab3 e) I.ok.above)
 have N:∀b o,X.s₀.heap.get? b=some o->b∉X.ex->b∉ch:=λb o e j R=>by
  rcases (J b R).1 with z | z
  .exact j z
  .exact absurd (Ab8 (Ab3 e) z) (Ad9 _)
 have U:∀x c,X.env.cells.lookup x=some c->∀v,s.heap.IsCell c v->h'.IsCell c v:=by
  rintro x c e v ⟨o,ho,hd⟩;have M:c∉ch:=λz=>(J c z).2.2.1 x c e rfl
  by_cases hc:c∈X.fs
  .obtain⟨sl,q⟩:=slot c o (I.cne x c e) hc M ho (I.freeC x c e);exact⟨_,q,hd⟩
  .exact⟨o,keep c o (I.cne x c e) hc M ho (I.freeC x c e),hd⟩
 refine⟨I.ok,I.os,hg,⟨λb o e n R j=>?_,λb o e n R j=>?_,λb o e n j=>?_,λb o e j=>?_,λb xs e=>P b xs (I.base.tups b xs e),λb o xs e=>D b o xs (I.base.frzs b o xs e),λb ps e=>?_⟩,?_,λx c e=>?_,?_,λx c e=>?_,λp hp=>?_,hok,I.len⟩
 .exact keep b o (F b o e) R (N b o e j) (I.base.keep b o e n R j) (I.base.free b o e n j)
 .obtain⟨sl,e1⟩:=I.base.slot b o e n R j;obtain⟨sl',e2⟩:=slot b _ (F b o e) R (N b o e j) e1 (I.base.free b o e n j);exact⟨sl',e2⟩
 .obtain⟨o',e1⟩:=I.base.there b o e j;exact Y b o' (N b o e j) e1 (I.base.free b o e n j)
 .obtain⟨o',e1⟩:=I.base.there b o e j;exact Q b o' (N b o e j) e1
 .obtain⟨m1,e1⟩:=I.base.tbls b ps e;obtain⟨m2,e2⟩:=B b _ e1;exact⟨m1++m2,by rw[e2,Array.append_assoc]⟩
 .obtain⟨m,hn,hl⟩:=I.loc;refine⟨m,ns m hn,λi x v e1 e2 e3=>?_⟩
  obtain⟨u,r,l⟩:=hl i x v e1 e2 e3;refine⟨u,r,?_⟩;rcases l with l | ⟨k,c,e,z⟩
  .exact .inl l
  .exact .inr ⟨k,c,e,U x c e _ z⟩
 .obtain⟨v,z⟩:=I.cell x c e;exact⟨v,U x c e v z⟩
 .obtain⟨m,⟨o,_,_,ho,_⟩,_⟩:=I.loc;exact Y _ o (λz=>(J _ z).2.1 rfl) ho I.free
 .obtain⟨v,o,ho,hd⟩:=I.cell x c e;exact Y c o (λz=>(J c z).2.2.1 x c e rfl) ho (I.freeC x c e)
 .obtain⟨e,n,ne,nf,d⟩:=I.pin p hp;have M:p.1∉ch:=λz=>(J p.1 z).2.2.2 p hp rfl
  exact⟨keep p.1 p.2 ne nf M e n,Y p.1 p.2 M e n,ne,nf,d⟩
theorem Inv.un {t':Nat}(I:Inv X aA σ H s)(u:Un X.fs [] H H' s.heap h')(M:HOk X.prog X.w H' h'):Inv X aA σ H' {s with heap:=h',toks:=t'}:=by
 obtain⟨m,⟨o,F,D,ho,r⟩,_⟩:=id I.loc;obtain⟨sl,N⟩:=u.any ho I.free (by simp)
 exact I.step (g':=s.gens) (d':=s.drawn) (ch:=[]) (λ_ z=>nomatch z) (λb o _ J _ e n=>u.keep b o e n J (by simp)) (λb o _ J _ e n=>u.slot b o e n J (by simp)) (λb o _ e n=>u.free b o e n (by simp)) (λb o _ e=>u.there b o e (by simp)) u.tups u.frzs u.tbls (λB R=>by
  obtain⟨P,U,Y,j,Q⟩:=R;rw[ho]at j;cases j;exact⟨_,U,Y,N,Q⟩) M I.bare
theorem Inv.call {g':Array GenState}{t':Nat}{d':Drawn}{ch:AL}(I:Inv X aA σ H s)(u:Un (frs X.stack) ch H H' s.heap h')(R:HOk X.prog X.w H' h')(D:AllBare g')
  (Y:∀b∈ch,(b∈X.ex\/X.s₀.heap.objs.size<=b)/\b≠X.env.locals/\(∀x c,X.env.cells.lookup x=some c->c≠b)/\∀p∈X.pn++aA,p.1≠b) :
  Inv X aA σ H' {s with heap:=h',gens:=g',drawn:=d',toks:=t'}:=by
 obtain⟨m,⟨o,es,P,ho,r⟩,_⟩:=id I.loc;obtain⟨sl,N⟩:=u.any ho I.free λz=>(Y _ z).2.1 rfl
 exact I.step (ch:=ch) Y (λb o N Q j e n=>u.keep b o e n (λz=>(Aa1.mp (I.stkSub b z)).elim N Q) j) (λb o _ _ j e n=>u.any e n j) (λb o j e n=>u.free b o e n j) (λb o j e=>u.there b o e j) u.tups u.frzs u.tbls (λm' F=>by
  obtain⟨o',M,J,U,B⟩:=F;rw[ho]at U;cases U;exact⟨_,M,J,N,B⟩) R D
theorem Inv.turned {t':Nat}{it:Addr}(I:Inv X aA σ H s)(k:∀b o,b≠it->s.heap.get? b=some o->h'.get? b=some o)(D:H it=none)(Y:it≠X.env.locals)
  (h1:it∈X.ex\/X.s₀.heap.objs.size<=it) (M:∀x c,X.env.cells.lookup x=some c->c≠it) (N:∀p∈X.pn++aA,p.1≠it):Inv X aA σ H {s with heap:=h',toks:=t'}:=by
 have j:∀b u,H b=some u->b≠it:=λb u e z=>by rw[z,D]at e;cases e
 refine I.step (g':=s.gens) (d':=s.drawn) (ch:=[it]) (λb R=>?_) (λb o _ _ w e _=>k b o (λz=>w (by simp[z])) e) (λb o _ _ w e _=>⟨o.slots,k b o (λz=>w (by simp[z])) e⟩) (λ_ _ _ _ n=>n)
  (λb o w e=>⟨o,k b o (λz=>w (by simp[z])) e⟩) (λ_ _ e=>e) (λ_ _ _ e=>e) (λb ps e=>⟨#[],by rw[e];simp⟩) (λm Q=>?_) (λb u e=>?_) I.bare
 .have e:b=it:=by simpa using R
  subst e;exact⟨h1,Y,M,N⟩
 .obtain⟨o,J,U,ho,r⟩:=Q;exact⟨o,J,U,k _ o (Ne.symm Y) ho,r⟩
 .refine(I.hok b u e).stay (λc v w q=>k c v ?_ q) (λ_ q=>q) λ_ _ q=>q
  rcases w with z | z
  .rw[z];exact j b u e
  .exact j c _ z
theorem Inv.tok (I:Inv X aA σ H s)(t:Nat):Inv X aA σ H {s with toks:=t}:=I.un (h':=s.heap) (t':=t) Un.refl I.hok
theorem Inv.kept (I:Inv X aA σ H s)(k:∀b u,s.heap.get? b=some u->h'.get? b=some u):Inv X aA σ H {s with heap:=h',toks:=t'}:=I.un (Un.kept k) (I.hok.kept k)
theorem Inv.laid (I:Inv X aA σ H s)(k:∀b u,s.heap.get? b=some u->h'.get? b=some u)(hp:s.heap.objs.size<=a)(z:ObjOk X.prog X.w (upd H a o) h' a o) :
  Inv X aA σ (upd H a o) {s with heap:=h',toks:=t'}:=I.un (Un.laid k hp (I.hok.fresh hp)) (I.hok.laid k hp z)
theorem Inv.write (I:Inv X aA σ H s)(Y:Mut (H x))(m:e=x\/H e=some (.own x))(k:∀b u,b≠e->s.heap.get? b=some u->h'.get? b=some u)(z:∃u,h'.get? e=some u)
  (j:ObjOk X.prog X.w (upd H x o) h' x o):Inv X aA σ (upd H x o) {s with heap:=h',toks:=t'}:=I.un (Un.write Y m k z) (I.hok.write Y m k z j)
theorem Inv.weak (I:Inv X aA σ H s)(j:σ'.length=σ.length)(w:∀(i:Nat) v,σ'[i]? = some (some v)->σ[i]? = some (some v)):Inv X aA σ' H s:=
 ⟨I.ok,I.os,I.bare,I.base,let ⟨m,Y,z⟩:=I.loc;⟨m,Y,λi x v e1 e2 e3=>z i x v e1 (w i v e2) e3⟩,I.cell,I.free,I.freeC,I.pin,I.hok,j.trans I.len⟩
theorem Inv.pins_of (I:Inv X aA σ H s)(h:∀p∈pins',s.heap.get? p.1=some p.2/\H p.1=none/\p.1≠X.env.locals/\p.1∉X.fs/\∀v,p.2.data≠.cell v):Inv X pins' σ H s:=
 ⟨I.ok,I.os,I.bare,I.base,I.loc,I.cell,I.free,I.freeC,λp hp=>(Aa0.mp hp).elim (λz=>I.pin p (Al _ z)) (h p),I.hok,I.len⟩
theorem bL9 {N:AH}(hN:N.Nodup){i j:Nat}{x:Str}(a:N[i]? = some x)(b:N[j]? = some x):i=j:=by
 obtain⟨h1,e1⟩:=Ab0.mp a;obtain⟨w,e2⟩:=Ab0.mp b;exact(List.getElem_inj hN).mp (e1.trans e2.symm)
theorem bB6 (I:Inv X aA σ H s)(hN:X.N.Nodup)(hi:X.N[i]? = some x)(J:Loc X.env.scope x)(r:RelV v u)
  (h:∀s',Inv X aA (σ.set i (some v)) H s'->(∃a,Heap.SameBut a s.heap s'.heap/\(a=X.env.locals\/X.env.cells.lookup x=some a))->Q () s') (hf:X.fn x=true\/X.env.scope.names.lookup x=some .local:=by first | exact .inl rfl | exact .inr rfl | assumption):wpAny M A (storeName X.env x u) Q E s:=by
 obtain⟨m,hn,hl⟩:=id I.loc;have hcls:(X.env.scope.kind == .class||(X.env.scope.kind == .module&&X.env.locals != X.env.globals))=false:=by rw[I.ok.kind];rfl
 have hiσ:i<σ.length:=by rw[I.len];exact(Ab0.mp hi).1
 have cne:=I.cne
 have U:∀{a:Addr} {h':Heap},(∃o,s.heap.get? a=some o/\H a=none)->Heap.SameBut a s.heap h'->HOk X.prog X.w H h':=λ{a h'} ha Y b ob e=>by
  obtain⟨_,_,R⟩:=ha;refine(I.hok b ob e).stay (λc w' hc q=>(Y.2 c ?_).trans q) (λ_ q=>q) λ_ _ q=>q
  rintro rfl;rcases hc with rfl | hc
  .rw[R]at e;cases e
  .rw[R]at hc;cases hc
 rcases J with hk | hk
 .refine wpAny_storeName_local hk hn (λh' hn' Y=>?_) hcls
  obtain⟨oL,_,_,hoL,_⟩:=id hn;refine h _ ⟨I.ok,I.os,I.bare,⟨λb o e n D J=>?_,λb o e n D J=>?_,I.base.free,λb o e J=>?_,I.base.tups,I.base.frzs,I.base.tbls⟩,⟨_,hn',λj y v' e1 e2 e3=>?_⟩,λy c e=>?_,I.free,I.freeC,λp hp=>?_,U ⟨oL,hoL,I.free⟩ Y,by simpa using I.len⟩ ⟨_,Y,.inl rfl⟩
  .exact(Y.2 b (Ab9 (Ab8 (Ab3 e) I.ok.above))).trans (I.base.keep b o e n D J)
  .obtain⟨sl,e1⟩:=I.base.slot b o e n D J;exact⟨sl,(Y.2 b (Ab9 (Ab8 (Ab3 e) I.ok.above))).trans e1⟩
  .obtain⟨o',e1⟩:=I.base.there b o e J;exact⟨o',(Y.2 b (Ab9 (Ab8 (Ab3 e) I.ok.above))).trans e1⟩
  .by_cases B:j=i
   .subst B;rw[hi]at e1;cases e1;rw[Bc hiσ]at e2;cases e2;exact⟨u,r,.inl ⟨hk,by simp⟩⟩
   .rw[Ad0 (Ne.symm B)]at e2;obtain⟨u',r',q⟩:=hl j y v' e1 e2 e3;refine⟨u',r',?_⟩;rcases q with⟨k,e⟩ | ⟨k,c,e,z⟩
    .refine .inl ⟨k,?_⟩
     have:y≠x:=λe=>B (bL9 hN e1 (e▸hi))
     simp[this,e]
    .exact .inr ⟨k,c,e,z.sameBut Y (cne y c e)⟩
  .obtain⟨w',z⟩:=I.cell y c e;exact⟨w',z.sameBut Y (cne y c e)⟩
  .obtain⟨e,n,ne,nf,d⟩:=I.pin p hp;exact⟨(Y.2 p.1 ne).trans e,n,ne,nf,d⟩
 .have F:X.fn x=true:=by
   rcases hf with z | z
   .exact z
   .rw[z]at hk;cases hk
  obtain⟨c,hc⟩:=I.ok.has x (.inl hk);obtain⟨w',z⟩:=I.cell x c hc;refine wpAny_storeName_cell I.ok.kind hk hc z (λh' P Y=>?_)
  obtain⟨oc,hoc,hocd⟩:=id z;refine h {s with heap:=h'} ⟨I.ok,I.os,I.bare,⟨λb o e n D J=>?_,λb o e n D J=>?_,I.base.free,λb o e J=>?_,I.base.tups,I.base.frzs,I.base.tbls⟩,⟨m,hn.sameBut Y (Ne.symm (cne x c hc)),λj y v' e1 e2 e3=>?_⟩,λy c' e=>?_,I.free,I.freeC,λp hp=>?_,U ⟨oc,hoc,I.freeC x c hc⟩ Y,by simpa using I.len⟩ ⟨c,Y,.inr hc⟩
  .exact(Y.2 b (Ab9 (Ab8 (Ab3 e) (I.ok.cab x c F hc)))).trans (I.base.keep b o e n D J)
  .obtain⟨sl,e1⟩:=I.base.slot b o e n D J;exact⟨sl,(Y.2 b (Ab9 (Ab8 (Ab3 e) (I.ok.cab x c F hc)))).trans e1⟩
  .obtain⟨o',e1⟩:=I.base.there b o e J;exact⟨o',(Y.2 b (Ab9 (Ab8 (Ab3 e) (I.ok.cab x c F hc)))).trans e1⟩
  .by_cases B:j=i
   .subst B;rw[hi]at e1;cases e1;rw[Bc hiσ]at e2;cases e2;exact⟨u,r,.inr ⟨.inl hk,c,hc,P⟩⟩
   .rw[Ad0 (Ne.symm B)]at e2;obtain⟨u',r',q⟩:=hl j y v' e1 e2 e3;refine⟨u',r',?_⟩;rcases q with q | ⟨k,c',e,z'⟩
    .exact .inl q
    .refine .inr ⟨k,c',e,z'.sameBut Y ?_⟩;rintro rfl;exact B (bL9 hN e1 (I.ok.inj _ _ _ e hc▸hi))
  .by_cases hcc:c'=c
   .subst hcc;exact⟨_,P⟩
   .obtain⟨w2,z2⟩:=I.cell y c' e;exact⟨w2,z2.sameBut Y hcc⟩
  .obtain⟨e,n,ne,nf,d⟩:=I.pin p hp;refine⟨(Y.2 p.1 ?_).trans e,n,ne,nf,d⟩;intro q;rw[q,hoc]at e;have q':oc=p.2:=Ab4 e;exact d w' (by rw[<- q'];exact hocd)
theorem aU6 (I:Inv X aA σ H s)(hN:X.N.Nodup)(hi:X.N[i]? = some x)(j:Loc X.env.scope x)(r:RelV v u)
  (h:∀s',Inv X aA (σ.set i (some v)) H s'->Q () s') (z:X.fn x=true\/X.env.scope.names.lookup x=some .local:=by first | exact .inl rfl | exact .inr rfl | assumption):wpAny M A (storeName X.env x u) Q E s:=
 bB6 I hN hi j r (λs' w _=>h s' w) z
theorem Inv.call' (I:Inv X aA σ H s)(ho:s'.os=s.os)(u:Un (frs X.stack) ch H H' s.heap s'.heap)(j:HOk X.prog X.w H' s'.heap)(m:AllBare s'.gens)
  (z:∀b∈ch,(b∈X.ex\/X.s₀.heap.objs.size<=b)/\b≠X.env.locals/\(∀x c,X.env.cells.lookup x=some c->c≠b)/\∀p∈X.pn++aA,p.1≠b):Inv X aA σ H' s':=by
 obtain⟨h',g',d',t',Y⟩:=s';have e:Y=s.os:=ho;subst e;exact I.call (g':=g') (t':=t') (d':=d') u j m z
end
abbrev XK:=Value->AK->Hp->Prop
abbrev St:=List (Option V)
abbrev VK:=V->Hp->Prop
abbrev TE:=St->Hp->VK->Prop
abbrev TT:=St->Hp->(Bool->Hp->Prop)->Prop
abbrev TA:=St->Hp->(List V->Hp->Prop)->Prop
structure aT6 where
 nx:St->Hp->Prop
 rt:VK
 bk:St->Hp->Prop:=λ_ _=>False
 ct:St->Hp->Prop:=λ_ _=>False
abbrev TS:=aT6->St->Hp->Prop
def EP (X:Cx)(aA:Ed)(σ:St)(Q:VK)(u:Value)(s':Shared):Prop:=∃v H',Inv X aA σ H' s'/\RelV v u/\Q v H'
def TP (X:Cx)(aA:Ed)(σ:St)(Q:Bool->Hp->Prop)(b:Bool)(s':Shared):Prop:=∃H',Inv X aA σ H' s'/\Q b H'
def AP (X:Cx)(aA:Ed)(σ:St)(Q:List V->Hp->Prop)(us:AG)(s':Shared):Prop:=∃vs H',Inv X aA σ H' s'/\Vals vs us/\Q vs H'
def SP (X:Cx)(aA:Ed)(D:aT6)(f:Flow)(s':Shared):Prop:=
 match f with
 | .next=>∃σ' H',Inv X aA σ' H' s'/\D.nx σ' H'
 | .brk=>∃σ' H',Inv X aA σ' H' s'/\D.bk σ' H'
 | .cont=>∃σ' H',Inv X aA σ' H' s'/\D.ct σ' H'
 | .ret u=>∃v σ' H',Inv X aA σ' H' s'/\RelV v u/\D.rt v H'
structure PE (X:Cx)(e:Expr)(t:TE):Prop where
 mk ::
 run :
  ∀(aA:Ed) (s:Shared) (σ:St) (H:Hp) (Q:VK),Inv X aA σ H s->t σ H Q->wpAny (model X.prog X.w) X.A (eval e X.env) (EP X aA σ Q) X.xe s
instance {X:Cx} {e:Expr} {t:TE}:CoeFun (PE X e t) λ_=>
 (∀(aA:Ed) (s:Shared) (σ:St) (H:Hp) (Q:VK),Inv X aA σ H s->t σ H Q->wpAny (model X.prog X.w) X.A (eval e X.env) (EP X aA σ Q) X.xe s):=⟨PE.run⟩
structure PT (X:Cx)(e:Expr)(t:TT):Prop where
 mk ::
 run :
  ∀(aA:Ed) (s:Shared) (σ:St) (H:Hp) (Q:Bool->Hp->Prop),Inv X aA σ H s->t σ H Q->wpAny (model X.prog X.w) X.A (isTrue e X.env (eval e X.env)) (TP X aA σ Q) X.xe s
instance {X:Cx} {e:Expr} {t:TT}:CoeFun (PT X e t) λ_=>
 (∀(aA:Ed) (s:Shared) (σ:St) (H:Hp) (Q:Bool->Hp->Prop),Inv X aA σ H s->t σ H Q->wpAny (model X.prog X.w) X.A (isTrue e X.env (eval e X.env)) (TP X aA σ Q) X.xe s):=⟨PT.run⟩
structure PW (X:Cx)(e:Expr)(t:TT):Prop where
 mk ::
 run :
  ∀(whole:Sem Value) (aA:Ed) (s:Shared) (σ:St) (H:Hp) (Q:Bool->Hp->Prop),Inv X aA σ H s->t σ H Q->wpAny (model X.prog X.w) X.A (isTrue e X.env whole) (TP X aA σ Q) X.xe s
instance {X:Cx} {e:Expr} {t:TT}:CoeFun (PW X e t) λ_=>
 (∀(whole:Sem Value) (aA:Ed) (s:Shared) (σ:St) (H:Hp) (Q:Bool->Hp->Prop),Inv X aA σ H s->t σ H Q->wpAny (model X.prog X.w) X.A (isTrue e X.env whole) (TP X aA σ Q) X.xe s):=⟨PW.run⟩
theorem PW.pt (h:PW X e t):PT X e t:=⟨h _⟩
structure PA (X:Cx)(es:AM)(t:TA):Prop where
 mk ::
 run :
  ∀(pos:Pos) (aA:Ed) (s:Shared) (σ:St) (H:Hp) (Q:List V->Hp->Prop),Inv X aA σ H s->t σ H Q->wpAny (model X.prog X.w) X.A (spliced (backTo pos (starEach es X.env))) (AP X aA σ Q) X.xe s
instance {X:Cx} {es:AM} {t:TA}:CoeFun (PA X es t) λ_=>
 (∀(pos:Pos) (aA:Ed) (s:Shared) (σ:St) (H:Hp) (Q:List V->Hp->Prop),Inv X aA σ H s->t σ H Q->wpAny (model X.prog X.w) X.A (spliced (backTo pos (starEach es X.env))) (AP X aA σ Q) X.xe s):=⟨PA.run⟩
structure PS (X:Cx)(st:Stmt)(t:TS):Prop where
 mk ::
 run :
  ∀(aA:Ed) (s:Shared) (σ:St) (H:Hp) (D:aT6),Inv X aA σ H s->t D σ H->wpAny (model X.prog X.w) X.A (exec st X.env) (SP X aA D) X.xe s
instance {X:Cx} {st:Stmt} {t:TS}:CoeFun (PS X st t) λ_=>
 (∀(aA:Ed) (s:Shared) (σ:St) (H:Hp) (D:aT6),Inv X aA σ H s->t D σ H->wpAny (model X.prog X.w) X.A (exec st X.env) (SP X aA D) X.xe s):=⟨PS.run⟩
structure PSs (X:Cx)(st:List Stmt)(t:TS):Prop where
 mk ::
 run :
  ∀(aA:Ed) (s:Shared) (σ:St) (H:Hp) (D:aT6),Inv X aA σ H s->t D σ H->wpAny (model X.prog X.w) X.A (execs st X.env) (SP X aA D) X.xe s
instance {X:Cx} {st:List Stmt} {t:TS}:CoeFun (PSs X st t) λ_=>
 (∀(aA:Ed) (s:Shared) (σ:St) (H:Hp) (D:aT6),Inv X aA σ H s->t D σ H->wpAny (model X.prog X.w) X.A (execs st X.env) (SP X aA D) X.xe s):=⟨PSs.run⟩
theorem thn (h:wpAny M A t Q E s)(w:∀a s,Q a s->Q' a s):wpAny M A t Q' E s:=wpAny_mono h w λ_ _ x=>x
section
def C4 (i:Nat):TE:=λσ H Q=>∃v,σ[i]? = some (some v)/\Q v H
def tC (v:V):TE:=λ_ H Q=>Q v H
theorem dI1 (hN:X.N[i]? = some x)(D:Vis X.env.scope x)(j:(x==("__debug__" : Str))=false:=by decide)(z:(x==("__classdict__" : Str))=false:=by decide):PE X (.Name x pos) (C4 i):=by
 refine⟨?_⟩;intro U s σ H Q I h;obtain⟨v,e,h⟩:=h;obtain⟨m,R,J⟩:=I.loc;obtain⟨u,r,l⟩:=J i x v hN e D;have fin:EP X U σ Q u s:=⟨v,H,I,r,h⟩;rcases l with⟨hk,M⟩ | ⟨hk,c,Y,w⟩
 .exact wpAny_Name (wpAny_loadName_local I.ok.kind hk R M fin) j
 .rcases hk with hk | hk
  .exact wpAny_Name (wpAny_loadName_cell I.ok.kind hk Y w fin) j
  .exact wpAny_Name (wpAny_loadName_free I.ok.kind hk Y w fin z) j
theorem A7:PE X (.Constant (.int i) j pos) (tC (.int i)):=⟨λ_ _ _ H _ I h=>wpAny_Constant_int ⟨.int i,H,I.tok _,⟨_,rfl⟩,h⟩⟩
theorem V4:PE X (.Constant (.bool b) j pos) (tC (.bl b)):=⟨λ_ _ _ H _ I h=>Constant_bool ⟨.bl b,H,I,rfl,h⟩⟩
def Gl (X:Cx)(x:Str):Prop:=X.env.kindOf x=some .globalImplicit
theorem bX5 (I:Inv X aA σ H s)(j:Gl X x)(m:X.mg x=some u)(h:Q u s)
  (z:(x==("__debug__" : Str))=false:=by decide):wpAny (model X.prog X.w) X.A (eval (.Name x pos) X.env) Q E s:=
 Calls.Name_function_global I.ok.kind j (Calls.loadGlobal_global (by rw[I.ok.glob];exact I.mod.glob.keeps I.bk) m h) z
theorem V8 (I:Inv X aA σ H s)(m:Gl X x)(Y:X.mg x=none)(J:bootBuiltins x=some u)(h:Q u s)
  (U:x≠"__name__" := by decide) (j:(x==("__debug__" : Str))=false:=by decide):wpAny (model X.prog X.w) X.A (eval (.Name x pos) X.env) Q E s:=by
 obtain⟨M,h1,z⟩:=I.mod.blt;exact Calls.Name_function_global I.ok.kind m (Calls.loadGlobal_builtin (by rw[I.ok.glob];exact I.mod.glob.keeps I.bk) Y (by rw[I.ok.blt];exact h1.keeps I.bk) ((z x U).trans J) h) j
theorem bY0 (z:Gl X x)(j:X.mg x=some u)(r:RelV v u)(w:(x==("__debug__" : Str))=false:=by decide):PE X (.Name x pos) (tC v):=⟨λ_ _ _ H _ I h=>bX5 I z j ⟨v,H,I,r,h⟩ w⟩
theorem cW6 (z:Gl X x)(j:X.mg x=none)(Y:bootBuiltins x=some u)(r:RelV v u)(m:x≠"__name__" := by decide)(w:(x==("__debug__" : Str))=false:=by decide):PE X (.Name x pos) (tC v):=⟨λ_ _ _ H _ I h=>V8 I z j Y ⟨v,H,I,r,h⟩ m w⟩
def t2I (ta tb:TE)(k:Int->Int->Hp->Prop):St->Hp->Prop:=λσ H=>ta σ H λx H1=>tb σ H1 λy H2=>∃i j,x=.int i/\y=.int j/\k i j H2
structure PC (X:Cx)(op:CmpOp)(a b:Expr)(t:TE):Prop where
 mk ::
 run :
  ∀(aA:Ed) (s:Shared) (σ:St) (H:Hp) (Q:VK),Inv X aA σ H s->t σ H Q ->
   wpAny (model X.prog X.w) X.A (eval a X.env) (λv s₁=>wpAny (model X.prog X.w) X.A (eval b X.env) (λu s₂=>wpAny (model X.prog X.w) X.A (compareOp op v u) (EP X aA σ Q) X.xe s₂) X.xe s₁) X.xe s
instance {X:Cx} {op:CmpOp} {a b:Expr} {t:TE}:CoeFun (PC X op a b t) λ_=>
 (∀(aA:Ed) (s:Shared) (σ:St) (H:Hp) (Q:VK),Inv X aA σ H s->t σ H Q ->
  wpAny (model X.prog X.w) X.A (eval a X.env) (λv s₁=>wpAny (model X.prog X.w) X.A (eval b X.env) (λu s₂=>wpAny (model X.prog X.w) X.A (compareOp op v u) (EP X aA σ Q) X.xe s₂) X.xe s₁) X.xe s):=⟨PC.run⟩
def cF2 (p:Int->Int->Bool)(ta tb:TE):TE:=λσ H Q=>t2I ta tb (λi j H2=>Q (.bl (p i j)) H2) σ H
abbrev tLt:TE->TE->TE:=cF2 λi j=>decide (i<j)
abbrev tLe:TE->TE->TE:=cF2 λi j=>decide (i<=j)
abbrev tGt:TE->TE->TE:=cF2 λi j=>decide (j<i)
abbrev tGe:TE->TE->TE:=cF2 λi j=>decide (j<=i)
abbrev dX4:TE->TE->TE:=cF2 λi j=>decide (i=j)
abbrev dX5:TE->TE->TE:=cF2 λi j => !decide (i=j)
def tB (t:TE):TT:=λσ H Q=>t σ H λx H1=>∃c,x=.bl c/\Q c H1
theorem O5 (h:PE X e t)(j:∀whole,isTrue e X.env whole=(do let v <- whole;standAt e.pos;holding [v] (truthy v)):=by intro _;rfl):PT X e (tB t):=by
 refine⟨?_⟩;intro z s σ H Q I m;refine isTrue_plain (thn (h z s σ H _ I m) λv J pz=>?_) (j _)
 obtain⟨x,H1,w,U,Y⟩:=pz;obtain⟨d,rfl,q⟩:=Y;cases U;exact wpAny_truthy_bool ⟨H1,w,q⟩
def dU7 (t u:TT):TT:=λσ H Q=>t σ H λc H1=>if c=true then u σ H1 Q else Q false H1
def tOr (t u:TT):TT:=λσ H Q=>t σ H λc H1=>if c=true then Q true H1 else u σ H1 Q
def dP4 (t:TT):TT:=λσ H Q=>t σ H λc H1=>Q (!c) H1
theorem aL6 (z:PT X a tA):PW X (.BoolOp .And [a] pos) tA:=by
 refine⟨?_⟩;intro m w s σ H Q I h;refine isTrue_and (thn (z w s σ H Q I h) λc j e=>?_)
 cases c with
 | true=>exact isTrue_and_nil e
 | false=>exact e
theorem bR6 (z:PT X a tA):PW X (.BoolOp .Or [a] pos) tA:=by
 refine⟨?_⟩;intro m w s σ H Q I h;refine isTrue_or (thn (z w s σ H Q I h) λc j e=>?_)
 cases c with
 | false=>exact isTrue_or_nil e
 | true=>exact e
theorem o7 (m:PT X a tA)(Y:PW X (.BoolOp .And (b::rest) pos) tB'):PW X (.BoolOp .And (a::b::rest) pos) (dU7 tA tB'):=by
 refine⟨?_⟩;intro J z s σ H Q I h;refine isTrue_and (thn (m z s σ H _ I h) λc U pz=>?_)
 obtain⟨H1,w,j⟩:=pz;cases c with
 | true=>exact Y J z U σ H1 Q w j
 | false=>exact⟨H1,w,j⟩
theorem aQ4 (m:PT X a tA)(Y:PW X (.BoolOp .Or (b::rest) pos) tB'):PW X (.BoolOp .Or (a::b::rest) pos) (tOr tA tB'):=by
 refine⟨?_⟩;intro J z s σ H Q I h;refine isTrue_or (thn (m z s σ H _ I h) λc U pz=>?_)
 obtain⟨H1,w,j⟩:=pz;cases c with
 | true=>exact⟨H1,w,j⟩
 | false=>exact Y J z U σ H1 Q w j
theorem V7 (z:PT X a tA):PT X (.UnaryOp .Not a pos) (dP4 tA):=by
 refine⟨?_⟩;intro w s σ H Q I h;exact isTrue_not (z w s σ H (λc H1=>Q (!c) H1) I h)
def dC8 (ta tb:TE):TE:=λσ H Q=>ta σ H λx H1=>∃c,x=.bl c/\if c=true then tb σ H1 Q else Q (.bl false) H1
def dE2 (ta:TE):TE:=λσ H Q=>ta σ H λx H1=>∃c,x=.bl c/\Q (.bl (!c)) H1
theorem bS6 (h:PE X a t):PE X (.BoolOp op [a] pos) t:=⟨λw s σ H Q I z=>BoolOp_one (h w s σ H Q I z)⟩
theorem bS8 (m:PE X a ta)(Y:PE X (.BoolOp .And (b::rest) pos) tb):PE X (.BoolOp .And (a::b::rest) pos) (dC8 ta tb):=by
 refine⟨?_⟩;intro j s σ H Q I h;refine BoolOp_and (thn (m j s σ H _ I h) λv J pz=>?_)
 obtain⟨x,H1,z,U,w⟩:=pz;obtain⟨c,rfl,w⟩:=w;cases U;refine wpAny_truthy_bool ?_;cases c with
 | true=>exact Y j J σ H1 Q z w
 | false=>exact⟨.bl false,H1,z,rfl,w⟩
theorem dI9 (m:PE X a ta):PE X (.UnaryOp .Not a pos) (dE2 ta):=by
 refine⟨?_⟩;intro j s σ H Q I h;refine UnaryOp_ (thn (m j s σ H _ I h) λv U pz=>?_)
 obtain⟨x,H1,z,Y,w⟩:=pz;obtain⟨c,rfl,w⟩:=w;cases Y;exact not_of (wpAny_truthy_bool ⟨.bl (!c),H1,z,rfl,w⟩)
def tIf (t:TT)(ta tb:TE):TE:=λσ H Q=>t σ H λc H1=>if c=true then ta σ H1 Q else tb σ H1 Q
theorem bN0 (J:PT X c tA)(Y:PE X a ta)(U:PE X b tb):PE X (.IfExp c a b pos) (tIf tA ta tb):=by
 refine⟨?_⟩;intro w s σ H Q I h;refine wpAny_IfExp (thn (J w s σ H _ I h) λd m pz=>?_)
 obtain⟨H1,z,j⟩:=pz;cases d with
 | true=>exact Y w m σ H1 Q z j
 | false=>exact U w m σ H1 Q z j
end
def SqL (K:Frag)(H:Hp)(a:Addr)(xs:List V):Prop:=
 Rd H a (.lst xs) \/
  ∃(o:Obj) (its:AJ) (n:Nat),K.lookup a=some o/\o.cls=.type "list" /\ o.dict=none/\o.data=.seq its n/\its.size<=sizeLine/\Vals xs its.toList
def SqT (K:Frag)(H:Hp)(a:Addr)(xs:List V):Prop:=
 Rd H a (.tup xs) \/
  ∃(o:Obj) (its:AJ) (n:Nat),K.lookup a=some o/\o.cls=.type "tuple" /\ o.dict=none/\o.data=.seq its n/\its.size<=sizeLine/\Vals xs its.toList
def dV6:Value->Option V
 | .none=>some .non
 | .bool b=>some (.bl b)
 | .int i _=>some (.int i)
 | .str x _=>some (.str x)
 | .bytes b _=>some (.byt b)
 | .float b _=>some (.flt b)
 | .ref a=>some (.ref a)
 | .type n=>some (.ty n)
 | _=>none
theorem RelV.abs (r:RelV x u):dV6 u=some x:=by
 cases x with
 | non=>cases r;rfl
 | bl _=>cases r;rfl
 | int _=>obtain⟨t,rfl⟩:=r;rfl
 | str _=>obtain⟨t,rfl⟩:=r;rfl
 | byt _=>obtain⟨t,rfl⟩:=r;rfl
 | flt _=>obtain⟨t,rfl⟩:=r;rfl
 | ref _=>cases r;rfl
 | ty _=>cases r;rfl
theorem RelV.inj (r:RelV x u)(q:RelV y u):x=y:=Ab4 (r.abs.symm.trans q.abs)
theorem Vals.inj:∀{xs ys:List V} {us:AG},Vals xs us->Vals ys us->xs=ys
 | _,_,_,.nil,.nil=>rfl
 | _,_,_,.cons r t,.cons r' t'=>by rw[r.inj r',Vals.inj t t']
section
theorem SqL.of {K:Frag}(h:H a=some (.lst xs)):SqL K H a xs:=.inl (.inl h)
theorem SqT.of {K:Frag}(h:H a=some (.tup xs)):SqT K H a xs:=.inl (.inl h)
theorem Inv.list (I:Inv X aA σ H s)(h:SqL X.K H a xs):∃its:AG,Vals xs its/\PlainL s.heap a its.toArray/\xs.length<=sizeLine:=by
 rcases h with h | ⟨o,its,n,m,w,j,Y,U,r⟩
 .obtain⟨z,its,n,r,e⟩:=h.ok I.hok;exact⟨its,r,⟨_,n,e,rfl,rfl,rfl⟩,z⟩
 .refine⟨its.toList,r,⟨o,n,I.kIn a o m,w,j,by simpa using Y⟩,?_⟩
  have e:=r.length
  simp only[Ax]at e
  lia
theorem Inv.tuple0 (I:Inv X aA σ H s)(h:SqT X.K H a xs):∃its:AG,Vals xs its/\Tup0 s.heap a its.toArray/\xs.length<=sizeLine:=by
 rcases h with h | ⟨o,its,n,m,w,j,Y,U,r⟩
 .obtain⟨z,its,r,p⟩:=h.ok I.hok;exact⟨its,r,p,z⟩
 .refine⟨its.toList,r,⟨o,I.kIn a o m,w,⟨n,by simpa using Y⟩,j⟩,?_⟩
  have e:=r.length
  simp only[Ax]at e
  lia
theorem Inv.tuple (I:Inv X aA σ H s)(h:SqT X.K H a xs):∃its:AG,Vals xs its/\IsTup s.heap a its.toArray/\xs.length<=sizeLine:=by
 obtain⟨its,r,p,z⟩:=I.tuple0 h;exact⟨its,r,p.tup,z⟩
theorem Inv.list_inj (I:Inv X aA σ H s)(h:SqL X.K H a xs)(h':SqL X.K H a ys):xs=ys:=by
 obtain⟨its,r,⟨o,n,e,_,_,d⟩,_⟩:=I.list h;obtain⟨w,m,⟨U,Y,e',_,_,z⟩,_⟩:=I.list h';rw[e]at e';cases e';rw[d]at z
 injection z with j _
 have:its=w:=by simpa using congrArg Array.toList j
 subst this;exact r.inj m
theorem Inv.tuple_inj (I:Inv X aA σ H s)(h:SqT X.K H a xs)(h':SqT X.K H a ys):xs=ys:=by
 obtain⟨its,r,⟨o,e,_,n,d⟩,_⟩:=I.tuple h;obtain⟨w,m,⟨U,e',_,Y,z⟩,_⟩:=I.tuple h';rw[e]at e';cases e';rw[d]at z
 injection z with j _
 have:its=w:=by simpa using congrArg Array.toList j
 subst this;exact r.inj m
end
abbrev Cx.wish (X:Cx)(E:Ec):Cx:={X with xe:=E}
abbrev Cx.nox (X:Cx):Cx:=X.wish λ_ _=>False
theorem Cx.Ok.wish {X:Cx}(ok:X.Ok)(E:Ec):(X.wish E).Ok:=
 ⟨ok.mod,ok.kind,ok.glob,ok.blt,ok.above,ok.inj,ok.has,ok.cab,ok.hd,ok.frames,ok.stk,ok.exf,ok.bs,ok.bsz,ok.noex,ok.exfs,ok.funs,ok.frf⟩
theorem Cx.Ok.unwish {X:Cx}{E:Ec}(ok:(X.wish E).Ok):X.Ok:=
 ⟨ok.mod,ok.kind,ok.glob,ok.blt,ok.above,ok.inj,ok.has,ok.cab,ok.hd,ok.frames,ok.stk,ok.exf,ok.bs,ok.bsz,ok.noex,ok.exfs,ok.funs,ok.frf⟩
section
theorem Inv.wish (I:Inv X aA σ H s)(E:Ec):Inv (X.wish E) aA σ H s:=⟨I.ok.wish E,I.os,I.bare,I.base,I.loc,I.cell,I.free,I.freeC,I.pin,I.hok,I.len⟩
theorem Inv.unwish (I:Inv (X.wish E) aA σ H s):Inv X aA σ H s:=⟨I.ok.unwish,I.os,I.bare,I.base,I.loc,I.cell,I.free,I.freeC,I.pin,I.hok,I.len⟩
theorem SP.unwish {D:aT6}{f:Flow}{s':Shared}(h:SP (X.wish E) aA D f s'):SP X aA D f s':=by
 cases f with
 | next=>obtain⟨z,w,I,q⟩:=h;exact⟨z,w,I.unwish,q⟩
 | brk=>obtain⟨z,w,I,q⟩:=h;exact⟨z,w,I.unwish,q⟩
 | cont=>obtain⟨z,w,I,q⟩:=h;exact⟨z,w,I.unwish,q⟩
 | ret u=>obtain⟨v,z,w,I,r,q⟩:=h;exact⟨v,z,w,I.unwish,r,q⟩
theorem PSs.nox {st:List Stmt}{t:TS}(h:PSs X.nox st t):PSs X st t:=⟨λw s σ H D I j=>
 wpAny_mono (h w s σ H D (I.wish _) j) (λ_ _ q=>q.unwish) λ_ _ z=>False.elim z⟩
end
section
variable {X:Cx}{st:Stmt}{rest:List Stmt}{t u:TS}{e:Expr}{te:TE}{pos:Pos}
def dD6:TS:=λD σ H=>D.nx σ H
def cZ9 (t u:TS):TS:=λD σ H=>t {D with nx:=u D} σ H
theorem E8:PSs X [] dD6:=⟨λ_ _ σ H _ I h=>wpAny_execs_nil ⟨σ,H,I,h⟩⟩
theorem A6 (h1:PS X st t)(m:PSs X rest u):PSs X (st::rest) (cZ9 t u):=by
 refine⟨?_⟩;intro w s σ H D I h;refine wpAny_execs_cons (thn (h1 w s σ H {D with nx:=u D} I h) λf Y q=>?_)
 cases f with
 | next=>
  obtain⟨U,z,j,q⟩:=q;exact m w Y U z D j q
 | ret v=>exact q
 | brk=>exact q
 | cont=>exact q
theorem B1 (h1:PS X st t):PSs X [st] t:=by
 refine⟨?_⟩;intro w s σ H D I h;refine wpAny_execs_cons (thn (h1 w s σ H D I h) λf z q=>?_)
 cases f with
 | next=>exact wpAny_execs_nil q
 | ret v=>exact q
 | brk=>exact q
 | cont=>exact q
theorem Inv.quiet (I:Inv X aA σ H s):interactive X.env=false:=by simp[interactive,I.ok.kind]
def aZ1 (te:TE):TS:=λD σ H=>te σ H λ_ H1=>D.nx σ H1
theorem E5 (j:PE X e te)(m:swapsWith e none pos.line X.env=pure false:=by rfl):PS X (.Expr e pos) (aZ1 te):=by
 refine⟨?_⟩;intro z s σ H D I h;exact wpAny_Expr_any (thn (j z s σ H _ I h) λv J ⟨x,H1,w,U,Y⟩=>⟨σ,H1,w,Y⟩) I.quiet m
def cJ4 (te:TE):TS:=λD σ H=>te σ H D.rt
theorem C8 (j:PE X e te):PS X (.Return (some e) pos) (cJ4 te):=by
 refine⟨?_⟩;intro z s σ H D I h;exact wpAny_Return_some (thn (j z s σ H _ I h) λv U ⟨x,H1,w,Y,m⟩=>⟨x,σ,H1,w,Y,m⟩)
def cH6 (c:TT)(t u:TS):TS:=λD σ H=>c σ H λb H1=>if b=true then t D σ H1 else u D σ H1
theorem M1 (J:PT X c tc)(Y:PSs X a t)(U:PSs X b u):PS X (.If c a b pos) (cH6 tc t u):=by
 refine⟨?_⟩;intro w s σ H D I h;refine wpAny_If (thn (J w s σ H _ I h) λd m pz=>?_)
 obtain⟨H1,z,j⟩:=pz;cases d with
 | true=>exact Y w m σ H1 D z j
 | false=>exact U w m σ H1 D z j
def dL2:TS:=λ_ _ _=>False
theorem aO5:PSs X sts dL2:=⟨λ_ _ _ _ _ _ h=>h.elim⟩
end
abbrev TG:=V->St->Hp->(St->Hp->Prop)->Prop
abbrev TGs:=List V->St->Hp->(St->Hp->Prop)->Prop
structure PG (X:Cx)(target:Expr)(t:TG):Prop where
 mk ::
 run :
  ∀(aA:Ed) (s:Shared) (σ:St) (H:Hp) (v:V) (u:Value) (Q:St->Hp->Prop),Inv X aA σ H s->RelV v u->t v σ H Q ->
   wpAny (model X.prog X.w) X.A (assign target X.env u) (λ_ s'=>∃σ' H',Inv X aA σ' H' s'/\Q σ' H') X.xe s
instance {X:Cx} {target:Expr} {t:TG}:CoeFun (PG X target t) λ_=>
 (∀(aA:Ed) (s:Shared) (σ:St) (H:Hp) (v:V) (u:Value) (Q:St->Hp->Prop),Inv X aA σ H s->RelV v u->t v σ H Q ->
  wpAny (model X.prog X.w) X.A (assign target X.env u) (λ_ s'=>∃σ' H',Inv X aA σ' H' s'/\Q σ' H') X.xe s):=⟨PG.run⟩
structure PGs (X:Cx)(ts:AM)(t:TGs):Prop where
 mk ::
 run :
  ∀(aA:Ed) (s:Shared) (σ:St) (H:Hp) (vs:List V) (us:AG) (Q:St->Hp->Prop),Inv X aA σ H s->Vals vs us->t vs σ H Q ->
   wpAny (model X.prog X.w) X.A (assignInOrder ((assignEach ts X.env).map (·.2)) us) (λ_ s'=>∃σ' H',Inv X aA σ' H' s'/\Q σ' H') X.xe s
instance {X:Cx} {ts:AM} {t:TGs}:CoeFun (PGs X ts t) λ_=>
 (∀(aA:Ed) (s:Shared) (σ:St) (H:Hp) (vs:List V) (us:AG) (Q:St->Hp->Prop),Inv X aA σ H s->Vals vs us->t vs σ H Q ->
  wpAny (model X.prog X.w) X.A (assignInOrder ((assignEach ts X.env).map (·.2)) us) (λ_ s'=>∃σ' H',Inv X aA σ' H' s'/\Q σ' H') X.xe s):=⟨PGs.run⟩
abbrev dQ6:=V->V->V->Hp->(Hp->Prop)->Prop
def dS6 (X:Cx)(t:dQ6):Prop:=
 ∀(aA:Ed) (s:Shared) (σ:St) (H:Hp) (o i v:V) (ov iv u:Value) (Q:Hp->Prop),Inv X aA σ H s->RelV o ov->RelV i iv->RelV v u->t o i v H Q ->
  wpAny (model X.prog X.w) X.A (setItem ov iv u) (λ_ s'=>∃H',Inv X aA σ H' s'/\Q H') X.xe s
abbrev TIp:=V->V->Hp->VK->Prop
def PIp (X:Cx)(op:Operator)(t:TIp):Prop:=
 ∀(aA:Ed) (s:Shared) (σ:St) (H:Hp) (x y:V) (v u:Value) (Q:VK),Inv X aA σ H s->RelV x v->RelV y u->t x y H Q ->
  wpAny (model X.prog X.w) X.A (inplaceOp op v u) (EP X aA σ Q) X.xe s
section
def F5 (i:Nat):TG:=λv σ H Q=>Q (σ.set i (some v)) H
theorem E9 (hN:X.N.Nodup)(hi:X.N[i]? = some x)(j:Loc X.env.scope x)(z:X.fn x=true\/X.env.scope.names.lookup x=some .local:=by first | exact .inl rfl | exact .inr rfl | assumption):PG X (.Name x pos) (F5 i):=by
 refine⟨?_⟩;intro m s σ H v u Q I r h;exact wpAny_assign_Name (aU6 I hN hi j r (λY w=>⟨_,H,w,h⟩) z)
def aY4:TGs:=λvs σ H Q=>vs=[]/\Q σ H
def T0 (t:TG)(u:TGs):TGs:=λvs σ H Q=>∃v r,vs=v::r/\t v σ H λσ' H'=>u r σ' H' Q
theorem P3:PGs X [] aY4:=by
 refine⟨?_⟩;intro w s σ H vs z Q I r h;obtain⟨e,h⟩:=h;subst e;cases r;exact assignInOrder_nil ⟨σ,H,I,h⟩
theorem D5 (h1:PG X e t)(j:PGs X es u)
  (m:(assignEach (e::es) X.env).map (·.2)=assign e X.env::(assignEach es X.env).map (·.2):=by rfl):PGs X (e::es) (T0 t u):=by
 refine⟨?_⟩;intro w s σ H vs M Q I r h;obtain⟨v,N,e1,h⟩:=h;subst e1;cases r with
 | cons r rr=>
  rw[m];refine assignInOrder_cons (thn (h1 w s σ H _ _ _ I r h) λ_ U pz=>?_)
  obtain⟨J,H1,z,Y⟩:=pz;exact j w U J H1 _ _ Q z rr Y
def bJ6 (K:Frag)(n:Nat)(t:TGs):TG:=λv σ H Q=>∃a xs,v=.ref a/\SqT K H a xs/\xs.length=n/\t xs σ H Q
theorem T6 (J:X.calm=true)(h:PGs X es t)
  (N:(assignEach es X.env).length=n:=by rfl) (w:(assignEach es X.env).findIdx? (·.1)=none:=by rfl):PG X (.Tuple es k pos) (bJ6 X.K n t):=by
 refine⟨?_⟩;intro j s σ H v u Q I r z;obtain⟨a,xs,e1,R,M,z⟩:=z;subst e1;cases r;obtain⟨its,m,D,B⟩:=I.tuple R;refine assign_Tuple_tuple (I.ok.hd J) D (by simp[N,<- M,m.length]) w λU F=>?_
 have Y:Inv X j σ H {s with heap:=U}:=I.kept (t':=s.toks) λb o e=>F b o (Ab9 (Ab3 e)) e
 exact h j _ σ H xs _ Q Y (by simpa using m) z
def dH7 (to ti:TE)(t:dQ6):TG:=λv σ H Q=>to σ H λo H1=>ti σ H1 λi H2=>t o i v H2 λH3=>Q σ H3
theorem bT6 (ho:PE X o to)(hi:PE X i ti)(M:dS6 X t)
  (J:∀v,assign (.Subscript o i pos) X.env v=(do
   let ov <- holding [v] (eval o X.env)
   let iv <- holding [v,ov] (eval i X.env)
   standAt pos
   holding [v,ov,iv] (setItem ov iv v)
   release [v,ov,iv] []):=by intro _;rfl):PG X (.Subscript o i pos) (dH7 to ti t):=by
 refine⟨?_⟩;intro w s σ H v u Q I r h;rw[J];refine Aa (Bx (thn (ho w s σ H _ I h) λov P pz=>?_))
 obtain⟨x,H1,m,F,N⟩:=pz;refine Aa (Bx (thn (hi w P σ H1 _ m N) λiv s2 pz=>?_))
 obtain⟨y,z,Y,B,R⟩:=pz;refine Aa (wpAny_standAt (Aa (Bx (thn (M w s2 σ z x y v ov iv u _ Y F B r R) λ_ s3 pz=>?_))))
 obtain⟨j,U,D⟩:=pz;exact wpAny_release ⟨σ,j,U,D⟩
def aP5 (te:TE)(g:TG):TS:=λD σ H=>te σ H λx H1=>g x σ H1 D.nx
theorem aO8 (j:PE X e te)(m:PG X tg g)(Y:swapsWithSole [tg] e pos.line X.env=pure false:=by rfl)(U:swappedStores [tg] e X.env=pure none:=by rfl)
  (h1:(assignEach [tg] X.env).map (·.2)=[assign tg X.env]:=by rfl):PS X (.Assign [tg] e pos) (aP5 te g):=by
 refine⟨?_⟩;intro w s σ H D I h;refine wpAny_Assign_stores (thn (j w s σ H _ I h) λv N pz=>?_) Y U
 obtain⟨x,H1,z,M,J⟩:=pz;rw[h1];exact thn (m w N σ H1 x v _ z M J) λ_ R q=>q
theorem aO3 (hN:X.N.Nodup)(hi:X.N[i]? = some x)(J:Loc X.env.scope x)(m:PE X e te)(U:swapsWith e (some (.Name x pos')) pos.line X.env=pure false:=by rfl)(Y:X.fn x=true\/X.env.scope.names.lookup x=some .local:=by first | exact .inl rfl | exact .inr rfl | assumption) :
  PS X (.Assign [.Name x pos'] e pos) (aP5 te (F5 i)):=by
 refine⟨?_⟩;intro j s σ H D I h;refine wpAny_Assign_Name (thn (m j s σ H _ I h) λv Q pz=>?_) U
 obtain⟨y,H1,w,R,M⟩:=pz;exact aU6 w hN hi J R (λF z=>⟨_,H1,z,M⟩) Y
def dU9 (i:Nat)(te:TE)(ti:TIp):TS:=λD σ H=>∃x,σ[i]? = some (some x)/\te σ H λy H1=>ti x y H1 λz H2=>D.nx (σ.set i (some z)) H2
theorem dH1 (hN:X.N.Nodup)(hi:X.N[i]? = some x)(U:Loc X.env.scope x)(he:PE X e te)(ho:PIp X op ti)(hf:X.fn x=true\/X.env.scope.names.lookup x=some .local:=by first | exact .inl rfl | exact .inr rfl | assumption) :
  PS X (.AugAssign (.Name x pos') op e pos) (dU9 i te ti):=by
 refine⟨?_⟩;intro Y s σ H D I h;obtain⟨v,e1,h⟩:=h;obtain⟨m,hn,hl⟩:=I.loc;have J:Vis X.env.scope x:=by rcases U with k | k;exact .inl k;exact .inr (.inl k)
 obtain⟨u,r,l⟩:=hl i x v hi e1 J;refine wpAny_AugAssign_Name ?_;have M:wpAny (model X.prog X.w) X.A (eval e X.env) (λw s₂=>wpAny (model X.prog X.w) X.A (inplaceOp op u w) (λr s₃=>wpAny (model X.prog X.w) X.A (storeName X.env x r) (λ_=>SP X Y D .next) X.xe s₃) X.xe s₂) X.xe s:=by
  refine thn (he Y s σ H _ I h) λw s1 pz=>?_
  obtain⟨y,H1,Q,r1,q1⟩:=pz;refine thn (ho Y s1 σ H1 v y u w _ Q r r1 q1) λz s2 pz=>?_
  obtain⟨zv,R,F,r2,q2⟩:=pz;exact aU6 F hN hi U r2 (λs3 B=>⟨_,R,B,q2⟩) hf
 rcases l with⟨hk,hm⟩ | ⟨hk,c,P,j⟩
 .exact wpAny_loadName_local I.ok.kind hk hn hm M
 .rcases hk with hk | hk
  .exact wpAny_loadName_cell I.ok.kind hk P j M
  .rcases U with k | k
   .have:X.env.scope.names.lookup x=some .free:=hk
    rw[k]at this;cases this
   .have:X.env.scope.names.lookup x=some .free:=hk
    rw[k]at this;cases this
def ipI (f:Int->Int->Int):TIp:=λx y H Q=>∃i j,x=.int i/\y=.int j/\Q (.int (f i j)) H
theorem dI8:PIp X .Add (ipI λi j=>i+j):=by
 intro m s σ H x y v u Q I w z h;obtain⟨i,j,e1,e2,q⟩:=h;subst e1;subst e2;obtain⟨t,rfl⟩:=w;obtain⟨Y,rfl⟩:=z;exact iadd_int ⟨.int _,H,I.tok _,⟨_,rfl⟩,q⟩
end
section
def bS3 (c:TT)(tb:TS):TS:=λD σ H=>∃W:Nat->St->Hp->Prop,(∃m,W m σ H)/\∀m σ H,W m σ H ->
 c σ H λb H1=>if b=true then ∃N:St->Hp->Prop,(∀σ' H',N σ' H'->∃m',m'<m/\W m' σ' H')/\tb {D with nx:=N,ct:=N,bk:=D.nx} σ H1 else D.nx σ H1
theorem U6 (hp:PassesOwn (model X.prog X.w) X.A X.env X.xe)(hc:PT X c tc)(hb:PSs X body tb):PS X (.While c body [] pos) (bS3 tc tb):=by
 refine⟨?_⟩;intro M s σ H D I h;obtain⟨W,⟨m0,w0⟩,turn⟩:=h;refine wpAny_While (codeAny_whileLoop (λn s'=>∃σ' B,Inv X M σ' B s'/\W n σ' B) ?_ m0 ⟨σ,H,I,w0⟩)
 rintro n s1 ⟨U,H1,I1,w1⟩;refine wpAny_passesOwn hp (thn (hc M s1 U H1 _ I1 (turn n U H1 w1)) λb s2 pz=>?_)
 obtain⟨P,I2,m⟩:=pz;cases b with
 | true=>
  obtain⟨N,hN,m⟩:=m;rw[Ac rfl];refine wpAny_passesOwn hp (thn (hb M s2 U P _ I2 m) λf s3 Y=>?_)
  cases f with
  | next=>
   obtain⟨j,z,J,F⟩:=Y;obtain⟨Q,R,w3⟩:=hN j z F;exact⟨Q,R,j,z,J,w3⟩
  | cont=>
   obtain⟨j,z,J,F⟩:=Y;obtain⟨Q,R,w3⟩:=hN j z F;exact⟨Q,R,j,z,J,w3⟩
  | brk=>exact Y
  | ret v=>exact Y
 | false=>
  rw[Ab Ah];exact wpAny_execs_nil ⟨U,P,I2,m⟩
end
structure It where
 go:Nat->Hp->Prop
 yld:Nat->Hp->V->Hp->Prop
 stop:Nat->Hp->Prop
def aX7 (X:Cx)(aA:Ed)(H:Hp)(b:Addr):Prop:=
 H b=none/\b≠X.env.locals/\b∉X.fs/\(b∈X.ex\/X.s₀.heap.objs.size<=b)/\(∀x c,X.env.cells.lookup x=some c->c≠b)/\∀p∈X.pn++aA,p.1≠b
theorem Inv.fpOk (I:Inv X aA σ H s)(w:s.heap.objs.size<=b)(j:H' b=none):aX7 X aA H' b:=by
 refine⟨j,Nat.ne_of_gt (Ab8 I.lt w),I.nofs w,.inr (Bd I.sz w),λx c e z=>?_,λp hp z=>?_⟩
 .obtain⟨v,q⟩:=I.cell x c e;exact absurd (Ab8 q.lt (by rw[z];exact w)) (Ad9 _)
 .exact absurd (Ab8 (Ab3 (I.pin p hp).1) (by rw[z];exact w)) (Ad9 _)
structure bI2 (P:Program)(w:World)(K:Frag)(tg:Expr)(J:It)(fp:AL)(it:Addr)(tn:Nat->Heap->Prop):Prop where
 mem:it∈fp
 obj:∀i h,tn i h->∀b∈fp,∃o,h.get? b=some o/\∀v,o.data≠.cell v
 keep:∀i h h',tn i h->(∀b∈fp,∀o,h.get? b=some o->h'.get? b=some o)->tn i h'
 item:∀(X:Cx),X.prog=P->X.w=w->X.K=K->X.calm=true->∀(i:Nat) (aA:Ed) (s:Shared) (σ:St) (H:Hp) (E:Ec),Inv X aA σ H s->(∀b∈fp,aX7 X aA H b)->tn i s.heap->J.go i H ->
  wpAny (model P w) X.A (pyNext (.ref it)) (λr s1=>∃u,r=some u /\
   wpAny (model P w) X.A (letOwnedTupleGo tg (.ref it) u) (λ_ s2=>∃x H',Inv X aA σ H' s2/\RelV x u/\J.yld i H x H'/\tn (i+1) s2.heap/\∀b∈fp,H' b=none) E s1) E s
 done:∀(X:Cx),X.prog=P->X.w=w->X.K=K->X.calm=true->∀(i:Nat) (aA:Ed) (s:Shared) (σ:St) (H:Hp) (E:Ec),Inv X aA σ H s->(∀b∈fp,aX7 X aA H b)->tn i s.heap->J.stop i H ->
  wpAny (model P w) X.A (pyNext (.ref it)) (λr s1=>r=none/\Inv X aA σ H s1) E s
 self:∀(A:Around) (i:Nat) (s:Shared) (Q:Ec) (E:Ec),tn i s.heap->Q (.ref it) s->wpAny (model P w) A (pyIter (.ref it)) Q E s
abbrev TI:=St->Hp->(It->Hp->Prop)->Prop
def PIE (X:Cx)(aA:Ed)(σ:St)(tg:Expr)(R:It->Hp->Prop)(itv:Value)(s2:Shared):Prop:=
 ∃(it:Addr) (fp:AL) (tn:Nat->Heap->Prop) (J:It) (H':Hp),itv=.ref it/\Inv X aA σ H' s2/\bI2 X.prog X.w X.K tg J fp it tn/\tn 0 s2.heap/\(∀b∈fp,aX7 X aA H' b)/\R J H'
structure PI (X:Cx)(tg iter:Expr)(wi:TI):Prop where
 mk ::
 run :
  ∀(aA:Ed) (s:Shared) (σ:St) (H:Hp) (R:It->Hp->Prop),Inv X aA σ H s->wi σ H R ->
   wpAny (model X.prog X.w) X.A (eval iter X.env) (λv s1=>wpAny (model X.prog X.w) X.A (pyIter v) (PIE X aA σ tg R) X.xe s1) X.xe s
instance {X:Cx} {tg iter:Expr} {wi:TI}:CoeFun (PI X tg iter wi) λ_=>
 (∀(aA:Ed) (s:Shared) (σ:St) (H:Hp) (R:It->Hp->Prop),Inv X aA σ H s->wi σ H R ->
  wpAny (model X.prog X.w) X.A (eval iter X.env) (λv s1=>wpAny (model X.prog X.w) X.A (pyIter v) (PIE X aA σ tg R) X.xe s1) X.xe s):=⟨PI.run⟩
theorem cA1 (ho:s.heap.get? it=some o)(z:o.cls=.type n)(j:o.data=.fields vs)
  (m:["enumerate", "zip", "dict_itemiterator", "dict_reverseitemiterator", "odict_iterator", "itertools.zip_longest", "itertools.pairwise"].contains n=false) (w:Q () s):wpAny M A (letOwnedTupleGo tg (.ref it) u) Q E s:=by
 unfold letOwnedTupleGo;cases tg <;> first
  | exact Ae w
  | (cases u <;> first
    | exact Ae w
    | (refine Aa (wpAny_load ho ?_)
       rw[z,j];show wpAny M A (if(["enumerate", "zip", "dict_itemiterator", "dict_reverseitemiterator", "odict_iterator", "itertools.zip_longest", "itertools.pairwise"].contains n&&vs[0]? == some (rawInt _))=true then _ else _) Q E s;rw[Ab (by intro h;rw[m,Bool.false_and]at h;cases h)]
       exact Ae w))
def Itl (K:Frag)(a:Addr):It:=
 ⟨λi H=>∃xs x,SqL K H a xs/\xs[i]? = some x,λi H x H'=>H'=H/\∀xs,SqL K H a xs->xs[i]? = some x,λi H=>∃xs,SqL K H a xs/\xs.length<=i⟩
def Itt (K:Frag)(a:Addr):It:=
 ⟨λi H=>∃xs x,SqT K H a xs/\xs[i]? = some x,λi H x H'=>H'=H/\∀xs,SqT K H a xs->xs[i]? = some x,λi H=>∃xs,SqT K H a xs/\xs.length<=i⟩
def Itr (lo:Int)(n:Nat):It:=⟨λi _=>i<n,λi H x H'=>H'=H/\x=.int (lo+i),λi _=>n<=i⟩
theorem cE3 {P:Program}{w:World}{K:Frag}{tg:Expr}(a it:Addr):bI2 P w K tg (Itl K a) [it] it (λi h=>h.IsListIter it a i) where
 mem:=by simp
 obj:=λi h st b j=>by
  have e:b=it:=by simpa using j
  subst e;obtain⟨o,e,c,d⟩:=st;exact⟨o,e,λv z=>by rw[d]at z;cases z⟩
 keep:=λi h Y st k=>st.at λo e=>k it (by simp) o e
 item:=by
  intro X D B Q hc i aA s σ H E I U st F;subst D B Q;obtain⟨xs,x,J,hx⟩:=F;obtain⟨its,rv,p,hz⟩:=I.list J;obtain⟨u,hu,ru⟩:=rv.get hx;obtain⟨M,f1,f2,f3,N,R⟩:=U it (by simp)
  refine wpAny_pyNext_list_item st p.isList (x:=u) (by simpa using hu) λY m sb=>?_
  have I1:Inv X aA σ H {s with heap:=Y}:=I.turned (t':=s.toks) (λb o j e=>(sb.2 b j).trans e) M f1 f3 N R
  obtain⟨o,e,c,d⟩:=id m;exact⟨u,rfl,cA1 (s:={s with heap:=Y}) e c d (by decide) ⟨x,H,I1,ru,⟨rfl,λys hy=>by rw[I.list_inj hy J];exact hx⟩,m,λb j=>(U b j).1⟩⟩
 done:=by
  intro X D B Q hc i aA s σ H E I U st F;subst D B Q;obtain⟨xs,J,hx⟩:=F;obtain⟨its,rv,p,hz⟩:=I.list J;obtain⟨M,f1,f2,f3,N,R⟩:=U it (by simp)
  have hl:=rv.length
  exact wpAny_pyNext_list_end (I.ok.hd hc) st p.isList (by simp;lia) λY eb=>⟨rfl,I.turned (t':=s.toks) (λb o j e=>eb b o j e) M f1 f3 N R⟩
 self:=λ_ _ _ _ _ st h=>wpAny_pyIter_listiter st h
theorem bU1 {P:Program}{w:World}{K:Frag}{tg:Expr}(a it:Addr):bI2 P w K tg (Itt K a) [it] it (λi h=>h.IsTupleIter it a i) where
 mem:=by simp
 obj:=λi h st b j=>by
  have e:b=it:=by simpa using j
  subst e;obtain⟨o,e,c,d⟩:=st;exact⟨o,e,λv z=>by rw[d]at z;cases z⟩
 keep:=λi h Y st k=>st.at λo e=>k it (by simp) o e
 item:=by
  intro X D B Q hc i aA s σ H E I U st F;subst D B Q;obtain⟨xs,x,J,hx⟩:=F;obtain⟨its,rv,p,hz⟩:=I.tuple J;obtain⟨u,hu,ru⟩:=rv.get hx;obtain⟨M,f1,f2,f3,N,R⟩:=U it (by simp)
  refine wpAny_pyNext_tuple_item st (show s.heap.IsTuple a its.toArray from p) (x:=u) (by simpa using hu) λY m sb=>?_
  have I1:Inv X aA σ H {s with heap:=Y}:=I.turned (t':=s.toks) (λb o j e=>(sb.2 b j).trans e) M f1 f3 N R
  obtain⟨o,e,c,d⟩:=id m;exact⟨u,rfl,cA1 (s:={s with heap:=Y}) e c d (by decide) ⟨x,H,I1,ru,⟨rfl,λys hy=>by rw[I.tuple_inj hy J];exact hx⟩,m,λb j=>(U b j).1⟩⟩
 done:=by
  intro X D B Q hc i aA s σ H E I U st F;subst D B Q;obtain⟨xs,J,hx⟩:=F;obtain⟨its,rv,p,hz⟩:=I.tuple J;obtain⟨M,f1,f2,f3,N,R⟩:=U it (by simp)
  have hl:=rv.length
  exact wpAny_pyNext_tuple_end (I.ok.hd hc) st (show s.heap.IsTuple a its.toArray from p) (by simp;lia) λY eb=>⟨rfl,I.turned (t':=s.toks) (λb o j e=>eb b o j e) M f1 f3 N R⟩
 self:=λ_ _ _ _ _ st h=>wpAny_pyIter_tupleiter st h
theorem bU2 {P:Program}{w:World}{K:Frag}{tg:Expr}(it:Addr)(lo:Int)(n:Nat):bI2 P w K tg (Itr lo n) [it] it (λi h=>IsRangeIter h it (lo+(i:Nat)*1) ((n:Int)-(i:Nat)) 1) where
 mem:=by simp
 obj:=λi h st b j=>by
  have e:b=it:=by simpa using j
  subst e;exact⟨_,st,λv z=>by
   have z':Data.fields _=Data.cell v:=z
   cases z'⟩
 keep:=λi h Y st k=>k it (by simp) _ st
 item:=by
  intro X Q B R D i aA s σ H E I U st F;subst Q B R;obtain⟨J,f1,f2,f3,M,N⟩:=U it (by simp)
  have W:=Walks.range (prog:=X.prog) (w:=X.w) (I.ok.hd D) it lo 1 n
  refine W.item i s _ _ F st λv Y tk hv m kk=>?_
  obtain⟨t,rfl⟩:=hv;have I1:Inv X aA σ H {s with heap:=Y,toks:=tk}:=I.turned (λb o j e=>kk b o (by simpa using j) e) J f1 f3 M N
  refine⟨_,rfl,cA1 (s:={s with heap:=Y,toks:=tk}) (n := "range_iterator") m rfl rfl (by decide) ⟨.int (lo+i),H,I1,⟨t,?_⟩,⟨rfl,rfl⟩,m,λb j=>(U b j).1⟩⟩
  rw[Int.mul_one]
 done:=by
  intro X Q B R D i aA s σ H E I U st F;subst Q B R;obtain⟨J,f1,f2,f3,M,N⟩:=U it (by simp)
  exact wpAny_pyNext_range_end (I.ok.hd D) st (by have:n<=i:=F;lia) λY eb=>⟨rfl,I.turned (t':=s.toks) (λb o j e=>eb b o j e) J f1 f3 M N⟩
 self:=λ_ _ _ _ _ st h=>wpAny_pyIter_rangeiter st h
section
def dC9 (K:Frag)(tl:TE):TI:=λσ H R=>tl σ H λx H1=>∃a,x=.ref a/\(∃xs,SqL K H1 a xs)/\R (Itl K a) H1
def dS0 (K:Frag)(tl:TE):TI:=λσ H R=>tl σ H λx H1=>∃a,x=.ref a/\(∃xs,SqT K H1 a xs)/\R (Itt K a) H1
theorem M4 {l:Expr}{tl:TE}(Y:PE X l tl):PI X tg l (dC9 X.K tl):=by
 refine⟨?_⟩;intro j s σ H R I h;refine thn (Y j s σ H _ I h) λv z pz=>?_
 obtain⟨x,H1,w,M,J⟩:=pz;obtain⟨a,e,⟨xs,U⟩,q⟩:=J;subst e;cases M;obtain⟨its,Q,p,N⟩:=w.list U;refine wpAny_pyIter_list p.isList ?_;refine⟨z.heap.objs.size,[z.heap.objs.size],_,_,H1,rfl,w.kept (t':=z.toks) λb o e=>Aa6 _ e,cE3 a _,⟨_,Ac3 _ rfl,rfl,rfl⟩,λb m=>?_,q⟩
 have e:b=z.heap.objs.size:=by simpa using m
 subst e;exact w.fpOk (Aa7 _) (w.hok.fresh (Aa7 _))
theorem i6 {l:Expr}{tl:TE}(Y:PE X l tl):PI X tg l (dS0 X.K tl):=by
 refine⟨?_⟩;intro j s σ H R I h;refine thn (Y j s σ H _ I h) λv w pz=>?_
 obtain⟨x,H1,z,M,J⟩:=pz;obtain⟨a,e,⟨xs,U⟩,q⟩:=J;subst e;cases M;obtain⟨its,Q,p,N⟩:=z.tuple U;refine wpAny_pyIter_tuple (show w.heap.IsTuple a its.toArray from p) ?_
 refine⟨w.heap.objs.size,[w.heap.objs.size],_,_,H1,rfl,z.kept (t':=w.toks) λb o e=>Aa6 _ e,bU1 a _,⟨_,Ac3 _ rfl,rfl,rfl⟩,λb m=>?_,q⟩
 have e:b=w.heap.objs.size:=by simpa using m
 subst e;exact z.fpOk (Aa7 _) (z.hok.fresh (Aa7 _))
theorem bP8 {aA:Ed}{σ:St}{H:Hp}{s:Shared}{R:It->Hp->Prop}{E:Ec}{lo hi:Int}{t u v:Tok}{tk:Nat}(I:Inv X aA σ H s)(h1 : -(2^62)<=lo)(j:lo<2^62)(m : -(2^62)<=hi)(Y:hi<2^62)
  (q:R (Itr lo (hi-lo).toNat) H):wpAny (model X.prog X.w) X.A (pyIter (.ref s.heap.objs.size)) (PIE X aA σ tg R) E {s with heap:=s.heap.push {cls:=.type "range",data:=.fields #[.int lo t,.int hi u,.int 1 v]},toks:=tk}:=by
 refine wpAny_pyIter_range (IsRange.new ..) (small_one h1 j m Y) ?_;have z:Inv X aA σ H {s with heap:=s.heap.push {cls:=.type "range",data:=.fields #[.int lo t,.int hi u,.int 1 v]},toks:=tk}:=I.kept λb o e=>Aa6 _ e
 refine⟨(s.heap.push {cls:=.type "range",data:=.fields #[.int lo t,.int hi u,.int 1 v]}).objs.size,[(s.heap.push {cls:=.type "range",data:=.fields #[.int lo t,.int hi u,.int 1 v]}).objs.size],_,_,H,rfl,
  z.kept (t':=tk) λb o e=>Aa6 _ e,bU2 _ lo (hi-lo).toNat,?_,λb U=>?_,q⟩
 .have e1:lo+((0:Nat):Int)*1=lo:=by simp
  have e2:(((hi-lo).toNat:Nat):Int)-((0:Nat):Int)=Builtin.Range.rangeSize lo hi 1:=by rw[rangeSize_one];split <;> lia
  show IsRangeIter _ _ (lo+((0:Nat):Int)*1) ((((hi-lo).toNat:Nat):Int)-((0:Nat):Int)) 1
  rw[e1,e2];exact Ac3 _ rfl
 .have e:b=(s.heap.push {cls:=.type "range",data:=.fields #[.int lo t,.int hi u,.int 1 v]}).objs.size:=by simpa using U
  subst e;exact z.fpOk (Aa7 _) (z.hok.fresh (Aa7 _))
def dE3 (ta:TA):TI:=λσ H R=>ta σ H λvs H1=>∃j:Int,vs=[.int j] /\ -(2^62)<=j/\j<2^62/\R (Itr 0 j.toNat) H1
def dF7 (ta:TA):TI:=λσ H R=>ta σ H λvs H1=>∃i j:Int,vs=[.int i,.int j]/\(-(2^62)<=i/\i<2^62 /\ -(2^62)<=j/\j<2^62)/\R (Itr i (j-i).toNat) H1
theorem K2 {a:Expr}{ta:TA}{p pos:Pos}(U:Gl X "range")(J:X.mg "range" = none)(Y:PA X [a] ta)(M:starEach [a] X.env=[(false,eval a X.env)]:=by rfl):PI X tg (.Call (.Name "range" p) [a] [] pos) (dE3 ta):=by
 refine⟨?_⟩;intro m s σ H R I h;refine Call_ (V8 I U J boot_range (Az (thn (Y pos m s σ H _ I h) λF D pz=>?_) M rfl))
 obtain⟨vs,H1,z,Q,w⟩:=pz;obtain⟨j,e,w,N,q⟩:=w;subst e;cases Q with
 | cons r rr=>
  cases rr
  obtain⟨t,rfl⟩:=r;exact call_range_1 (bP8 z (by lia) (by lia) w N (by simpa using q))
theorem cE4 (J:Gl X "range")(M:X.mg "range" = none)(U:PA X [a,b] ta)(N:starEach [a,b] X.env=[(false,eval a X.env),(false,eval b X.env)]:=by rfl)(w:starEach [b] X.env=[(false,eval b X.env)]:=by rfl) :
  PI X tg (.Call (.Name "range" p) [a,b] [] pos) (dF7 ta):=by
 refine⟨?_⟩;intro Y s σ H R I h;refine Call_ (V8 I J M boot_range (Az (thn (U pos Y s σ H _ I h) λus s1 pz=>?_) (by rw[N,w]) (by rw[w];rfl)))
 obtain⟨vs,H1,m,P,z⟩:=pz;obtain⟨i,j,e,⟨z,Q,D,F⟩,q⟩:=z;subst e;cases P with
 | cons r rr=>
  cases rr with
  | cons B rr=>
   cases rr
   obtain⟨t,rfl⟩:=r;obtain⟨t',rfl⟩:=B;exact call_range_2 (bP8 m z Q D F q)
def dV0 (wi:TI)(g:TG)(tb:TS):TS:=λD σ H=>wi σ H λJ H1=>∃W:Nat->Nat->St->Hp->Prop,(∃m,W 0 m σ H1)/\∀i m σ H,W i m σ H ->
 (J.stop i H/\D.nx σ H)\/(J.go i H/\∃N:St->Hp->Prop,(∀σ' H',N σ' H'->∃m',m'<m/\W (i+1) m' σ' H')/\∀x H',J.yld i H x H'->g x σ H' λσ2 H2=>tb {D with nx:=N,ct:=N,bk:=D.nx} σ2 H2)
def p6 (fp:AL)(h:Heap):List (Addr×Obj):=fp.filterMap λb=>(h.get? b).map λo=>(b,o)
theorem m6 (w:b∈fp)(e:h.get? b=some o):(b,o)∈p6 fp h:=List.mem_filterMap.mpr ⟨b,w,by rw[e];rfl⟩
theorem bA3 (hp:p∈p6 fp h):p.1∈fp/\h.get? p.1=some p.2:=by
 obtain⟨b,w,e⟩:=List.mem_filterMap.mp hp;cases q:h.get? b with
 | none=>rw[q]at e;cases e
 | some o=>
  rw[q]at e;have e':(b,o)=p:=Ab4 e;subst e';exact⟨w,q⟩
theorem Inv.pinned (I:Inv X aA σ H s)(m:∀b∈fp,aX7 X aA H b)(ho:∀b∈fp,∃o,s.heap.get? b=some o/\∀v,o.data≠.cell v):Inv X (aA++p6 fp s.heap) σ H s:=
 I.pins_of λp hp=>(Aa0.mp hp).elim (λz=>I.pin p (Ac1 _ z)) λz=>by
  obtain⟨w,e⟩:=bA3 z;obtain⟨j,f1,f2,_⟩:=m p.1 w;obtain⟨o,e',d⟩:=ho p.1 w;rw[e]at e';cases e';exact⟨e,j,f1,f2,d⟩
theorem Inv.unpinned (I:Inv X (aA++pl) σ H s):Inv X aA σ H s:=I.pins_of λp hp=>I.pin p (Ac1 _ (Al _ hp))
theorem J8 (hp:PassesOwn (model X.prog X.w) X.A X.env X.xe)(hc:X.calm=true)(hi:PI X tg iter wi)(hg:PG X tg g)(U:PSs X body tb)
  (hs:∀x,foldedSetIterable iter X.env x=pure x:=by intro _;rfl):PS X (.For tg iter body [] pos) (dV0 wi g tb):=by
 refine⟨?_⟩;intro B s σ H D I h;refine wpAny_For (thn (hi B s σ H _ I h) λv s1 h1=>thn h1 λitv s2 h2=>?_) hs
 obtain⟨it,fp,tn,J,H2,e,I2,T,st2,f2,W,⟨m0,w0⟩,turn⟩:=h2;subst e;have M:∀{Q:Hp},(∀b∈fp,Q b=none)->∀b∈fp,aX7 X B Q b:=λhn b U=>⟨hn b U,(f2 b U).2⟩
 refine codeAny_forLoop_any (λn s'=>∃i σ' Q,Inv X B σ' Q s'/\tn i s'.heap/\(∀b∈fp,Q b=none)/\W i n σ' Q) ?_ m0 ⟨0,σ,H2,I2,st2,λb U=>(f2 b U).1,w0⟩
 rintro n s3 ⟨i,σ3,H3,I3,st3,fr3,w3⟩;rcases turn i n σ3 H3 w3 with⟨stop,qn⟩ | ⟨go,N,hN,step⟩
 .refine wpAny_passesOwn hp (thn (T.done X rfl rfl rfl hc i B s3 σ3 H3 X.xe I3 (M fr3) st3 stop) λr s4 ⟨hr,I4⟩=>?_)
  subst hr;exact wpAny_execs_nil ⟨σ3,H3,I4,qn⟩
 .refine wpAny_passesOwn hp (thn (T.item X rfl rfl rfl hc i B s3 σ3 H3 X.xe I3 (M fr3) st3 go) λr s4 ⟨u,hr,h4⟩=>?_)
  subst hr;refine wpAny_passesOwn hp (thn h4 λ_ s5 pz=>?_)
  obtain⟨x,H5,I5,r5,y5,P,fr5⟩:=pz;have I5':=I5.pinned (M fr5) (T.obj _ _ P);refine wpAny_passesOwn hp (thn (hg _ s5 σ3 H5 x u _ I5' r5 (step x H5 y5)) λ_ s6 pz=>?_)
  obtain⟨σ6,H6,I6,q6⟩:=pz;refine wpAny_passesOwn hp (thn (U _ s6 σ6 H6 _ I6 q6) λf s7 F=>?_)
  have Y:∀{R:St} {z:Hp},Inv X (B++p6 fp s5.heap) R z s7->N R z->∃m,m<n/\∃i σ' Q,Inv X B σ' Q s7/\tn i s7.heap/\(∀b∈fp,Q b=none)/\W i m σ' Q:=λ{R z} j n7=>by
   obtain⟨m',hm,w7⟩:=hN R z n7;refine⟨m',hm,i+1,R,z,j.unpinned,T.keep _ _ _ P λb U o e=>(j.pin (b,o) (Ac1 _ (Ac1 _ (m6 U e)))).1,λb U=>?_,w7⟩
   obtain⟨o,e,d⟩:=T.obj _ _ P b U;exact(j.pin (b,o) (Ac1 _ (Ac1 _ (m6 U e)))).2.1
  cases f with
  | next=>obtain⟨R,z,j,n7⟩:=F;exact Y j n7
  | cont=>obtain⟨R,z,j,n7⟩:=F;exact Y j n7
  | brk=>obtain⟨R,z,j,F⟩:=F;exact⟨R,z,j.unpinned,F⟩
  | ret v=>obtain⟨x7,R,z,j,r7,F⟩:=F;exact⟨x7,R,z,j.unpinned,r7,F⟩
end
abbrev R2:=V->V->Hp->VK->Prop
def OpR (X:Cx)(f:Value->Value->Sem Value)(r:R2):Prop:=
 ∀(aA:Ed) (s:Shared) (σ:St) (H:Hp) (x y:V) (v u:Value) (Q:VK),Inv X aA σ H s->RelV x v->RelV y u->r x y H Q ->
  wpAny (model X.prog X.w) X.A (f v u) (EP X aA σ Q) X.xe s
def UnR (X:Cx)(f:Value->Sem Value)(r:V->Hp->VK->Prop):Prop:=
 ∀(aA:Ed) (s:Shared) (σ:St) (H:Hp) (x:V) (v:Value) (Q:VK),Inv X aA σ H s->RelV x v->r x H Q ->
  wpAny (model X.prog X.w) X.A (f v) (EP X aA σ Q) X.xe s
def V2 (X:Cx)(f:Value)(r:List V->Hp->VK->Prop):Prop:=
 ∀(aA:Ed) (s:Shared) (σ:St) (H:Hp) (xs:List V) (us:AG) (Q:VK),Inv X aA σ H s->Vals xs us->r xs H Q ->
  wpAny (model X.prog X.w) X.A (call f us) (EP X aA σ Q) X.xe s
def tOp (r:R2)(ta tb:TE):TE:=λσ H Q=>ta σ H λx H1=>tb σ H1 λy H2=>r x y H2 Q
def tUn (r:V->Hp->VK->Prop)(ta:TE):TE:=λσ H Q=>ta σ H λx H1=>r x H1 Q
def rI (C:Int->Int->Prop)(g:Int->Int->V):R2:=λx y H Q=>∃i j,x=.int i/\y=.int j/\C i j/\Q (g i j) H
def rI0 (g:Int->Int->V):R2:=λx y H Q=>∃i j,x=.int i/\y=.int j/\Q (g i j) H
def rU (g:Int->V):V->Hp->VK->Prop:=λx H Q=>∃i,x=.int i/\Q (g i) H
section
theorem dJ9 (m:PE X a ta)(Y:PE X b tb){aA:Ed}{s:Shared}{σ:St}{H:Hp}{R:V->V->Hp->Prop}(I:Inv X aA σ H s)
  (h:ta σ H λx H1=>tb σ H1 λy H2=>R x y H2) {Q:Ec} {f:Value->Value->Sem Value}
  (U:∀v u s2 x y H2,Inv X aA σ H2 s2->RelV x v->RelV y u->R x y H2->wpAny (model X.prog X.w) X.A (f v u) Q X.xe s2) :
  wpAny (model X.prog X.w) X.A (eval a X.env) (λv s₁=>wpAny (model X.prog X.w) X.A (eval b X.env) (λu s₂=>wpAny (model X.prog X.w) X.A (f v u) Q X.xe s₂) X.xe s₁) X.xe s:=by
 refine thn (m aA s σ H _ I h) λv F pz=>?_
 obtain⟨x,H1,z,N,J⟩:=pz;refine thn (Y aA F σ H1 _ z J) λu s2 pz=>?_
 obtain⟨y,H2,j,D,M⟩:=pz;exact U v u s2 x y H2 j N D M
theorem B7 (ho:OpR X (binaryOp op) r)(m:PE X a ta)(Y:PE X b tb):PE X (.BinOp a op b pos) (tOp r ta tb):=by
 refine⟨?_⟩;intro j s σ H Q I h;exact wpAny_BinOp (dJ9 m Y I h λv u M x y w z U J q=>ho j M σ w x y v u Q z U J q)
theorem aF3 (ho:UnR X (unaryOp op) r)(j:PE X a ta):PE X (.UnaryOp op a pos) (tUn r ta):=by
 refine⟨?_⟩;intro w s σ H Q I h;exact UnaryOp_ (thn (j w s σ H _ I h) λv U ⟨x,H1,z,Y,m⟩=>ho w U σ H1 x v Q z Y m)
theorem opI {f:Value->Value->Sem Value}{C:Int->Int->Prop}{g:Int->Int->Int}
  (z:∀(i j:Int) (t u:Tok) (s:Shared) (Q:Ec) (E:Ec),C i j->Q (.int (g i j) s.toks) {s with toks:=s.toks+1}->wpAny (model X.prog X.w) X.A (f (.int i t) (.int j u)) Q E s) :
  OpR X f (rI C λi j=>.int (g i j)):=by
 intro M s σ H x y v u Q I Y U h;obtain⟨i,j,rfl,rfl,m,q⟩:=h;obtain⟨t,rfl⟩:=Y;obtain⟨J,rfl⟩:=U;exact z i j t J s _ _ m ⟨.int (g i j),H,I.tok _,⟨_,rfl⟩,q⟩
theorem dS8 {f:Value->Value->Sem Value}{g:Int->Int->Int}
  (z:∀(i j:Int) (t u:Tok) (s:Shared) (Q:Ec) (E:Ec),Q (.int (g i j) s.toks) {s with toks:=s.toks+1}->wpAny (model X.prog X.w) X.A (f (.int i t) (.int j u)) Q E s) :
  OpR X f (rI0 λi j=>.int (g i j)):=by
 intro J s σ H x y v u Q I m Y h;obtain⟨i,j,rfl,rfl,q⟩:=h;obtain⟨t,rfl⟩:=m;obtain⟨U,rfl⟩:=Y;exact z i j t U s _ _ ⟨.int (g i j),H,I.tok _,⟨_,rfl⟩,q⟩
theorem dK5 {f:Value->Value->Sem Value}{g:Int->Int->Bool}
  (z:∀(i j:Int) (t u:Tok) (s:Shared) (Q:Ec) (E:Ec),Q (.bool (g i j)) s->wpAny (model X.prog X.w) X.A (f (.int i t) (.int j u)) Q E s) :
  OpR X f (rI0 λi j=>.bl (g i j)):=by
 intro J s σ H x y v u Q I m Y h;obtain⟨i,j,rfl,rfl,q⟩:=h;obtain⟨t,rfl⟩:=m;obtain⟨U,rfl⟩:=Y;exact z i j t U s _ _ ⟨.bl (g i j),H,I,rfl,q⟩
def dW6 (i j:Int):Prop:=0<j/\j<1073741824
theorem J6:OpR X (binaryOp .Add) (rI0 λi j=>.int (i+j)):=dS8 λ_ _ _ _ _ _ _ q=>add_int q
theorem U2:OpR X (binaryOp .Sub) (rI0 λi j=>.int (i-j)):=dS8 λ_ _ _ _ _ _ _ q=>sub_int q
theorem aC6:OpR X (binaryOp .FloorDiv) (rI dW6 λi j=>.int (i / j)):=opI λi j _ _ _ _ _ w q=>by
 have h1:(0:Int)<j:=w.1
 have z:j<1073741824:=w.2
 exact floordiv_int (by lia) (by rw[Int.fdiv_eq_ediv_of_nonneg i (by lia)];exact q) (.inl (PyProof.noPylong_small (by lia)))
theorem T8:OpR X (binaryOp .Mod) (rI (λ_ j=>0<j) λi j=>.int (i % j)):=opI λi j _ _ _ _ _ w q=>by
 have h1:(0:Int)<j:=w
 exact mod_int' (by lia) (by rw[Int.fmod_eq_emod_of_nonneg i (by lia)];exact q)
theorem unI {f:Value->Sem Value}{g:Int->Int}
  (z:∀(i:Int) (t:Tok) (s:Shared) (Q:Ec) (E:Ec),Q (.int (g i) s.toks) {s with toks:=s.toks+1}->wpAny (model X.prog X.w) X.A (f (.int i t)) Q E s) :
  UnR X f (rU λi=>.int (g i)):=by
 intro m s σ H x v Q I j h;obtain⟨i,rfl,q⟩:=h;obtain⟨t,rfl⟩:=j;exact z i t s _ _ ⟨.int (g i),H,I.tok _,⟨_,rfl⟩,q⟩
theorem e5:UnR X (unaryOp .USub) (rU λi=>.int (-i)):=unI λ_ _ _ _ _ q=>neg_int q
end
def dQ9:V->V->Bool
 | .non,.non=>true | .non,.int _=>true | .int _,.non=>true | .non,.bl _=>true | .bl _,.non=>true | .non,.str _=>true | .str _,.non=>true
 | .int _,.int _=>true | .bl _,.bl _=>true | .str _,.str _=>true | .byt _,.byt _=>true
 | .int _,.str _=>true | .str _,.int _=>true | .bl _,.str _=>true | .str _,.bl _=>true
 | _,_=>false
def rEq:R2:=λx y H Q=>dQ9 x y=true/\Q (.bl (decide (x=y))) H
def rNe:R2:=λx y H Q=>dQ9 x y=true/\Q (.bl (!decide (x=y))) H
theorem cB4:decide (V.int i=V.int j)=(i==j):=by
 rw[Ck]
 simp
theorem cI2:decide (V.bl i=V.bl j)=(i==j):=by
 rw[Ck]
 simp
theorem bW4:decide (V.str i=V.str j)=(i==j):=by
 rw[Ck]
 simp
theorem bY3:decide (V.byt i=V.byt j)=(i.toList==j.toList):=by
 rw[Ck];cases i;cases j
 simp
section
theorem F8 (I:Inv X aA σ H s)(q:Q (.bl k) H)(e:k=k'):EP X aA σ Q (.bool k') s:=by
 subst e;exact⟨.bl k,H,I,rfl,q⟩
theorem aP9:OpR X (compareOp .Eq) rEq:=by
 intro U s σ H x y v u Q I Y w h;obtain⟨m,q⟩:=h;cases x with
 | non=>
  cases Y
  cases y with
  | non=>cases w;exact PySem.EqNone.eq_none_none (F8 I q (by simp))
  | bl j=>cases w;exact PySem.EqNone.eq_none_bool (F8 I q (by simp))
  | int j=>obtain⟨z,rfl⟩:=w;exact PySem.EqNone.eq_none_int (F8 I q (by simp))
  | str j=>obtain⟨z,rfl⟩:=w;exact PySem.EqNone.eq_none_str (F8 I q (by simp))
  | _=>exact absurd (show false=true from m) Ah
 | bl i=>
  cases Y
  cases y with
  | non=>cases w;exact PySem.EqNone.eq_bool_none (F8 I q (by simp))
  | bl j=>cases w;exact eq_bool (F8 I q cI2)
  | str j=>obtain⟨z,rfl⟩:=w;exact PySem.EqMixed.eq_bool_str (F8 I q (by simp))
  | _=>exact absurd (show false=true from m) Ah
 | int i=>
  obtain⟨t,rfl⟩:=Y;cases y with
  | non=>cases w;exact PySem.EqNone.eq_int_none (F8 I q (by simp))
  | int j=>obtain⟨z,rfl⟩:=w;exact eq_int (F8 I q cB4)
  | str j=>obtain⟨z,rfl⟩:=w;exact PySem.EqMixed.eq_int_str (F8 I q (by simp))
  | _=>exact absurd (show false=true from m) Ah
 | str i=>
  obtain⟨t,rfl⟩:=Y;cases y with
  | non=>cases w;exact PySem.EqNone.eq_str_none (F8 I q (by simp))
  | bl j=>cases w;exact PySem.EqMixed.eq_str_bool (F8 I q (by simp))
  | int j=>obtain⟨z,rfl⟩:=w;exact PySem.EqMixed.eq_str_int (F8 I q (by simp))
  | str j=>obtain⟨z,rfl⟩:=w;exact eq_str (F8 I q bW4)
  | _=>exact absurd (show false=true from m) Ah
 | byt i=>
  obtain⟨t,rfl⟩:=Y;cases y with
  | byt j=>obtain⟨z,rfl⟩:=w;exact PySem.W.eq_bytes (F8 I q bY3)
  | _=>exact absurd (show false=true from m) Ah
 | _=>cases y <;> exact absurd (show false=true from m) Ah
theorem dU2:OpR X (compareOp .NotEq) rNe:=by
 intro U s σ H x y v u Q I Y w h;obtain⟨m,q⟩:=h;cases x with
 | non=>
  cases Y
  cases y with
  | non=>cases w;exact PySem.EqNone.ne_none_none (F8 I q (by simp))
  | bl j=>cases w;exact PySem.EqNone.ne_none_bool (F8 I q (by simp))
  | int j=>obtain⟨z,rfl⟩:=w;exact PySem.EqNone.ne_none_int (F8 I q (by simp))
  | str j=>obtain⟨z,rfl⟩:=w;exact PySem.EqNone.ne_none_str (F8 I q (by simp))
  | _=>exact absurd (show false=true from m) Ah
 | bl i=>
  cases Y
  cases y with
  | non=>cases w;exact PySem.EqNone.ne_bool_none (F8 I q (by simp))
  | bl j=>cases w;exact ne_bool (F8 I q (congrArg not cI2))
  | str j=>obtain⟨z,rfl⟩:=w;exact PySem.EqMixed.ne_bool_str (F8 I q (by simp))
  | _=>exact absurd (show false=true from m) Ah
 | int i=>
  obtain⟨t,rfl⟩:=Y;cases y with
  | non=>cases w;exact PySem.EqNone.ne_int_none (F8 I q (by simp))
  | int j=>obtain⟨z,rfl⟩:=w;exact ne_int (F8 I q (congrArg not cB4))
  | str j=>obtain⟨z,rfl⟩:=w;exact PySem.EqMixed.ne_int_str (F8 I q (by simp))
  | _=>exact absurd (show false=true from m) Ah
 | str i=>
  obtain⟨t,rfl⟩:=Y;cases y with
  | non=>cases w;exact PySem.EqNone.ne_str_none (F8 I q (by simp))
  | bl j=>cases w;exact PySem.EqMixed.ne_str_bool (F8 I q (by simp))
  | int j=>obtain⟨z,rfl⟩:=w;exact PySem.EqMixed.ne_str_int (F8 I q (by simp))
  | str j=>obtain⟨z,rfl⟩:=w;exact ne_str (F8 I q (congrArg not bW4))
  | _=>exact absurd (show false=true from m) Ah
 | byt i=>
  obtain⟨t,rfl⟩:=Y;cases y with
  | byt j=>obtain⟨z,rfl⟩:=w;exact PySem.W.ne_bytes (F8 I q (congrArg not bY3))
  | _=>exact absurd (show false=true from m) Ah
 | _=>cases y <;> exact absurd (show false=true from m) Ah
theorem bC2:OpR X (compareOp .Lt) (rI0 λi j=>.bl (decide (i<j))):=dK5 λ_ _ _ _ _ _ _ q=>lt_int q
theorem dU0:OpR X (compareOp .LtE) (rI0 λi j=>.bl (decide (i<=j))):=dK5 λ_ _ _ _ _ _ _ q=>le_int q
theorem y4:OpR X (compareOp .Gt) (rI0 λi j=>.bl (decide (j<i))):=dK5 λ_ _ _ _ _ _ _ q=>gt_int q
theorem F6 (b:Expr)(h:op≠.In:=by decide)(w:op≠.NotIn:=by decide):behindInMarks op b=false:=by
 have e1:(op==CmpOp.In)=false:=by cases op <;> first | rfl | exact absurd rfl h
 have e2:(op==CmpOp.NotIn)=false:=by cases op <;> first | rfl | exact absurd rfl w
 cases b <;> simp[behindInMarks,e1,e2]
theorem l4 (ho:OpR X (compareOp op) r)(m:PE X a ta)(Y:PE X b tb)(U:behindInMarks op b=false):PE X (.Compare a [op] [b] pos) (tOp r ta tb):=by
 refine⟨?_⟩;intro j s σ H Q I h;exact wpAny_Compare1 (dJ9 m Y I h λv u N x y w z J M q=>ho j N σ w x y v u Q z J M q) U
def aD8 (t:TE):TT:=λσ H Q=>t σ H λx H'=>∃k,x=.bl k/\Q k H'
theorem C0 (ho:OpR X (compareOp op) r)(M:PE X a ta)(N:PE X b tb)(R:behindInMarks op b=false):PT X (.Compare a [op] [b] pos) (aD8 (tOp r ta tb)):=by
 refine⟨?_⟩;intro w s σ H Q I h;refine wpAny_isTrue_Compare1 (thn (M w s σ H _ I h) λv s1 ⟨x,H1,Y,P,D⟩=>thn (N w s1 σ H1 _ Y D) λu s2 ⟨y,j,U,r2,F⟩=>
  thn (ho w s2 σ j x y v u _ U P r2 F) λc s3 ⟨z,m,J,r3,k,e,B⟩=>?_) R
 subst e;cases r3;exact wpAny_truthy_bool ⟨m,J,B⟩
def cS3 (r r':R2)(ta tb tc:TE):TE:=λσ H Q=>ta σ H λx H1=>tb σ H1 λy H2=>r x y H2 λz H3=>∃k,z=.bl k /\
 (if k=true then tc σ H3 λw' H4=>r' y w' H4 Q else Q (.bl false) H3)
theorem cN5 (ho:OpR X (compareOp op) r)(j:OpR X (compareOp op') r')(B:PE X a ta)(P:PE X b tb)(hc:PE X c tc)
  (hm:lastMarks [op,op'] [b,c]=false:=by with_unfolding_all rfl):PE X (.Compare a [op,op'] [b,c] pos) (cS3 r r' ta tb tc):=by
 refine⟨?_⟩;intro w s σ H Q I h;refine Compare_chain (thn (B w s σ H _ I h) λv s1 ⟨x,H1,R,r1,q1⟩=>chain_link (thn (P w s1 σ H1 _ R q1) λu s2 ⟨y,M,D,J,q2⟩=>
  thn (ho w s2 σ M x y v u _ D r1 J q2) λd s3 ⟨z,m,Y,r3,k,e,U⟩=>?_)) hm
 subst e;cases r3;refine wpAny_truthy_bool ?_;cases k with
 | false=>exact ite_ff ⟨.bl false,m,Y,rfl,U⟩
 | true=>exact ite_tt (chain_last (thn (hc w s3 σ m _ Y U) λw' s4 ⟨z',N,F,r4,q4⟩=>j w s4 σ N y z' u w' Q F J r4 q4))
theorem aP6:(sizeLine:Nat)<2^63:=by rw[Du];decide
theorem X4 (r:Vals [x] us):∃u,us=[u]/\RelV x u:=by
 cases r with
 | cons w z=>cases z;exact⟨_,rfl,w⟩
theorem bD8:V2 X (.type "int") (λxs H Q=>(∃i,xs=[.int i]/\Q (.int i) H)\/∃k,xs=[.bl k]/\Q (.int (if k then 1 else 0)) H):=by
 intro z s σ H xs j Q I r h;rcases h with⟨i,rfl,q⟩ | ⟨k,rfl,q⟩
 .obtain⟨u,rfl,t,rfl⟩:=X4 r;exact call_int_int ⟨.int i,H,I,⟨_,rfl⟩,q⟩
 .obtain⟨u,rfl,w⟩:=X4 r;cases w;exact call_int_bool ⟨.int (if k then 1 else 0),H,I.tok _,⟨_,rfl⟩,q⟩
end
structure Cls (K:Frag)(C:Addr):Prop where
 pg:PySem.W.plainGet K C Str.empty=true
 hd:PySem.W.hasDictIn K C=true
 po:PySem.W.plainOver K C=true
 sa:PySem.W.findIn K (.ref C) "__setattr__" = some (some (.builtin "object.__setattr__"))
structure Room (k:Nat)(A:Around):Prop where
 hd:A.handled=none
 dp:A.depth+3*k+5<recursionLimit
 un:A.units+16*k+200<cLine
theorem Room.mono (r:Room k A)(h:j<=k):Room j A:=⟨r.hd,by have:=r.dp;lia,by have:=r.un;lia⟩
theorem Room.deeper (r:Room (k+1) A)(env:Env):Room k (A.deeper env):=
 ⟨r.hd,by have:=r.dp;show A.depth+1+3*k+5<_;lia,by have:=r.un;show A.units+3+16*k+200<_;lia⟩
theorem Room.depth (r:Room k A):A.depth<recursionLimit:=by have:=r.dp;lia
def O1:TA:=λ_ H Q=>Q [] H
def C9 (ta:TE)(tr:TA):TA:=λσ H Q=>ta σ H λx H1=>tr σ H1 λxs H2=>Q (x::xs) H2
section
theorem A5:PA X [] O1:=⟨λ_ _ _ _ H Q I h=>Calls.spliced_nil ⟨[],H,I,.nil,h⟩⟩
theorem cX4 (U:PE X e te)(J:PA X es t)(M:starEach (e::es) X.env=(false,eval e X.env)::starEach es X.env:=by rfl):PA X (e::es) (C9 te t):=by
 refine⟨?_⟩;intro w z s σ H Q I h;rw[M];show wpAny _ _ (spliced ((false,eval e X.env)::backTo w (starEach es X.env))) _ _ s;refine Calls.spliced_cons (thn (U z s σ H _ I h) λu B pz=>?_)
 obtain⟨x,H1,m,D,N⟩:=pz;exact thn (J w z B σ H1 _ m N) λus P ⟨xs,j,Y,F,R⟩=>⟨x::xs,j,Y,.cons D F,R⟩
def aL8 (t:TA):TE:=λσ H Q=>t σ H λxs H1=>xs.length<=sizeLine/\∀p,H1 p=none->Q (.ref p) (upd H1 p (.tup xs))
def dL7 (t:TA):TE:=λσ H Q=>t σ H λxs H1=>xs.length<=sizeLine/\∀p,H1 p=none->Q (.ref p) (upd H1 p (.lst xs))
theorem D3 (h:PA X es t):PE X (.Tuple es x1 pos) (aL8 t):=by
 refine⟨?_⟩;intro m s σ H Q I U;refine wpAny_Tuple_spliced (thn (h pos m s σ H _ I U) λJ w ⟨xs,H1,j,r,z,q⟩=>⟨by rw[<- r.length];exact z,?_⟩)
 have Y:H1 w.heap.objs.size=none:=j.hok.fresh (Aa7 _)
 refine⟨.ref w.heap.objs.size,upd H1 w.heap.objs.size (.tup xs),j.laid (t':=w.toks) (λb u e=>Aa6 _ e) (Aa7 _) ?_,rfl,q _ Y⟩
 exact⟨z,J,r,⟨_,Ac3 _ rfl,rfl,⟨_,rfl⟩,rfl⟩⟩
theorem D0 (h:PA X es t):PE X (.List es pos) (dL7 t):=by
 refine⟨?_⟩;intro m s σ H Q I U;refine wpAny_List_spliced (thn (h pos m s σ H _ I U) λJ w ⟨xs,H1,j,r,z,q⟩=>⟨by rw[<- r.length];exact z,?_⟩)
 have Y:H1 w.heap.objs.size=none:=j.hok.fresh (Aa7 _)
 refine⟨.ref w.heap.objs.size,upd H1 w.heap.objs.size (.lst xs),j.laid (t':=w.toks) (λb u e=>Aa6 _ e) (Aa7 _) ?_,rfl,q _ Y⟩
 exact⟨z,J,0,r,Ac3 _ rfl⟩
end
abbrev Sp:=List V->Hp->VK->XK->Prop
abbrev CXT:=List Env->Hp->Shared->XK->Value->Shared->Prop
structure dB2 (P:Program)(w:World)(K:Frag)(mg:Str->Option Value)(base:Heap)(A:Around)(outer:List Env)(s:Shared)(H:Hp):Prop where
 frames:A.frames=some outer
 mod:Mod K mg base
 bs:∀b o,base.get? b=some o->s.heap.get? b=some o/\H b=none
 bsz:base.objs.size<=s.heap.objs.size
 funs:s.heap.FunFrames base outer
 frf:∀b∈frs outer,H b=none
 hok:HOk P w H s.heap
 bare:AllBare s.gens
def CE (outer:List Env)(P:Program)(w:World)(H:Hp)(s:Shared)(Q:VK)(u:Value)(s':Shared):Prop:=
 ∃v H',s'.os=s.os/\AllBare s'.gens/\Un (frs outer) [] H H' s.heap s'.heap/\HOk P w H' s'.heap/\RelV v u/\Q v H'
def CR (CX:CXT)(outer:List Env)(P:Program)(w:World)(H:Hp)(s:Shared)(Q:VK)(E:XK)(r:Result)(s':Shared):Prop:=
 match r with
 | .ok (.ret u)=>CE outer P w H s Q u s'
 | .ok _=>False
 | .error e=>CX outer H s E e s'
structure K3 (P:Program)(w:World)(K:Frag)(mg:Str->Option Value)(base:Heap)(CX:CXT)(k:Nat)(f:Addr)(fd:FuncData)(ps:AH)(sp:Sp):Prop where
 len:∀vs H Q E,sp vs H Q E->vs.length=ps.length
 run:∀(A:Around) (outer:List Env) (s:Shared) (H:Hp) (args:Args) (us:AG) (vs:List V) (Q:VK) (E:XK),Room k A->dB2 P w K mg base A outer s H->BindsTo s fd args (ps.zip us)->Vals vs us->sp vs H Q E ->
  codeAny (model P w) A (.call (.ref f) args) (CR CX outer P w H s Q E) s
section
theorem Inv.env0 (I:Inv X aA σ H s):dB2 X.prog X.w X.K X.mg X.base X.A X.stack s H:=
 ⟨I.ok.frames,I.ok.mod,I.bs,Bd I.ok.bsz I.sz,I.stack,I.stkFree,I.hok,I.bare⟩
theorem Inv.after (I:Inv X aA σ H s)(h:CE X.stack X.prog X.w H s Q u s'):EP X aA σ Q u s':=by
 obtain⟨v,U,os,j,un,m,r,q⟩:=h;obtain⟨J,g,d,t,Y⟩:=s';obtain rfl:Y=s.os:=os;exact⟨v,U,I.call (h':=J) (g':=g) (d':=d) (t':=t) (ch:=[]) un m j (λb z=>absurd z (by simp)),r,q⟩
end
def Y7 (sp:Sp)(dvs:List V)(E:XK)(t:TA):TE:=λσ H Q=>t σ H λvs H1=>sp (vs++dvs) H1 Q E
def Binds (K:Frag)(fd:FuncData)(ps:AH)(ds:AG):Prop:=
 ∀(s:Shared) (us:AG),K.In s.heap->(us++ds).length=ps.length->BindsTo s fd ⟨us,[]⟩ (ps.zip (us++ds))
theorem Binds.all {K:Frag}{fd:FuncData}{ps:AH}(h:∀us:AG,us.length=ps.length->bindArgs fd ⟨us,[]⟩=pure (ps.zip us)):Binds K fd ps []:=λs us _ w=>by
 rw[Bq]at w ⊢;exact .of_eq (h us w)
def bT0 (CX:CXT)(X:Cx)(E:XK):Prop:=∀(aA:Ed) (σ:St) (H:Hp) (s:Shared) (e:Value) (s':Shared),Inv X aA σ H s->CX X.stack H s E e s'->X.xe e s'
section
theorem dK8 (F:K3 X.prog X.w X.K X.mg X.base CX k f fd ps sp)(J:Room k X.A)(m:Binds X.K fd ps ds)(Y:Vals dvs ds)(M:bT0 CX X E)
  (I:Inv X aA σ H s) (r:Vals vs us) (h:sp (vs++dvs) H Q E):wpAny (model X.prog X.w) X.A (call (.ref f) us) (EP X aA σ Q) X.xe s:=by
 have j:Vals (vs++dvs) (us++ds):=r.append Y
 have U:(us++ds).length=ps.length:=by rw[<- j.length];exact F.len _ _ _ _ h
 refine wpAny_call (codeAny_mono (F.run X.A X.stack s H ⟨us,[]⟩ (us++ds) (vs++dvs) Q E J I.env0 (m s us I.kIn U) j h) λr N z=>?_)
 cases r with
 | error e=>exact M aA σ H s e N I z
 | ok fl=>
  cases fl with
  | ret u=>exact I.after z
  | next=>exact False.elim z
  | brk=>exact False.elim z
  | cont=>exact False.elim z
theorem dB3 (F:K3 X.prog X.w X.K X.mg X.base CX k f fd ps sp)(P:Room k X.A)(R:Gl X x)(B:X.mg x=some (.ref f))(D:PySem.W.keepIn X.K (.ref f)=true)(J:Binds X.K fd ps ds)(M:Vals dvs ds)(hx:bT0 CX X E)
  (U:PA X (e::es) t) (z:(x==("__debug__" : Str))=false:=by decide) (N:starEach (e::es) X.env=(false,eval e X.env)::starEach es X.env:=by rfl) (j:(backTo pos (starEach es X.env)).any (·.1)=false:=by rfl) :
  PE X (.Call (.Name x p) (e::es) [] pos) (Y7 sp dvs E t):=by
 refine⟨?_⟩;intro Y s σ H Q I h;refine wpAny_Call_Name_kw (bX5 I R B ?_ z);refine PySem.W.callWith_K (h₀:=X.base) I.ok.mod.kin D (thn (U pos Y s σ H _ I h) λus s1 ⟨vs,H1,m,r,q⟩=>⟨m.kIn,?_⟩) N j
 exact dK8 F P J M hx m r q
end
structure C2 (N P:AH)(sc:Scope):Prop where
 kind:sc.kind=.function:=by rfl
 co:sc.isCoroutine=false:=by rfl
 gen:sc.isGenerator=false:=by rfl
 nd:N.Nodup:=by decide +kernel
 pre:N.take P.length=P:=by rfl
 par:∀x∈P,sc.names.lookup x=some .local\/sc.names.lookup x=some .cell:=by decide +kernel
 nofree:∀y∈sc.names,y.2≠.free:=by decide +kernel
theorem bB2 {kindOf:Str->Option NameKind}{x:Str}:∀{binds:List (Str×Value)} {m:Str->Option Value},(∀v,(x,v)∉binds)->bindL kindOf binds m x=m x
 | [],_,_=>rfl
 | (n,v)::r,m,h=>by
  unfold bindL;rw[bB2 λw z=>h w (Ad4 _ z)]
  split
  .have:x≠n:=by rintro rfl;exact h v Bl
   simp[this]
  .rfl
theorem bD1 {kindOf:Str->Option NameKind}{x:Str}:∀{binds:List (Str×Value)} {m:Str->Option Value},(∀v,(x,v)∉binds)->bindC kindOf binds m x=m x
 | [],_,_=>rfl
 | (n,v)::r,m,h=>by
  unfold bindC;rw[bD1 λw z=>h w (Ad4 _ z)]
  split
  .rfl
  .have:x≠n:=by rintro rfl;exact h v Bl
   simp[this]
theorem bB9 {kindOf:Str->Option NameKind}{x:Str}{v:Value}:∀{P:AH} {vs:AG} {i:Nat} {m:Str->Option Value},P.Nodup->P[i]? = some x->vs[i]? = some v->kindOf x=some .local ->
  bindL kindOf (P.zip vs) m x=some v
 | [],_,_,_,_,h,_,_=>by simp at h
 | _::_,[],_,_,_,_,h,_=>by simp at h
 | p::P,w::vs,0,m,nd,h1,h2,hk=>by
  simp at h1 h2;subst h1;subst h2
  show bindL kindOf ((p,w)::P.zip vs) m p=_
  unfold bindL;rw[bB2 λv z=>(Aa5.mp nd).1 (List.of_mem_zip z).1,Ac hk]
  simp
 | p::P,w::vs,i+1,m,nd,h1,h2,hk=>by
  show bindL kindOf ((p,w)::P.zip vs) m x=_
  unfold bindL;exact bB9 (i:=i) (Aa5.mp nd).2 (by simpa using h1) (by simpa using h2) hk
theorem bC5 {kindOf:Str->Option NameKind}{x:Str}{v:Value}:∀{P:AH} {vs:AG} {i:Nat} {m:Str->Option Value},P.Nodup->P[i]? = some x->vs[i]? = some v->kindOf x≠some .local ->
  bindC kindOf (P.zip vs) m x=some v
 | [],_,_,_,_,h,_,_=>by simp at h
 | _::_,[],_,_,_,_,h,_=>by simp at h
 | p::P,w::vs,0,m,nd,h1,h2,hk=>by
  simp at h1 h2;subst h1;subst h2
  show bindC kindOf ((p,w)::P.zip vs) m p=_
  unfold bindC;rw[bD1 λv z=>(Aa5.mp nd).1 (List.of_mem_zip z).1,Ab hk]
  simp
 | p::P,w::vs,i+1,m,nd,h1,h2,hk=>by
  show bindC kindOf ((p,w)::P.zip vs) m x=_
  unfold bindC;exact bC5 (i:=i) (Aa5.mp nd).2 (by simpa using h1) (by simpa using h2) hk
def Y6 (N:AH)(vs:List V):St:=vs.map some++List.replicate (N.length-vs.length) none
def bV1 (CX:CXT)(P:Program)(w:World)(K:Frag)(mg:Str->Option Value)(base:Heap)(N:AH)(qual:Str)(scope:Scope)(f:Addr)(cd:Value)(A:Around)(outer:List Env)(s:Shared)(H:Hp)(E:XK):Cx where
 prog:=P
 w:=w
 K:=K
 mg:=mg
 base:=base
 A:=A.deeper (envOfC qual scope s.heap.objs.size f cd)
 N:=N
 s₀:=s
 H₀:=H
 env:=envOfC qual scope s.heap.objs.size f cd
 outer:=outer
 stack:=envOfC qual scope s.heap.objs.size f cd::outer
 ex:=[]
 calm:=true
 fn:=λ_=>true
 pn:=[]
 xe:=λe s'=>wpAny (model P w) (A.deeper (envOfC qual scope s.heap.objs.size f cd)) (leaving (envOfC qual scope s.heap.objs.size f cd) e) (λ_ s''=>CX outer H s E e s'') (λe' s''=>CX outer H s E e' s'') s'
theorem bQ0 {sc:Scope}{n:Nat}{x:Str}(h:sc.names.lookup x=some .cell):∃c,(cellsFrom n sc.names []).lookup x=some c:=by
 have q:=PySem.W.cellsFrom_some sc.names n [] (.inl h)
 exact Option.isSome_iff_exists.mp q
theorem cF7 {CX:CXT}{P:Program}{w:World}{K:Frag}{mg:Str->Option Value}{base:Heap}{N ps:AH}{qual:Str}{scope:Scope}{f:Addr}{cd:Value}{A:Around}{outer:List Env}{s s1:Shared}{H:Hp}{E:XK}{us:AG}{vs:List V}
  (S:C2 N ps scope) (R:A.handled=none) (m:dB2 P w K mg base A outer s H) (B:vs.length=ps.length) (r:Vals vs us)
  (x:InCallC s s.heap.objs.size (bindL (envOfC qual scope s.heap.objs.size f cd).kindOf (ps.zip us) λ_=>none) (cellsFrom (s.heap.objs.size+1) scope.names []) (bindC (envOfC qual scope s.heap.objs.size f cd).kindOf (ps.zip us) λ_=>none) s1) :
  Inv (bV1 CX P w K mg base N qual scope f cd A outer s H E) [] (Y6 N vs) H s1:=by
 have Q:ps.length<=N.length:=by have:=congrArg List.length S.pre;rw[Ad1]at this;lia
 obtain⟨h1,tk,rfl,U⟩:=x.done;have Y:∀b:Addr,b∉(bV1 CX P w K mg base N qual scope f cd A outer s H E).ex:=λb z=>absurd (show b∈([]:AL) from z) (by simp)
 refine⟨⟨m.mod,S.kind,rfl,rfl,Aa7 _,λy z c h1 j=>?_,λy hy=>?_,λy c _ h=>?_,λ_=>R,Around.frames_deeper m.frames,.inr ⟨rfl,rfl⟩,λb z=>absurd z (Y b),m.bs,m.bsz,λb _ _=>Y b,λb z=>absurd z (Y b),m.funs,m.frf⟩,
  rfl,m.bare,Un.kept U,⟨_,x.toInCall.ns,λi y v h1 j F=>?_⟩,λy c h=>⟨_,x.cell y c h⟩,m.hok.fresh (Aa7 _),λy c h=>?_,λp hp=>absurd (show p∈([]:Ed) from hp) (by simp),m.hok.kept U,?_⟩
 .exact name_of_addr x.apart (PySem.mem_of_lookup h1) (PySem.mem_of_lookup j)
 .have hy:scope.names.lookup y=some .cell\/scope.names.lookup y=some .free:=hy
  rcases hy with hy | hy
  .exact bQ0 hy
  .exact absurd rfl (S.nofree _ (PySem.mem_of_lookup hy))
 .exact Cp (x.above y c (PySem.mem_of_lookup h))
 .have hi:i<vs.length:=by
   unfold Y6 at j;by_cases hi:i<vs.length
   .exact hi
   .rw[Br (by simpa using hi)]at j
    rw[Cs]at j;split at j <;> cases j
  have M:vs[i]? = some v:=by
   unfold Y6 at j;rw[Bk (by simpa using hi),Aa9]at j
   cases e:vs[i]? with
   | none=>rw[e]at j;cases j
   | some a=>rw[e]at j;cases j;rfl
  obtain⟨u,J,D⟩:=r.get M;have hp:ps[i]? = some y:=by
   rw[<- S.pre,List.getElem?_take_of_lt (by lia)];exact h1
  have X:ps.Nodup:=by rw[<- S.pre];exact S.nd.sublist (List.take_sublist _ _)
  refine⟨u,D,?_⟩;rcases S.par y (Av hp) with k | k
  .exact .inl ⟨k,bB9 X hp J k⟩
  .obtain⟨c,e⟩:=bQ0 (n:=s.heap.objs.size+1) k;refine .inr ⟨.inl k,c,e,?_⟩;have q:=x.cell y c e;rw[bC5 X hp J (by show scope.names.lookup y≠_;rw[k];decide)]at q
   exact q
 .exact m.hok.fresh (Cp (x.above y c (PySem.mem_of_lookup h)))
 .unfold Y6;show _=N.length;rw[Ab7,Aa3,Dh]
  lia
theorem dS1 {CX:CXT}{P:Program}{w:World}{K:Frag}{mg:Str->Option Value}{base:Heap}{k:Nat}{f:Addr}{name qual:Str}{params:Arguments}{body:List Stmt}{scope:Scope}{dV kV doc pm cdv ct oc:Value}{an od:AK}
  {osl:Array (Option Value)} {N ps:AH} {sp:Sp} (lk:K.lookup f=some ⟨oc,od,.func (PySem.W.fnOf name qual params body scope dV kV doc pm an cdv ct),osl⟩) (M:PySem.W.codeIn K cdv qual=true) (S:C2 N ps scope)
  (len:∀vs H Q E,sp vs H Q E->vs.length=ps.length)
  (z:∀(A:Around) (outer:List Env) (s:Shared) (H:Hp) (vs:List V) (Q:VK) (E:XK),Room k (A.deeper (envOfC qual scope s.heap.objs.size f cdv))->sp vs H Q E ->
   ∃t,PSs (bV1 CX P w K mg base N qual scope f cdv A outer s H E) body t/\t {nx:=λ_ H'=>Q .non H',rt:=Q} (Y6 N vs) H) :
  K3 P w K mg base CX (k+1) f (PySem.W.fnOf name qual params body scope dV kV doc pm an cdv ct) ps sp:=by
 refine⟨len,λA outer s H args us vs Q E R Y hb r X=>?_⟩
 have hl:=len _ _ _ _ X
 have KX:K.In s.heap:=Y.mod.kin.keeps λb o e=>(Y.bs b o e).1
 have D:s.heap.NoLimit:=Y.mod.nolimit.keeps λb o e=>(Y.bs b o e).1
 have j:∀y∈ps.zip us,scope.names.lookup y.1=some .local\/(scope.names.lookup y.1=some .cell/\((cellsFrom (s.heap.objs.size+1) scope.names []).lookup y.1).isSome=true):=by
  rintro⟨n,v⟩ hy;rcases S.par n (List.of_mem_zip hy).1 with q | q
  .exact .inl q
  .exact .inr ⟨q,PySem.W.cellsFrom_some _ _ _ (.inl q)⟩
 refine codeAny_call_function R.depth (KX _ _ lk) rfl S.co S.gen rfl (PySem.W.codeRec_of KX M) (hb _ _ _ _ ?_);refine wpAny_newFunctionEnv_cells S.kind j λenv he s1 x=>?_
 subst he;refine⟨D.keeps x.toInCall.keep,codeAny_func ?_⟩;obtain⟨t,ht,hq⟩:=z A outer s H vs Q E (R.deeper _) X;have I:Inv (bV1 CX P w K mg base N qual scope f cdv A outer s H E) [] (Y6 N vs) H s1:=cF7 S R.hd Y hl r x;refine wpAny_mono (ht [] s1 (Y6 N vs) H _ I hq) (λfl B m=>?_) λe B m=>m
 have fin:∀{U:St} {H':Hp} {v:V} {u:Value},Inv (bV1 CX P w K mg base N qual scope f cdv A outer s H E) [] U H' B->RelV v u->Q v H'->CE outer P w H s Q u B:=
  λ{U H' v u} J F q=>⟨v,H',J.os,J.bare,J.base,J.hok,F,q⟩
 cases fl with
 | ret u=>
  obtain⟨v,U,H',J,F,q⟩:=m;exact fin J F q
 | next=>
  obtain⟨U,H',J,q⟩:=m;exact fin (v:=V.non) (u:=Value.none) J rfl q
 | brk=>
  obtain⟨_,_,_,q⟩:=m;exact False.elim q
 | cont=>
  obtain⟨_,_,_,q⟩:=m;exact False.elim q
section
variable {X:Cx}{x:Str}{p pos:Pos}{e:Expr}{es:AM}{t:TA}{id T:String}{r:List V->Hp->VK->Prop}
def tCB (r:List V->Hp->VK->Prop)(t:TA):TE:=λσ H Q=>t σ H λvs H1=>r vs H1 Q
theorem B6 (U:V2 X (.builtin id) r)(M:Gl X x)(N:X.mg x=none)(D:bootBuiltins x=some (.builtin id))(Y:PA X (e::es) t)(R:x≠"__name__" := by decide)(w:(x==("__debug__" : Str))=false:=by decide)
  (J:starEach (e::es) X.env=(false,eval e X.env)::starEach es X.env:=by rfl) (z:(backTo pos (starEach es X.env)).any (·.1)=false:=by rfl):PE X (.Call (.Name x p) (e::es) [] pos) (tCB r t):=by
 refine⟨?_⟩;intro j s σ H Q I h;refine wpAny_Call_Name_kw (V8 I M N D ?_ R w);exact PyProof.Rows.callWith_builtin1 (thn (Y pos j s σ H _ I h) λus P ⟨vs,H1,m,B,F⟩=>U j P σ H1 vs us Q m B F) J z
theorem L4 (U:V2 X (.type T) r)(M:Gl X x)(N:X.mg x=none)(D:bootBuiltins x=some (.type T))(Y:PA X (e::es) t)(R:x≠"__name__" := by decide)(w:(x==("__debug__" : Str))=false:=by decide)
  (J:starEach (e::es) X.env=(false,eval e X.env)::starEach es X.env:=by rfl) (z:(backTo pos (starEach es X.env)).any (·.1)=false:=by rfl):PE X (.Call (.Name x p) (e::es) [] pos) (tCB r t):=by
 refine⟨?_⟩;intro j s σ H Q I h;refine wpAny_Call_Name_kw (V8 I M N D ?_ R w);exact Az (thn (Y pos j s σ H _ I h) λus P ⟨vs,H1,m,B,F⟩=>U j P σ H1 vs us Q m B F) J z
end
end L2
namespace HT
open PySem PyProof.Rows
def Y4:AD->AD->Bool
 | [],[]=>false
 | [],_::_=>true
 | _::_,[]=>false
 | x::xs,y::ys=>if x=y then Y4 xs ys else decide (x<y)
section
open PySem.SeqAt
open PySem.AutoSeq1 (wpAny_loadPart')
open PySem.MeetsSeq PySem.MeetsSeq2 PySem.MeetsSeq3
end
section
theorem cX8 (ht:IsTup s.heap t vs.toArray)(hb:IsTup s.heap b ws.toArray)(B:vs≠[])
  (h1:ws=[]->Q (.ref t) s) (h2:ws≠[]->Q (.ref s.heap.objs.size) {s with heap:=s.heap.push {cls:=.type "tuple",data:=.seq (vs++ws).toArray}})
  (hsz:vs.length+ws.length<=sizeLine):wpAny (model prog w) A (binaryOp .Add (.ref t) (.ref b)) Q E s:=by
 obtain⟨⟨cls,N,data,sl⟩,ho,R,n,D⟩:=id ht;obtain⟨⟨M,j,J,X⟩,z,m,P,Y⟩:=id hb;simp only at R D m Y;subst R D m Y;have e:vs.toArray++ws.toArray=(vs++ws).toArray:=by simp
 by_cases U:ws=[]
 .exact concat_meets ⟨_,ho,rfl⟩ ⟨_,z,rfl⟩ noFill_tuple_add seq_tuple_add PySem.F.slot_tuple_add PySem.F.entry_tuple_add (PySem.F.args_tuple_add_2 _ _)
   (tuple_addW1 t b vs.toArray ws.toArray n P N j sl X (by simpa using B) (by simp[U])) ⟨ho,z,h1 U⟩
 .refine concat_meets ⟨_,ho,rfl⟩ ⟨_,z,rfl⟩ noFill_tuple_add seq_tuple_add PySem.F.slot_tuple_add PySem.F.entry_tuple_add (PySem.F.args_tuple_add_2 _ _)
   (tuple_addW2 t b vs.toArray ws.toArray n P N j sl X (by simpa using B) (by simpa using U) (by rw[Ab2,Ab2];exact hsz)) ⟨ho,z,?_⟩
  rw[e];exact h2 U
def sIx (n d:Nat):Option Int->Nat
 | none=>d
 | some v=>if v<0 then(v+(n:Int)).toNat else min v.toNat n
theorem dM2 (n d:Nat)(z:d<=n)(o:Option Int):sIx n d o<=n:=by
 cases o with
 | none=>exact z
 | some v=>
  show(if v<0 then(v+(n:Int)).toNat else min v.toNat n)<=n
  by_cases w:v<0
  .rw[Ac w];lia
  .rw[Ab w];exact Nat.min_le_right _ _
theorem cA9 (v:Int)(n d:Nat):(if v<0 then max (v+(n:Int)) 0 else min v (n:Int))=((sIx n d (some v):Nat):Int):=by
 show(if v<0 then max (v+(n:Int)) 0 else min v (n:Int))=(((if v<0 then(v+(n:Int)).toNat else min v.toNat n):Nat):Int)
 by_cases w:v<0
 .simp only[Ac w];lia
 .simp only[Ab w];lia
theorem bR7 (lo hi:Option Int)(n:Nat):Builtin.Slice.sliceAdjust lo hi 1 (n:Int)=(((sIx n 0 lo:Nat):Int),((sIx n n hi:Nat):Int)):=by
 have h1:¬((1:Int)<0):=by lia
 unfold Builtin.Slice.sliceAdjust;simp only[h1,if_false];refine Prod.ext ?_ ?_
 .cases lo with
  | none=>rfl
  | some v=>exact cA9 v n 0
 .cases hi with
  | none=>rfl
  | some v=>exact cA9 v n n
theorem bR8 (i j:Nat):Builtin.Slice.slicePlaces (i:Int) (j:Int) 1=j-i:=by
 unfold Builtin.Slice.slicePlaces;have h1:(1:Int)>0:=by lia
 simp only[h1,if_true,Int.ediv_one];split <;> lia
theorem aV4 (p:IsPart v o)(h:Q o s):wpAny (model prog w) A (Builtin.Slice.slicePartIndex v) Q E s:=by
 cases p with
 | none=>exact slicePart_none h
 | int i t=>exact slicePart_int h
theorem j6 {sl:Addr}{vl vu:Value}{lo hi:Option Int}{n:Nat}{Q:Int×Int×Nat->Shared->Prop}(Y:s.heap.IsSliceOf sl vl vu .none)(X:IsPart vl lo)(U:IsPart vu hi)
  (h:Q (((sIx n 0 lo:Nat):Int),1,sIx n n hi-sIx n 0 lo) s):wpAny (model prog w) A (Builtin.Slice.sliceApplied (.ref sl) (pure (n:Int))) Q E s:=by
 obtain⟨os,j,m,z⟩:=id Y;unfold Builtin.Slice.sliceApplied Builtin.Slice.sliceFields;refine Aa (Aa (wpAny_field j z (x:=vl) rfl (Aa (wpAny_field j z (x:=vu) rfl (Aa (wpAny_field j z (x:=.none) rfl (Ae ?_)))))));refine Aa (slicePart_none ?_);show wpAny _ _ (if((1:Int)==0)=true then _ else _) _ _ s;rw[Ab (by decide)]
 refine Aa (aV4 X (Aa (aV4 U (Aa (Ae ?_)))));show wpAny _ _ (match Builtin.Slice.sliceAdjust lo hi 1 (n:Int) with | (lo,hi)=>pure (lo,(1:Int),Builtin.Slice.slicePlaces lo hi 1)) _ _ s
 rw[bR7 lo hi n];show wpAny _ _ (pure (((sIx n 0 lo:Nat):Int),(1:Int),Builtin.Slice.slicePlaces ((sIx n 0 lo:Nat):Int) ((sIx n n hi:Nat):Int) 1)) _ _ s;rw[bR8];exact Ae h
theorem cM7 (xs:AJ)(i k:Nat):((List.range k).filterMap λ(m:Nat)=>xs[((i:Int)+(m:Int)*1).toNat]?).toArray=((xs.toList.drop i).take k).toArray:=by
 have e:(λ(m:Nat)=>xs[((i:Int)+(m:Int)*1).toNat]?)=λm=>xs[i+m]? := by
  funext m
  have:((i:Int)+(m:Int)*1).toNat=i+m:=by lia
  rw[this]
 rw[e]
 have:=pick_run xs i k
 rw[Bb]at this;have e2:((λx=>xs[x]?) ∘ λx=>i+x)=λm=>xs[i+m]? := rfl
 rw[e2]at this;rw[this]
theorem aH7 {t sl:Addr}{items:AJ}{vl vu:Value}{lo hi:Option Int}{Q:Ec}(j:IsTup s.heap t items)(M:s.heap.IsSliceOf sl vl vu .none)(D:IsPart vl lo)(F:IsPart vu hi)
  (R:¬(sIx items.size 0 lo=0/\sIx items.size items.size hi=items.size))
  (h:Q (.ref s.heap.objs.size) {s with heap:=s.heap.push {cls:=.type "tuple",data:=.seq ((items.toList.drop (sIx items.size 0 lo)).take (sIx items.size items.size hi-sIx items.size 0 lo)).toArray}})
  (hsz:items.size<=sizeLine):wpAny (model prog w) A (getItem (.ref t) (.ref sl)) Q E s:=by
 have z:sizeOk (.seq ((items.toList.drop (sIx items.size 0 lo)).take (sIx items.size items.size hi-sIx items.size 0 lo)).toArray):=by
  show((items.toList.drop (sIx items.size 0 lo)).take (sIx items.size items.size hi-sIx items.size 0 lo)).toArray.size<=sizeLine
  rw[Ab2,Ad1,Bs,Ax]
  lia
 have B:sIx items.size items.size hi<=items.size:=dM2 _ _ (Aa7 _) hi
 obtain⟨os,J,X,N⟩:=id M;have Y:s.TypeIs (.ref sl) "slice" := ⟨os,J,X⟩;unfold getItem
 try with_reducible refine Bx ?_
 first | refine Aa (Ae ?_) | skip
 refine Aa (wpAny_sequenceKey j.typeIs (by decide) ?_)
 refine Aa (Cg (name:=Str.ofString "__getitem__") j.typeIs Bn
  (Cf Bn j.typeIs entry_tuple_getitem ?_ (args_tuple_getitem _ _)))
 show wpAny _ _ (Builtin.Tuple.tupleItemsOf (.ref t) >>= _) _ _ s
 refine Aa (tupleItemsOf_ j ?_);refine Aa (wpAny_typeOf Y ?_);rw[Ac (by decide)]
 refine Aa (j6 M D F ?_);have U:¬((((sIx items.size 0 lo:Nat):Int)==0&&(1:Int)==1&&(sIx items.size items.size hi-sIx items.size 0 lo)==items.size)=true):=by
  intro q;rw[Aq,Aq]at q;have P:((sIx items.size 0 lo:Nat):Int)=0:=eq_of_beq q.1.1;have q2:sIx items.size items.size hi-sIx items.size 0 lo=items.size:=eq_of_beq q.2;exact R ⟨by lia,by lia⟩
 show wpAny _ _ (if(((sIx items.size 0 lo:Nat):Int)==0&&(1:Int)==1&&(sIx items.size items.size hi-sIx items.size 0 lo)==items.size)=true then _ else _) _ _ s
 rw[Ab U,cM7];first
  | exact Aa (m:=Builtin.Tuple.tupleExact _) (Bu (Ae ⟨_,rfl,Ae h⟩) z)
  | exact Aa (m:=Builtin.Tuple.tupleExact _) (Bu (Aa (Ae (Ae ⟨_,rfl,Ae h⟩))) z)
  | exact Aa (Aa (m:=Builtin.Tuple.tupleExact _) (Bu (Ae (Ae ⟨_,rfl,Ae h⟩)) z))
  | exact Aa (Aa (m:=Builtin.Tuple.tupleExact _) (Bu (Ae ⟨_,rfl,Ae h⟩) z))
end
end HT
namespace L2
open PySem PySem.Spec PyProof.Rows
abbrev TO:=St->Hp->(Option Int->Hp->Prop)->Prop
structure PO (X:Cx)(e:Option Expr)(t:TO):Prop where
 mk ::
 run :
  ∀(aA:Ed) (s:Shared) (σ:St) (H:Hp) (Q:Option Int->Hp->Prop),Inv X aA σ H s->t σ H Q ->
   wpAny (model X.prog X.w) X.A (evalPart e X.env) (λu s'=>∃o H',Inv X aA σ H' s'/\IsPart u o/\Q o H') X.xe s
instance {X:Cx} {e:Option Expr} {t:TO}:CoeFun (PO X e t) λ_=>
 (∀(aA:Ed) (s:Shared) (σ:St) (H:Hp) (Q:Option Int->Hp->Prop),Inv X aA σ H s->t σ H Q ->
  wpAny (model X.prog X.w) X.A (evalPart e X.env) (λu s'=>∃o H',Inv X aA σ H' s'/\IsPart u o/\Q o H') X.xe s):=⟨PO.run⟩
def bV6:TO:=λ_ H Q=>Q none H
def dD0 (t:TE):TO:=λσ H Q=>t σ H λx H1=>∃i,x=.int i/\Q (some i) H1
section
variable {X:Cx}{e:Expr}{te:TE}{lo hi:Option Expr}{tl th:TO}{pos p2:Pos}
theorem aS4:PO X none bV6:=by
 refine⟨?_⟩;intro w s σ H Q I h;rw[evalPart_none];exact Ae ⟨none,H,I,.none,h⟩
theorem U3 (h:PE X e te):PO X (some e) (dD0 te):=by
 refine⟨?_⟩;intro z s σ H Q I j;rw[evalPart_some];refine thn (h z s σ H _ I j) λu U pz=>?_
 obtain⟨x,H1,w,Y,m⟩:=pz;obtain⟨i,rfl,q⟩:=m;obtain⟨t,rfl⟩:=Y;exact⟨some i,H1,w,.int i t,q⟩
def SlR (X:Cx)(r:V->Option Int->Option Int->Hp->VK->Prop):Prop:=
 ∀(aA:Ed) (s:Shared) (σ:St) (H:Hp) (x:V) (v vl vu:Value) (lo hi:Option Int) (sl:Addr) (Q:VK),Inv X aA σ H s->RelV x v->s.heap.IsSliceOf sl vl vu .none->IsPart vl lo->IsPart vu hi->r x lo hi H Q ->
  ∃T id,typeLookup (.type T) "__getitem__" = pure (some (.builtin id))/\s.TypeIs v T/\wpAny (model X.prog X.w) X.A (getItem v (.ref sl)) (EP X aA σ Q) X.xe s
def tSl (r:V->Option Int->Option Int->Hp->VK->Prop)(te:TE)(tl th:TO):TE:=λσ H Q=>te σ H λx H1=>tl σ H1 λl H2=>th σ H2 λu H3=>r x l u H3 Q
theorem X0 (hr:SlR X r)(B:PE X e te)(hl:PO X lo tl)(hu:PO X hi th):PE X (.Subscript e (.Slice lo hi none p2) pos) (tSl r te tl th):=by
 refine⟨?_⟩;intro j s σ H Q I h;refine Subscript_ (thn (B j s σ H _ I h) λv s1 pz=>?_)
 obtain⟨x,H1,M,r1,q1⟩:=pz;refine wpAny_Slice (thn (hl j s1 σ H1 _ M q1) λm s2 ⟨l,J,N,pl,q2⟩=>thn (hu j s2 σ J _ N q2) λY z pz=>?_)
 obtain⟨u,U,R,pu,q3⟩:=pz;rw[evalPart_none];refine Ae ?_;have D:Inv X j σ U {z with heap:=z.heap.push {cls:=.type "slice",data:=.fields #[m,Y,.none]}}:=R.kept (t':=z.toks) λb ob q=>Aa6 _ q
 obtain⟨T,id,F,ht,P⟩:=hr j {z with heap:=z.heap.push {cls:=.type "slice",data:=.fields #[m,Y,.none]}} σ U x v m Y l u z.heap.objs.size Q D r1 (Heap.IsSliceOf.new ..) pl pu q3
 show wpAny (model X.prog X.w) X.A (subscriptTail e (.Slice lo hi none p2) v (.ref z.heap.objs.size)) (EP X j σ Q) X.xe {z with heap:=z.heap.push {cls:=.type "slice",data:=.fields #[m,Y,.none]}}
 exact tail_any (ops:=[.ref z.heap.objs.size,v]) ht F P (by with_unfolding_all rfl)
def bJ1 (xs:List V)(lo hi:Option Int):List V:=(xs.drop (HT.sIx xs.length 0 lo)).take (HT.sIx xs.length xs.length hi-HT.sIx xs.length 0 lo)
theorem aQ8 (xs:List V)(lo hi:Option Int):(bJ1 xs lo hi).length<=xs.length:=by
 unfold bJ1;rw[Ad1,Bs]
 lia
def dV7 (K:Frag):V->Option Int->Option Int->Hp->VK->Prop:=λx lo hi H Q=>∃a xs,x=.ref a/\SqT K H a xs /\
 ¬(HT.sIx xs.length 0 lo=0/\HT.sIx xs.length xs.length hi=xs.length)/\∀p,H p=none->Q (.ref p) (upd H p (.tup (bJ1 xs lo hi)))
theorem dL0:SlR X (dV7 X.K):=by
 intro R s σ H x v B P lo hi F Q I N m J M h;obtain⟨a,xs,rfl,U,Y,q⟩:=h;cases N;obtain⟨its,r,z,j⟩:=I.tuple U;have w:its.toArray.size=xs.length:=by rw[Ab2];exact r.length.symm
 refine⟨"tuple",_,Bn.lookup,z.typeIs,?_⟩;refine HT.aH7 z m J M (by rw[w];exact Y) ?_ (by rw[w];exact j)
 rw[w];refine⟨.ref s.heap.objs.size,_,I.laid (t':=s.toks) (o:=.tup (bJ1 xs lo hi)) (λb D q=>Aa6 _ q) (Aa7 _) ?_,rfl,q _ (I.hok.fresh (Aa7 _))⟩
 exact⟨Bd (aQ8 xs lo hi) j,_,(r.drop (HT.sIx xs.length 0 lo)).take (HT.sIx xs.length xs.length hi-HT.sIx xs.length 0 lo),Tup0.nw _ _ _⟩
def cK8 (K:Frag):R2:=λx y H Q=>∃a b xs ys,x=.ref a/\y=.ref b/\SqT K H a xs/\SqT K H b ys/\xs≠[]/\xs.length+ys.length<=sizeLine /\
 (ys=[]->Q (.ref a) H)/\(ys≠[]->∀p,H p=none->Q (.ref p) (upd H p (.tup (xs++ys))))
theorem Vals.nil_iff (r:Vals xs us):us=[]↔xs=[]:=by
 cases r with
 | nil=>simp
 | cons _ _=>simp
theorem cX7:OpR X (binaryOp .Add) (cK8 X.K):=by
 intro aA s σ H x y v u Q I B P h;obtain⟨a,b,xs,ys,rfl,rfl,J,M,N,Y,D,F⟩:=h;cases B;cases P;obtain⟨its,m,R,_⟩:=I.tuple J;obtain⟨U,j,p2,_⟩:=I.tuple M;refine HT.cX8 R p2 (λz=>N (m.nil_iff.mp z)) (λz=>⟨.ref a,H,I,rfl,D (j.nil_iff.mp z)⟩) (λz=>?_) (by rw[<- m.length,<- j.length];exact Y)
 refine⟨.ref s.heap.objs.size,_,I.laid (t':=s.toks) (o:=.tup (xs++ys)) (λb ob q=>Aa6 _ q) (Aa7 _) ?_,rfl,F (λw=>z (j.nil_iff.mpr w)) _ (I.hok.fresh (Aa7 _))⟩
 exact⟨by rw[Ab7];exact Y,_,m.append j,Tup0.nw _ _ _⟩
end
def ixN (n:Nat)(i:Int):Option Nat:=if 0<=i then(if i<n then some i.toNat else none) else if -(n:Int)<=i then some (i+n).toNat else none
def atI {α:Type}(xs:List α)(i:Int):Option α:=(ixN xs.length i).bind λj=>xs[j]?
theorem bF0 (h:ixN n i=some j):seqIndex? i n=some j/\j<n /\ -(n:Int)<=i/\i<n:=by
 unfold ixN at h;by_cases w:0<=i
 .rw[Ac w]at h;by_cases h1:i<n
  .rw[Ac h1]at h;have e:i.toNat=j:=Ab4 h;exact⟨by rw[seqIndex_of w h1,e],by lia,by lia,h1⟩
  .rw[Ab h1]at h;cases h
 .rw[Ab w]at h;by_cases h1 : -(n:Int)<=i
  .rw[Ac h1]at h;have e:(i+n).toNat=j:=Ab4 h;exact⟨by rw[seqIndex_neg (by lia) h1,e],by lia,h1,by lia⟩
  .rw[Ab h1]at h;cases h
theorem bK1 (h:atI xs i=some v):∃j,seqIndex? i xs.length=some j/\xs[j]? = some v/\j<xs.length /\ -(xs.length:Int)<=i/\i<xs.length:=by
 unfold atI at h;cases e:ixN xs.length i with
 | none=>rw[e]at h;cases h
 | some j=>
  rw[e]at h;obtain⟨h1,w,z,m⟩:=bF0 e;exact⟨j,h1,h,w,z,m⟩
def cX5 (b:Expr):Prop:=∀o i,subscripted b false o i=operate [o,i] (getItem o i)
def IxR (X:Cx)(r:R2):Prop:=
 ∀(value slice:Expr) (aA:Ed) (s:Shared) (σ:St) (H:Hp) (x y:V) (v u:Value) (Q:VK),Inv X aA σ H s->RelV x v->RelV y u->r x y H Q ->
  subscripted slice false v u=operate [v,u] (getItem v u)->wpAny (model X.prog X.w) X.A (subscriptTail value slice v u) (EP X aA σ Q) X.xe s
def MtR (X:Cx)(id:String)(r:V->List V->Hp->VK->Prop):Prop:=
 ∀(aA:Ed) (s:Shared) (σ:St) (H:Hp) (x:V) (xs:List V) (v:Value) (us:AG) (Q:VK),Inv X aA σ H s->RelV x v->Vals xs us->r x xs H Q ->
  wpAny (model X.prog X.w) X.A (call (.builtin id) (v::us)) (EP X aA σ Q) X.xe s
section
variable {X:Cx}{a b:Expr}{ta tb:TE}{pos:Pos}
theorem IxR.or (h:IxR X r)(h':IxR X r'):IxR X (λx y H Q=>r x y H Q\/r' x y H Q):=by
 intro z w j s σ H x y v u Q I Y U q m;rcases q with q | q
 .exact h z w j s σ H x y v u Q I Y U q m
 .exact h' z w j s σ H x y v u Q I Y U q m
theorem B5 (U:IxR X r)(m:PE X a ta)(Y:PE X b tb)(J:cX5 b):PE X (.Subscript a b pos) (tOp r ta tb):=by
 refine⟨?_⟩;intro j s σ H Q I h;exact Subscript_ (dJ9 m Y I h λv u R x y w z M N q=>U a b j R σ w x y v u Q z M N q (J _ _))
def dP2 (K:Frag):R2:=λx y H Q=>∃p xs i v,x=.ref p/\y=.int i/\SqL K H p xs/\atI xs i=some v/\Q v H
def dU4 (K:Frag):R2:=λx y H Q=>∃p xs i v,x=.ref p/\y=.int i/\SqT K H p xs/\atI xs i=some v/\Q v H
def dQ1:R2:=λx y H Q=>∃z i c,x=.str z/\y=.int i/\z.length<=sizeLine/\atI z.cps.toList i=some c/\Q (.str ⟨#[c]⟩) H
theorem ix_list:IxR X (dP2 X.K):=by
 intro M J N s σ H x y v u Q I rx ry h F;obtain⟨p,xs,i,z,rfl,rfl,hq,he,q⟩:=h;cases rx;obtain⟨t,rfl⟩:=ry;obtain⟨its,r,Y,hz⟩:=I.list hq;obtain⟨j,h1,B,h3,P,h5⟩:=bK1 he;obtain⟨w,R,U⟩:=r.get B;have hl:=r.length;have hn:=aP6;have fin:EP X N σ Q w s:=⟨z,H,I,U,q⟩;by_cases D:0<=i
 .have m:i.toNat=j:=by
   rw[seqIndex_of D h5]at h1;exact Ab4 h1
  exact item_listR Y.isList D (by lia) (by rw[m];simpa using R) fin F
 .have m:(i+(its.toArray.size:Int)).toNat=j:=by
   rw[seqIndex_neg (by lia) P]at h1
   rw[Ab2,<- hl];exact Ab4 h1
  exact subscriptTail_builtinR (x:=w) Y.isList.typeIs slot_list_getitem.lookup
   (wpAny_getItem_list_neg (Q:=λr s'=>r=w/\EP X N σ Q r s') Y.isList (by lia) (by rw[Ab2] <;> lia) (by lia) (by rw[m];simpa using R) ⟨rfl,fin⟩) F
theorem ix_tup:IxR X (dU4 X.K):=by
 intro U Y J s σ H x y v u Q I rx ry h P;obtain⟨p,xs,i,z,rfl,rfl,B,D,q⟩:=h;cases rx;obtain⟨t,rfl⟩:=ry;obtain⟨its,r,M,hz⟩:=I.tuple B;obtain⟨j,h1,R,h3,h4,h5⟩:=bK1 D;obtain⟨w,N,m⟩:=r.get R;have F:=r.length;have hn:=aP6;have fin:EP X J σ Q w s:=⟨z,H,I,m,q⟩;exact subscriptTail_builtinR (x:=w) M.typeIs slot_tuple_getitem.lookup
  (getItem_tuple (j:=j) (Q:=λr s'=>r=w/\EP X J σ Q r s') M (by lia) (by lia) (by rw[Ab2,<- F];exact h1) (by simpa using N) ⟨rfl,fin⟩) P
theorem dG2:IxR X dQ1:=by
 intro m w B s σ H x y v u Q I D F h R;obtain⟨z,i,c,rfl,rfl,hz,M,q⟩:=h;obtain⟨t,rfl⟩:=D;obtain⟨t',rfl⟩:=F;obtain⟨j,h1,Y,P,U,J⟩:=bK1 M;have N:z.cps.toList.length=z.length:=by simp[Str.length]
 rw[N]at h1 U J;have hn:=aP6;exact tail_any (typeIs_str s z t) slot_str_getitem.lookup (getItem_str (c:=c) (by
  have e1:decide (i < -(2^63:Int))=false:=Ak (by lia)
  have e2:decide (i≥2^63)=false:=Ak (by lia)
  rw[e1,e2,Bool.or_false]) (by rw[h1];simpa using Y) ⟨.str ⟨#[c]⟩,H,I.tok _,⟨_,rfl⟩,q⟩) R
def rIx (K:Frag):R2:=λx y H Q=>dP2 K x y H Q\/dU4 K x y H Q\/dQ1 x y H Q
theorem D4:IxR X (rIx X.K):=ix_list.or (ix_tup.or dG2)
theorem bR9 (its:AG)(n j:Nat)(u:Value):Obj.mapSeq (·.setIfInBounds j u) {cls:=.type "list",data:=.seq its.toArray n}={cls:=.type "list",data:=.seq (its.set j u).toArray n}:=by
 simp[Obj.mapSeq]
theorem Inv.lst (I:Inv X aA σ H s)(h:H p=some (.lst xs)) :
  ∃(its:AG) (n:Nat),Vals xs its/\s.heap.get? p=some {cls:=.type "list",data:=.seq its.toArray n}/\xs.length<=sizeLine:=by
 obtain⟨z,its,n,r,e⟩:=I.hok p _ h;exact⟨its,n,r,e,z⟩
theorem Inv.lstUpd {aA:Ed}{σ:St}{H:Hp}{s:Shared}{p:Addr}{xs ys:List V}{its its':AG}{n n':Nat}{f:Obj->Obj}(I:Inv X aA σ H s)(h:H p=some (.lst xs))
  (ho:s.heap.get? p=some {cls:=.type "list",data:=.seq its.toArray n}) (w:f {cls:=.type "list",data:=.seq its.toArray n}={cls:=.type "list",data:=.seq its'.toArray n'}) (r:Vals ys its') (j:ys.length<=sizeLine) (t:Nat) :
  Inv X aA σ (upd H p (.lst ys)) {s with heap:=s.heap.update p f,toks:=t}:=by
 have e:(s.heap.update p f).get? p=some {cls:=.type "list",data:=.seq its'.toArray n'}:=by
  rw[Cv f ho (by rw[w] <;> rfl),w]
 refine I.write (x:=p) (e:=p) (by rw[h];trivial) (.inl rfl) (λb u z q=>(Ds _ _ (Ne.symm z)).trans q) ⟨_,e⟩ ?_
 exact⟨j,its',n',r,e⟩
def cO6:V->V->V->Hp->(Hp->Prop)->Prop:=λo i v H Q=>∃p xs k j,o=.ref p/\i=.int k/\H p=some (.lst xs)/\ixN xs.length k=some j/\Q (upd H p (.lst (xs.set j v)))
theorem aT1:dS6 X cO6:=by
 intro M s σ H o i v ov iv u Q I F D B h;obtain⟨p,xs,k,j,rfl,rfl,hp,N,q⟩:=h;cases F;obtain⟨t,rfl⟩:=D;obtain⟨its,n,r,ho,R⟩:=I.lst hp;obtain⟨h1,P,U,J⟩:=bF0 N;have z:=r.length;have hn:=aP6;have m:Inv X M σ (upd H p (.lst (xs.set j v))) {s with heap:=s.heap.update p (Obj.mapSeq (·.setIfInBounds j u))}:=
  I.lstUpd hp ho (bR9 its n j u) (r.set B j) (by rw[Dv];exact R) s.toks
 by_cases Y:0<=k
 .have w:k.toNat=j:=by
   rw[seqIndex_of Y J]at h1;exact Ab4 h1
  exact PySem.W.ki_setAt ho Y (by lia) (by rw[Ab2,<- z];exact J) (by rw[w];exact⟨_,m,q⟩)
 .have w:(k+(its.toArray.size:Int)).toNat=j:=by
   rw[seqIndex_neg (by lia) U]at h1
   rw[Ab2,<- z];exact Ab4 h1
  exact PySem.W.ki_setBack ho (by lia) (by rw[Ab2,<- z];exact U) (by lia) (by rw[w];exact⟨_,m,q⟩)
theorem bF2 (lo hi:Option Int)(n:Nat):(sliceBounds lo hi none n).1=((HT.sIx n 0 lo:Nat):Int)/\(sliceBounds lo hi none n).2.1=((HT.sIx n n hi:Nat):Int)/\(sliceBounds lo hi none n).2.2=1:=by
 refine⟨?_,?_,rfl⟩
 .cases lo with
  | none=>simp[sliceBounds,HT.sIx]
  | some i=>
   simp only[sliceBounds,HT.sIx,Option.getD_none,show(1:Int)>0 by decide,if_true]
   by_cases h:i<0
   .simp only[h,if_true] <;> lia
   .simp only[h,if_false] <;> lia
 .cases hi with
  | none=>simp[sliceBounds,HT.sIx]
  | some i=>
   simp only[sliceBounds,HT.sIx,Option.getD_none,show(1:Int)>0 by decide,if_true]
   by_cases h:i<0
   .simp only[h,if_true] <;> lia
   .simp only[h,if_false] <;> lia
theorem bA0 (its:AG)(lo hi:Option Int):slicePick its.toArray lo hi none=((its.drop (HT.sIx its.length 0 lo)).take (HT.sIx its.length its.length hi-HT.sIx its.length 0 lo)).toArray:=by
 obtain⟨h1,w,z⟩:=bF2 lo hi its.toArray.size;unfold slicePick;rw[h1,w,z];simp only[sliceRange_one,pick_run,Ab2] <;> rfl
def dL9 (K:Frag):V->Option Int->Option Int->Hp->VK->Prop:=λx lo hi H Q=>∃a xs,x=.ref a/\SqL K H a xs/\∀p,H p=none->Q (.ref p) (upd H p (.lst (bJ1 xs lo hi)))
theorem bE9:SlR X (dL9 X.K):=by
 intro N s σ H x v F B lo hi D Q I M j U J h;obtain⟨a,xs,rfl,m,q⟩:=h;cases M;obtain⟨its,r,z,Y⟩:=I.list m;have w:=r.length;refine⟨"list",_,slot_list_getitem.lookup,z.isList.typeIs,?_⟩;refine wpAny_getItem_list_slice z.isList j U J .none (by simp) ?_ (by rw[Ab2] <;> lia)
 rw[bA0,<- w];refine⟨.ref s.heap.objs.size,_,I.laid (t':=s.toks) (o:=.lst (bJ1 xs lo hi)) (λb R q=>Aa6 _ q) (Aa7 _) ?_,rfl,q _ (I.hok.fresh (Aa7 _))⟩
 exact⟨Bd (aQ8 xs lo hi) Y,_,0,(r.drop (HT.sIx xs.length 0 lo)).take (HT.sIx xs.length xs.length hi-HT.sIx xs.length 0 lo),Ac3 _ rfl⟩
theorem L8:V2 X (.builtin "len") (λxs H Q=>∃p ys,xs=[.ref p]/\(SqL X.K H p ys\/SqT X.K H p ys)/\Q (.int ys.length) H):=by
 intro U s σ H xs M Q I r h;obtain⟨p,ys,rfl,hq,q⟩:=h;obtain⟨u,rfl,Y⟩:=X4 r;cases Y;have J:=aP6;rcases hq with hq | hq
 .obtain⟨its,j,z,m⟩:=I.list hq;have w:=j.length;exact Calls.call_len_list z.isList (by simp only[Ab2] <;> lia) ⟨.int ys.length,H,I.tok _,⟨s.toks+1,by rw[Ab2,w]⟩,q⟩
 .obtain⟨its,j,z,m⟩:=I.tuple hq;have w:=j.length;exact len_tuple z (by simp only[Ab2] <;> lia) ⟨.int ys.length,H,I.tok _,⟨s.toks+1,by rw[Ab2,w]⟩,q⟩
theorem P9:V2 X (.type "tuple") (λxs H Q=>∃p ys,xs=[.ref p]/\((SqL X.K H p ys/\∀l,H l=none->Q (.ref l) (upd H l (.tup ys)))\/(SqT X.K H p ys/\Q (.ref p) H))):=by
 intro J s σ H xs F Q I r h;obtain⟨p,ys,rfl,h⟩:=h;obtain⟨u,rfl,D⟩:=X4 r;cases D;rcases h with⟨j,q⟩ | ⟨j,q⟩
 .obtain⟨its,Y,m,N⟩:=I.list j;have M:=Y.length;refine call_tuple_list m.isList (λz kp=>?_) (by simp only[Ab2] <;> lia)
  have U:Inv X J σ H {s with heap:=z}:=I.kept (t':=s.toks) kp
  have R:Inv X J σ (upd H z.objs.size (.tup ys)) {s with heap:=z.push {cls:=.type "tuple",data:=.seq its.toArray}}:=
   U.laid (t':=s.toks) (λb o e=>Aa6 _ e) (Aa7 _) (show ObjOk X.prog X.w _ _ _ (.tup ys) from⟨N,its,Y,Tup0.nw _ _ _⟩)
  exact⟨.ref z.objs.size,_,R,rfl,q _ (U.hok.fresh (Aa7 _))⟩
 .obtain⟨its,Y,m,N⟩:=I.tuple j;exact call_tuple_same m ⟨.ref p,H,I,rfl,q⟩
def tyV (K:Frag)(T:String)(x:V)(H:Hp):Prop:=match x with
 | .str _=>T = "str"
 | .int _=>T = "int"
 | .ref p=>(T = "list" /\ ∃xs,SqL K H p xs)\/(T = "tuple" /\ ∃xs,SqT K H p xs) \/
   (T = "dict" /\ ((∃kvs,H p=some (.dK kvs))\/∃kvs,H p=some (.dT kvs)))\/(T = "set" /\ ∃S n,H p=some (.set S n))
 | _=>False
theorem cS1 (I:Inv X aA σ H s)(r:RelV x v)(ty:tyV X.K T x H) :
  s.TypeIs v T/\∀a,v=.ref a->∃ob,s.heap.get? a=some ob/\ob.dict=none:=by
 cases x with
 | str z=>
  obtain⟨t,rfl⟩:=r;cases (show T = "str" from ty)
  exact⟨typeIs_str s z t,λ_ e=>nomatch e⟩
 | int i=>
  obtain⟨t,rfl⟩:=r;cases (show T = "int" from ty)
  exact⟨typeIs_int s i t,λ_ e=>nomatch e⟩
 | ref p=>
  cases r
  rcases ty with⟨rfl,xs,j⟩ | ⟨rfl,xs,j⟩ | ⟨rfl,w⟩ | ⟨rfl,S,n,w⟩
  .obtain⟨its,_,m,_⟩:=I.list j;refine⟨m.isList.typeIs,λa e=>?_⟩
   cases e
   obtain⟨o,n,e,c,J,_⟩:=m;exact⟨o,e,J⟩
  .obtain⟨its,_,M,_⟩:=I.tuple0 j;obtain⟨o,h1,Y,_,U⟩:=M;refine⟨⟨o,h1,Y⟩,λa e=>?_⟩
   cases e
   exact⟨o,h1,U⟩
  .have z:∃o,s.heap.get? p=some o/\o.ExactDict:=by
    rcases w with⟨kvs,w⟩ | ⟨kvs,w⟩
    .obtain⟨_,_,_,_,o,_,_,e,ex,_⟩:=I.hok p _ w;exact⟨o,e,ex⟩
    .obtain⟨_,_,_,_,o,_,_,e,ex,_⟩:=I.hok p _ w;exact⟨o,e,ex⟩
   obtain⟨o,e,ex⟩:=z;refine⟨⟨o,e,ex.1⟩,λa e2=>?_⟩
   cases e2
   exact⟨o,e,ex.2.1⟩
  .obtain⟨o,_,_,_,e,ex,_⟩:=I.hok p _ w;refine⟨⟨o,e,ex.1⟩,λa e2=>?_⟩
   cases e2
   exact⟨o,e,ex.2.1⟩
 | _=>exact False.elim ty
def cY6 (K:Frag)(T:String)(r:V->List V->Hp->VK->Prop)(to:TE):TE:=λσ H Q=>to σ H λx H1=>tyV K T x H1/\r x [] H1 Q
def tBM (K:Frag)(T:String)(r:V->List V->Hp->VK->Prop)(to:TE)(t:TA):TE:=λσ H Q=>to σ H λx H1=>tyV K T x H1/\t σ H1 λxs H2=>r x xs H2 Q
variable {o e:Expr}{es:AM}{to:TE}{t:TA}{name:Str}{apos cpos:Pos}{T id:String}{r:V->List V->Hp->VK->Prop}
theorem aF6 (pa:PlainAttrs T)(slot:Slot T name id)(j:typeOf (.builtin id)=pure (.type "method_descriptor"))(M:MtR X id r)(ho:PE X o to)
  (w:attributeBase o name X.env (eval o X.env)=eval o X.env:=by rfl) (z:(apos.endLine==cpos.line)=true:=by rfl):PE X (.Call (.Attribute o name apos) [] [] cpos) (cY6 X.K T r to):=by
 refine⟨?_⟩;intro Y s σ H Q I h;refine wpAny_Call_method0_late w z (thn (ho Y s σ H _ I h) λv R pz=>?_)
 obtain⟨x,H1,m,U,ty,N⟩:=pz;obtain⟨h1,J⟩:=cS1 m U ty;exact⟨T,id,pa,slot,j,h1,J,Calls.callWith_builtin rfl (PySem.evalArgs_none (M Y R σ H1 x [] v [] Q m U .nil N))⟩
theorem K0 (pa:PlainAttrs T)(slot:Slot T name id)(U:typeOf (.builtin id)=pure (.type "method_descriptor"))(P:MtR X id r)(ho:PE X o to)(B:PA X (e::es) t)
  (z:attributeBase o name X.env (eval o X.env)=eval o X.env:=by rfl)
  (m:((backTo cpos (starEach (e::es) X.env)).all (λx => !x.1)&&(backToKw cpos (keywordEach [] X.env)).all (λx=>x.1.isSome)
   && decide ((e::es).length+([]:List Keyword).length+(if([]:List Keyword).isEmpty then 0 else 1)<30))=true:=by rfl)
  (j:(apos.endLine==cpos.line)=true:=by rfl) (hs:starEach (e::es) X.env=(false,eval e X.env)::starEach es X.env:=by rfl) (w:(backTo cpos (starEach es X.env)).any (·.1)=false:=by rfl) :
  PE X (.Call (.Attribute o name apos) (e::es) [] cpos) (tBM X.K T r to t):=by
 refine⟨?_⟩;intro Y s σ H Q I h;refine wpAny_Call_method_late z m j rfl (thn (ho Y s σ H _ I h) λv s1 pz=>?_)
 obtain⟨x,H1,J,N,ty,q1⟩:=pz;obtain⟨h1,F⟩:=cS1 J N ty;refine⟨T,id,pa,slot,U,h1,F,?_⟩;have M:=B cpos Y s1 σ H1 _ J q1;rw[hs]at M ⊢;refine Calls.callWith_builtin (by show(false||(backTo cpos (starEach es X.env)).any (·.1))=false;rw[w] <;> rfl) (Calls.evalArgs_plain ?_)
 exact thn M λus s2 ⟨vs,R,D,r2,q2⟩=>P Y s2 σ R x vs v us Q D N r2 q2
end
def MtM (X:Cx)(id:String)(r:V->List V->Hp->VK->Prop):Prop:=
 ∀(aA:Ed) (s:Shared) (σ:St) (H:Hp) (x:V) (xs:List V) (v:Value) (us:AG) (Q:VK),Inv X aA σ H s->RelV x v->Vals xs us->r x xs H Q ->
  wpAny (model X.prog X.w) X.A (call (.builtin id) (v::us)) (EP X aA σ Q) X.xe s
theorem Vals.one:∀{x:V} {us:AG},Vals [x] us->∃u,us=[u]/\RelV x u
 | _,_,.cons r .nil=>⟨_,rfl,r⟩
theorem Vals.zero:∀{us:AG},Vals [] us->us=[]
 | _,.nil=>rfl
theorem Vals.dropLast {xs:List V}{us:AG}(h:Vals xs us):Vals xs.dropLast us.dropLast:=by
 induction h with
 | nil=>exact .nil
 | cons r t w=>
  cases t with
  | nil=>exact .nil
  | cons q z=>exact .cons r w
theorem Vals.eraseIdx:∀{xs:List V} {us:AG} (i:Nat),Vals xs us->Vals (xs.eraseIdx i) (us.eraseIdx i)
 | _,_,_,.nil=>.nil
 | _,_,0,.cons _ t=>t
 | _,_,i+1,.cons r t=>.cons r (Vals.eraseIdx i t)
theorem Vals.rep (h:Vals xs us):∀k:Nat,Vals (List.replicate k xs).flatten (List.replicate k us).flatten
 | 0=>.nil
 | k+1=>by
  rw[Bp,Bp,Ca,Ca];exact Vals.append h (Vals.rep h k)
theorem bT2 (l:List α):l.eraseIdx (l.length-1)=l.dropLast:=by
 induction l with
 | nil=>rfl
 | cons a r w=>
  cases r with
  | nil=>rfl
  | cons b r=>
   have e:(a::b::r).length-1=((b::r).length-1)+1:=by
    have h1:(a::b::r).length=r.length+2:=rfl
    have z:(b::r).length=r.length+1:=rfl
    lia
   rw[e,List.eraseIdx_cons_succ,w]
   all_goals rfl
theorem bB8:∀(l:List α) (i:Nat),(l.eraseIdx i).length<=l.length
 | [],_=>Aa7 _
 | _::_,0=>Nat.le_succ _
 | _::r,i+1=>Nat.succ_le_succ (bB8 r i)
theorem bB5 (its:AG):∀(k:Nat) (acc:AG),
  List.foldl (λx1 x2=>x1++x2) acc.toArray (List.replicate k its.toArray)=(acc++(List.replicate k its).flatten).toArray
 | 0,acc=>by simp
 | k+1,acc=>by
  have e:acc.toArray++its.toArray=(acc++its).toArray:=by simp
  have e2:(acc++its)++(List.replicate k its).flatten=acc++(List.replicate (k+1) its).flatten:=by
   rw[Bp,Ca,Ad7]
  rw[<- e2,<- bB5 its k (acc++its),<- e,Bp,List.foldl_cons]
section
theorem Inv.lset {its its':AG}{n:Nat}{f:AJ->AJ}{t':Nat}(I:Inv X aA σ H s)(w:H l=some (.lst xs))
  (e:s.heap.get? l=some {cls:=.type "list",data:=.seq its.toArray n}) (j:f its.toArray=its'.toArray) (Y:Vals ys its') (U:ys.length<=sizeLine) :
  Inv X aA σ (upd H l (.lst ys)) {s with heap:=s.heap.update l (Obj.mapSeq f),toks:=t'}:=by
 have q:=PySem.IsL.update e f
 rw[j]at q;refine I.write (x:=l) (e:=l) (by rw[w];exact trivial) (.inl rfl) (λJ u z m=>(Ds s.heap (Obj.mapSeq f) (Ne.symm z)).trans m) ⟨_,q⟩ ?_
 exact⟨U,its',_,Y,q⟩
theorem Inv.lnew (I:Inv X aA σ H s)(w:Vals ys its)(z:ys.length<=sizeLine) :
  Inv X aA σ (upd H s.heap.objs.size (.lst ys)) {s with heap:=s.heap.push {cls:=.type "list",data:=.seq its.toArray},toks:=t'}:=
 I.laid (λ_ _ q=>Aa6 _ q) (Aa7 _) ⟨z,its,0,w,Ac3 _ rfl⟩
theorem Inv.fresh (I:Inv X aA σ H s):H s.heap.objs.size=none:=I.hok.fresh (Aa7 _)
theorem Inv.lstM (I:Inv X aA σ H s)(w:H l=some (.lst xs)):xs.length<=sizeLine/\∃(its:AG) (n:Nat),Vals xs its/\xs.length=its.length/\s.heap.get? l=some {cls:=.type "list",data:=.seq its.toArray n}:=by
 obtain⟨z,its,n,r,e⟩:=I.hok l _ w;exact⟨z,its,n,r,r.length,e⟩
theorem bN4 (h:n<=sizeLine):Builtin.List.listTooLong n=false:=by
 unfold Builtin.List.listTooLong;exact Ak (by lia)
end
section
def aM7:V->List V->Hp->VK->Prop:=λx vs H Q=>∃l xs y,x=.ref l/\vs=[y]/\H l=some (.lst xs)/\xs.length<sizeLine/\Q .non (upd H l (.lst (xs++[y])))
theorem D2:MtM X "list.append" aM7:=by
 intro U s σ H x vs v N Q I Y m h;obtain⟨l,xs,y,rfl,rfl,w,M,q⟩:=h;cases Y;obtain⟨u,rfl,j⟩:=m.one;obtain⟨z,its,n,r,J,e⟩:=I.lstM w;refine call_meets F.slot_list_append ⟨_,e,rfl⟩ F.entry_list_append (F.args_list_append_2 _ _) (PySem.list_append l its.toArray n u (by rw[Ab2];lia)) ⟨e,?_⟩
 refine⟨.non,_,I.lset (its':=its++[u]) w e (by simp) (r.append (.cons j .nil)) ?_,rfl,q⟩
 rw[Ab7,List.length_singleton]
 lia
def bV7:V->List V->Hp->VK->Prop:=λx vs H Q=>∃l b xs zs,x=.ref l/\vs=[.ref b]/\H l=some (.lst xs)/\H b=some (.lst zs)/\xs.length+zs.length<=sizeLine/\Q .non (upd H l (.lst (xs++zs)))
theorem bB0:MtM X "list.extend" bV7:=by
 intro P s σ H x vs v us Q I B D h;obtain⟨l,b,xs,zs,rfl,rfl,Y,U,hz,q⟩:=h;cases B;obtain⟨u,rfl,R⟩:=D.one;cases R;obtain⟨z,its,n,r,hl,e⟩:=I.lstM Y;obtain⟨z2,w,M,N,J,e2⟩:=I.lstM U;have m:its.toArray.size+w.toArray.size<=sizeLine:=by rw[Ab2,Ab2];lia
 have j:¬(!its.toArray.isEmpty&&Builtin.List.listTooLong (its.toArray.size+w.toArray.size))=true:=by
  rw[bN4 m,Bool.and_false];exact Ah
 refine call_meets F.slot_list_extend ⟨_,e,rfl⟩ F.entry_list_extend (F.args_list_extend_2 _ _)
  (AutoSeq1.list_extend_list_list_0 l its.toArray n b w.toArray M j (by rw[Ab2];lia) (by lia)) ⟨e,e2,?_⟩
 refine⟨.non,_,I.lset (its':=its++w) Y e (by simp) (r.append N) ?_,rfl,q⟩
 rw[Ab7]
 lia
def dB5:V->List V->Hp->VK->Prop:=λx vs H Q=>∃l xs y,x=.ref l/\vs=[]/\H l=some (.lst xs)/\xs[xs.length-1]? = some y/\Q y (upd H l (.lst xs.dropLast))
theorem aH1:MtM X "list.pop" dB5:=by
 intro D s σ H x vs v B Q I R N h;obtain⟨l,xs,y,rfl,rfl,m,J,q⟩:=h;cases R;have w:=N.zero;subst w;obtain⟨z,its,n,r,Y,e⟩:=I.lstM m;obtain⟨u,U,M⟩:=r.get J;have j:its.toArray[its.toArray.size-1]? = some u:=by
  show its.toArray[its.length-1]? = some u
  rw[<- Array.getElem?_toList,<- Y];exact U
 refine call_meets F.slot_list_pop ⟨_,e,rfl⟩ F.entry_list_pop (F.args_list_pop_1 _) (MeetsSeq.list_pop_last l its.toArray n u j (by rw[Ab2];lia)) ⟨e,?_⟩
 refine⟨y,_,I.lset (its':=its.dropLast) m e ?_ r.dropLast ?_,M,q⟩
 .show its.toArray.eraseIdxIfInBounds (its.toArray.size-1)=its.dropLast.toArray
  rw[Ab2,List.eraseIdxIfInBounds_toArray,bT2]
 .rw[List.length_dropLast]
  lia
def cO1:V->List V->Hp->VK->Prop:=λx vs H Q=>∃l xs i k y,x=.ref l/\vs=[.int i]/\H l=some (.lst xs) /\ -(2^63)<=i/\i<2^63/\seqIndex? i xs.length=some k/\xs[k]? = some y/\Q y (upd H l (.lst (xs.eraseIdx k)))
theorem cR4:MtM X "list.pop" cO1:=by
 intro P s σ H x vs v us Q I B D h;obtain⟨l,xs,i,k,y,rfl,rfl,m,h1,Y,U,N,q⟩:=h;cases B;obtain⟨u,rfl,R⟩:=D.one;obtain⟨t,rfl⟩:=R;obtain⟨z,its,n,r,J,e⟩:=I.lstM m;obtain⟨w,M,j⟩:=r.get N;refine call_meets F.slot_list_pop ⟨_,e,rfl⟩ F.entry_list_pop (F.args_list_pop_2 _ _)
  (MeetsSeq.list_pop_at l its.toArray n i t k w (fitsIndex_both h1 Y) (by rw[Ab2,<- J];exact U) (by rw[<- Array.getElem?_toList];exact M) (by rw[Ab2];lia)) ⟨e,?_⟩
 refine⟨y,_,I.lset (its':=its.eraseIdx k) m e ?_ (r.eraseIdx k) ?_,j,q⟩
 .show its.toArray.eraseIdxIfInBounds k=(its.eraseIdx k).toArray
  rw[List.eraseIdxIfInBounds_toArray]
 .have:=bB8 xs k
  lia
def dT4:R2:=λx y H Q=>∃l k xs,x=.ref l/\y=.int k/\H l=some (.lst xs) /\ -(2^63)<=k/\k<2^63/\xs.length*k.toNat<=sizeLine /\
 ∀p,H p=none->Q (.ref p) (upd H p (.lst (List.replicate k.toNat xs).flatten))
theorem cV8 (xs:List α)(k:Nat):(List.replicate k xs).flatten.length=k*xs.length:=by
 induction k with
 | zero=>simp
 | succ k w=>rw[Bp,Ca,Ab7,w,Nat.succ_mul,Nat.add_comm]
theorem cO7:OpR X (binaryOp .Mult) dT4:=by
 intro aA s σ H x y v u Q I rx ry h;obtain⟨l,k,xs,rfl,rfl,hH,h1,P,D,q⟩:=h;cases rx;obtain⟨t,rfl⟩:=ry;obtain⟨z,its,n,r,hl,e⟩:=I.lstM hH;have J:its.toArray.size*k.toNat<=sizeLine:=by rw[Ab2,<- hl];exact D
 have j:¬its.toArray.size*k.toNat>(2^63-1) / 8:=by
  have:(sizeLine:Nat)<=(2^63-1) / 8:=by decide
  lia
 have Y:¬(!Builtin.List.listFitsIndex k)=true:=by
  rw[fitsIndex_both h1 P];exact Ah
 have w:¬Builtin.List.listTooLong (its.toArray.size*k.toNat)=true:=by
  rw[bN4 J];exact Ah
 have M:List.foldl (λN R=>N++R) #[] (List.replicate (if its.toArray.isEmpty=true then 0 else k.toNat) its.toArray)=(List.replicate k.toNat its).flatten.toArray:=by
  have B:∀m:Nat,List.foldl (λN R=>N++R) #[] (List.replicate m its.toArray)=(List.replicate m its).flatten.toArray:=λm=>by
   have:=bB5 its m []
   rw[List.nil_append]at this;exact this
  rw[B];cases its with
  | nil=>simp
  | cons a r'=>rw[Ab (by simp)]
 refine wpAny_binaryOp_repeat_ref (T := "list") (U := "int") (by decide) ⟨_,e,rfl⟩ (λs'=>typeIs_int s' k t) noFill_list_mul F.fills_int_mul F.slot_int_rmul repeat_list F.slot_int_index.lookup
  (call_meets F.slot_int_rmul (typeIs_int s k t) F.entry_int_rmul (F.args_int_rmul_2 _ _) (int___rmul___int_list k t l its.toArray n)
   ⟨e,rfl,⟨_,e,rfl⟩,call_meets F.slot_list_mul ⟨_,e,rfl⟩ F.entry_list_mul (F.args_list_mul_2 _ _) (AutoListH.list___mul___list_int_3 l its.toArray n k t Y j w) ⟨e,?_⟩⟩)
 rw[M];exact⟨.ref _,_,I.lnew (t':=s.toks) (r.rep k.toNat) (by rw[cV8,Nat.mul_comm];exact D),rfl,q _ I.fresh⟩
end
end L2
namespace Att
open PySem PySem.W PySem.Calls PyProof.Rows
theorem aR1:∀(ns:AD) (vs:AG),WellAll P h vs (ns.map WData.int)->IntsAre vs ns:=by
 intro ns;induction ns with
 | nil=>
  intro vs w;rw[Cj]at w;cases w;exact .nil
 | cons n ns ih=>
  intro vs w;rw[Ac7]at w;cases w with
  | cons a b=>
   cases a
   exact .cons _ _ (ih _ b)
theorem cD4 {l:OpenLaw}{n:Nat}(R:l.most=some n){P:Params}{h:Heap}{args:List WData}{vals:AG}
  (w:l.row.toRowW.claim.pre args=true) (U:WellAll P h vals args) :
  ∃a vs ns,vals=[Value.ref a]/\args=[WData.list (ns.map WData.int)]/\h.get? a=some {cls:=.type "list",data:=.seq vs.toArray}/\IntsAre vs ns/\ns.length<=n:=by
 have X:WShape.hasAll [] args [.list .int]=true:=(pre_splitW w).1
 have J:l.pre.holds [] {args:=args}=true:=(pre_splitW w).2
 obtain⟨d,r,rfl,h1,M⟩:=hasAllW_cons X;obtain rfl:=hasAllW_nil M;obtain⟨xs,rfl,N⟩:=hasW_list h1;obtain⟨ns,rfl⟩:=items_int N;have j:ns.length<=n:=by
  unfold OpenLaw.pre at J;have m:(WTm.not (.lt (.lit (.int (n:Int))) (.len (.arg 0)))).holds [] {args:=[.list (ns.map .int)]}=true:=by
   have m:=(holds_andW J).1
   rw[R]at m;exact m
  have Y:=condW_of m (w_not (w_lt w_lit (w_len_list (w_arg rfl))))
  rw[Aa3]at Y;refine Nat.le_of_not_lt λq=>?_
  have Q:(n:Int)<((ns.length:Nat):Int):=by lia
  first
   | (rw[As Q]at Y;exact absurd Y (by decide))
   | (simp at Y;lia)
 cases U with
 | cons D F=>
  cases F
  cases D with
  | list ho z=>exact⟨_,_,ns,rfl,rfl,ho,aR1 ns _ z,j⟩
theorem cE9 (l:OpenLaw)(args:List WData):l.row.toRowW.claim.post args (.bool true) args=true:=
 postW_of (r:=l.row.toRowW) (X:=(true==true))
  (show WShape.has [] (.bool true) .bool=true by first | rfl | decide | simp[WShape.has,WShape.arms,WShape.armsAll])
  (show(WTm.eq .res (.lit (.bool true))).value [] {args:=args,res:=some (.bool true),after:=args}=some (.bool (true==true)) from w_eq_bool (w_res rfl) w_lit) rfl
theorem bL6 {l:OpenLaw}{n:Nat}{q:Program}{loose:AH}{XP:(Str->Option Value)->Heap->Prop}{YP:World->Heap->Prop}{d:DefRec}
  (hn:l.most=some n) (J:d.params.defaults=[])
  (call:∀(w:World) (s₀ s₁:Shared) (mg mb:Str->Option Value) (fa:Addr) (o:Obj) (pm cd doc:Value) (a:Addr) (vs:AG) (ns:AD),
   Ground q loose [] XP w s₀ mg mb s₁.heap->YP w s₁.heap ->
   s₁.heap.get? fa=some o->o.data=.func (docDef d.name d.params d.body d.scope pm cd doc)->s₁.heap.CodeRec cd d.name->mg d.name=some (.ref fa) ->
   s₁.heap.get? a=some {cls:=.type "list",data:=.seq vs.toArray}->IntsAre vs ns->ns.length<=n->s₁.gens = #[] ->
   codeAny (model l.prog w) callerA (.call (.ref fa) ⟨[.ref a],[]⟩) (λr s'=>r=.ok (.ret (.bool true))/\OldK s₁.heap s'.heap/\s'.os=s₁.os/\AllBare s'.gens) s₁) :
  WalkO q loose XP YP l.row.toRowW d [] (λf vs=>PySem.call f vs):=by
 intro w s₀ s₁ mg mb G Y fa o pm cd doc B kV ho hd U Q M hg R F as X D hrd N hlo;obtain rfl:B=.none:=Dflts.none Q J;obtain rfl:kV=.none:=Dflts.noKw Q;obtain⟨a,vs,ns,rfl,rfl,m,z,j⟩:=cD4 hn X N;refine enter_call (codeAny_mono (call w s₀ s₁ mg mb fa o pm cd doc a vs ns G Y ho (fd_plain hd) U M m z j hg) λr s' hq=>?_)
 obtain⟨rfl,P,h3,h4⟩:=hq;exact⟨.inl ⟨.bool true,.bool true,[],rfl,λ_=>rfl,.bool true,cE9 l _,λ_=>⟨List.Pairwise.nil,λ_ hm=>(nomatch hm)⟩⟩,P,h3,h4⟩
section
def bU3 (h:Heap):Heap:={h with objs := #[]}
theorem Q2 (h:Heap)(b:Addr):(bU3 h).get? b=none:=by
 cases e:(bU3 h).get? b with
 | none=>rfl
 | some o=>exact absurd (Ab3 e) (Nat.not_lt_zero _)
theorem cK5 (n:h.Ns L m):Fr (bU3 h) L h m:=
 ⟨n,λb o e=>(by rw[Q2]at e;cases e),Ci _⟩
end
end Att
namespace L2
open PySem PySem.Spec PyProof.Rows
theorem O7:∀{vs:AG} {ns:AD},IntsAre vs ns->Vals (ns.map V.int) vs
 | _,_,.nil=>.nil
 | _,_,.cons n t h=>.cons ⟨t,rfl⟩ (O7 h)
def dK0 (H:Hp):Prop:=∀b,H b=none\/∃o xs,H b=some (.frz o (.lst xs))
theorem cQ8 {P:Program}{w:World}{K:Frag}{mg mb:Str->Option Value}{CX:CXT}{k:Nat}{fa a:Addr}{fd:FuncData}{x:Str}{sp:Sp}{s₁:Shared}{vs:AG}{ns:AD}
  (KX:K.In s₁.heap) (B:s₁.heap.Ns mainGlobals mg) (Y:s₁.heap.Ns builtinsNs mb) (hbb:∀x:Str,x≠"__name__" -> mb x=bootBuiltins x) (D:s₁.heap.NoLimit) (hg:s₁.gens = #[])
  (ha:s₁.heap.get? a=some {cls:=.type "list",data:=.seq vs.toArray}) (hi:IntsAre vs ns) (hl:ns.length<=sizeLine) (hr:Room k callerA)
  (F:∀base:Heap,K.In base->base.Ns mainGlobals mg->K3 P w K mg base CX k fa fd [x] sp) (J:∀(s:Shared) (u:Value),BindsTo s fd ⟨[u],[]⟩ [(x,u)])
  (hsp:∀H:Hp,dK0 H->SqL K H a (ns.map V.int)->sp [.ref a] H (λv _=>v=.bl true) λ_ _ _=>False)
  (hCX:∀H e s',CX [] H s₁ (λ_ _ _=>False) e s'->False) :
  codeAny (model P w) callerA (.call (.ref fa) ⟨[.ref a],[]⟩) (λr s'=>r=.ok (.ret (.bool true))/\OldK s₁.heap s'.heap/\s'.os=s₁.os/\AllBare s'.gens) s₁:=by
 have rv:=O7 hi
 have W3:=hi.length
 have U:∀H:Hp,dK0 H->SqL K H a (ns.map V.int)->HOk P w H s₁.heap->(∀b,H b≠none->b=a)->(H a≠none->K.lookup a=none) ->
   codeAny (model P w) callerA (.call (.ref fa) ⟨[.ref a],[]⟩) (λr s'=>r=.ok (.ret (.bool true))/\OldK s₁.heap s'.heap/\s'.os=s₁.os/\AllBare s'.gens) s₁:=by
  intro H hO hS hok hA hK;have j:∀{b:Addr} {o:Obj},s₁.heap.get? b=some o->H b=none->(bG5 s₁.heap H).get? b=some o:=λe n=>cS7 e n
  have noA:∀{b:Addr} {o:Obj} {R:Array DictEntry} {N:Nat},s₁.heap.get? b=some o->o.data=.dict R N->H b=none:=λ{b o R N} e d=>by
   cases q:H b with
   | none=>rfl
   | some u=>
    have e':b=a:=hA b (by rw[q];simp)
    subst e';rw[ha]at e;cases e;have d':Data.seq vs.toArray _=Data.dict R N:=d;cases d'
  have X:∀{b:Addr} {m:Str->Option Value},s₁.heap.Ns b m->(bG5 s₁.heap H).Ns b m:=λ{b m} ⟨o,R,N,e,d,r⟩=>⟨o,R,N,j e (noA e d),d,r⟩
  have Q:K.In (bG5 s₁.heap H):=λb o e=>j (KX b o e) (by
   cases q:H b with
   | none=>rfl
   | some u=>
    have e':b=a:=hA b (by rw[q];simp)
    subst e';rw[hK (by rw[q];simp)]at e;cases e)
  have hM:Mod K mg (bG5 s₁.heap H):=⟨Q,X B,⟨mb,X Y,hbb⟩,let ⟨mc,h1,h2⟩:=D;⟨mc,X h1,h2⟩⟩
  have e0:dB2 P w K mg (bG5 s₁.heap H) callerA [] s₁ H:=⟨rfl,hM,λb o e=>cU4 e,Nat.le_of_eq (cF4 _ _),trivial,λb Y=>absurd (show b∈([]:AL) from Y) (by simp),hok,.of_eq hg⟩
  refine codeAny_mono ((F _ Q (X B)).run callerA [] s₁ H ⟨[.ref a],[]⟩ [.ref a] [.ref a] _ _ hr e0 (J s₁ (.ref a)) (.cons rfl .nil) (hsp H hO hS)) λr s' h=>?_
  cases r with
  | error e=>exact(hCX H e s' h).elim
  | ok fl=>
   cases fl with
   | next=>exact False.elim h
   | brk=>exact False.elim h
   | cont=>exact False.elim h
   | ret u=>
    obtain⟨v,H',os,M,un,hok',r',q⟩:=h;have q':v=.bl true:=q;subst q';obtain rfl:u=Value.bool true:=r';refine⟨rfl,OldK.of_keep λb o e=>?_,os,M⟩
    cases q:H b with
    | none=>exact un.keep b o e q (by intro z;exact absurd (show b∈([]:AL) from z) (by simp)) (by simp)
    | some u=>
     rcases hO b with z | ⟨ob,xs,z⟩
     .rw[q]at z;cases z
     .have z2:=un.frzs b ob _ z
      obtain⟨e1,_⟩:=hok b _ z;obtain⟨e2,_⟩:=hok' b _ z2;rw[e]at e1;cases e1;exact e2
 cases hk:K.lookup a with
 | some o=>
  have e:=KX a o hk
  rw[ha]at e;cases e;refine U (λ_=>none) (λ_=>.inl rfl) (.inr ⟨_,vs.toArray,_,hk,rfl,rfl,rfl,by rw[Ab2,W3];exact hl,by simpa using rv⟩) (λb u z=>by have z':(none:Option HO)=some u:=z;cases z') (λb z=>absurd rfl z) λz=>absurd rfl z
 | none=>
  refine U (λb=>if b=a then some (.frz {cls:=.type "list",data:=.seq vs.toArray} (.lst (ns.map V.int))) else none) (λb=>?_) (.inl (.inr ⟨{cls:=.type "list",data:=.seq vs.toArray},Ac rfl⟩)) (λb u z=>?_) (λb z=>?_) λ_=>hk
  .by_cases Y:b=a
   .exact .inr ⟨_,_,Ac Y⟩
   .exact .inl (Ab Y)
  .by_cases Y:b=a
   .have z':=(Ac Y).symm.trans z
    cases z'
    subst Y;exact⟨ha,by rw[Aa3];exact hl,vs,_,rv,ha⟩
   .have z':=(Ab Y).symm.trans z
    cases z'
  .by_cases Y:b=a
   .exact Y
   .exact absurd (Ab Y) z
abbrev KOf {K:Frag}{h:Heap}(_:K.In h):Frag:=K
theorem cW2 {l:PySem.W.OpenLaw}{n k:Nat}{q:Program}{loose:AH}{XP:(Str->Option Value)->Heap->Prop}{YP:World->Heap->Prop}{d:DefRec}{K:Params->Frag}{CX:World->CXT}{sp:World->Sp}{x:Str}
  (hn:l.most=some n) (M:n<=sizeLine) (U:d.params.defaults=[]) (hr:Room k callerA)
  (hY:∀(w:World) (h:Heap),YP w h->(K w.params).In h)
  (F:∀(w:World) (mg:Str->Option Value) (fa:Addr) (h:Heap),(K w.params).In h->h.Ns mainGlobals mg->mg d.name=some (.ref fa) ->
   ∃fd:FuncData,(∀(s:Shared) (u:Value),BindsTo s fd ⟨[u],[]⟩ [(x,u)]) /\
    ∀base:Heap,(K w.params).In base->base.Ns mainGlobals mg->K3 l.prog w (K w.params) mg base (CX w) k fa fd [x] (sp w))
  (N:∀(w:World) (H:Hp) (a:Addr) (ns:AD),ns.length<=n->dK0 H->SqL (K w.params) H a (ns.map V.int)->sp w [.ref a] H (λv _=>v=.bl true) λ_ _ _=>False)
  (X:∀(w:World) (H:Hp) (s:Shared) (e:Value) (s':Shared),CX w [] H s (λ_ _ _=>False) e s'->False) :
  PySem.W.WalkO q loose XP YP l.row.toRowW d [] (λf vs=>PySem.call f vs):=by
 refine Att.bL6 hn U λw s₀ s₁ mg mb fa o pm cd Q a vs ns G Y ho hd hcd J m j z hg=>?_
 have R:=hY w _ Y
 obtain⟨fd,hb,D⟩:=F w mg fa _ R G.T.g J;exact cQ8 R G.T.g G.T.b G.T.builtins G.T.nolimit hg m j (Bd z M) hr D hb (λH B P=>N w H a ns z B P) λH e s'=>X w H s₁ e s'
def a8 (s:Stmt):Arguments:=match s with
 | .FunctionDef _ a _ _ _ _ _ _ _ _=>a
 | _=>{posonlyargs:=[],args:=[],vararg:=none,kwonlyargs:=[],kw_defaults:=[],kwarg:=none,defaults:=[]}
def W5 (s:Stmt):List Stmt:=match s with
 | .FunctionDef _ _ b _ _ _ _ _ _ _=>b
 | _=>[]
def B3 (s:Stmt):Scope:=match s with
 | .FunctionDef _ _ _ _ _ _ sc _ _ _=>sc
 | _=>{kind:=.function,names:=[],isGenerator:=false,isCoroutine:=false}
abbrev CX0:CXT:=λ_ _ _ _ _ _=>False
abbrev E0:XK:=λ_ _ _=>False
theorem dT0:bT0 CX0 X E0:=λ_ _ _ _ _ _ _ h=>h.elim
structure Fun (K:Frag)(x qual:Str)(st:Stmt)(f:Addr)(fd:FuncData):Prop where
 ex:∃(oc:Value) (od:AK) (kV doc pm:Value) (an:AK) (cdv ct:Value) (osl:Array (Option Value)),
  fd=PySem.W.fnOf x qual (a8 st) (W5 st) (B3 st) .none kV doc pm an cdv ct/\K.lookup f=some ⟨oc,od,.func fd,osl⟩/\PySem.W.codeIn K cdv qual=true
 kp:PySem.W.keepIn K (.ref f)=true
section
variable {P:Program}{w:World}{K:Frag}{mg:Str->Option Value}{base:Heap}
theorem Fun.ok {x qual:Str}{st:Stmt}{f:Addr}{fd:FuncData}{N ps:AH}{k:Nat}{sp:Sp}(F:Fun K x qual st f fd)(S:C2 N ps (B3 st))(len:∀vs H Q E,sp vs H Q E->vs.length=ps.length)
  (z:∀(cdv:Value) (A:Around) (outer:List Env) (s:Shared) (H:Hp) (vs:List V) (Q:VK) (E:XK),Room k (A.deeper (envOfC qual (B3 st) s.heap.objs.size f cdv))->sp vs H Q E ->
   ∃t,PSs (bV1 CX0 P w K mg base N qual (B3 st) f cdv A outer s H E).nox (W5 st) t/\t {nx:=λ_ H'=>Q .non H',rt:=Q} (Y6 N vs) H):K3 P w K mg base CX0 (k+1) f fd ps sp:=by
 obtain⟨oc,R,kV,Y,D,an,cdv,M,J,rfl,U,j⟩:=F.ex;refine dS1 U j S len λA outer s H vs Q E X m=>?_
 obtain⟨t,h,q⟩:=z cdv A outer s H vs Q E X m;exact⟨t,h.nox,q⟩
theorem Fun.binds {x qual:Str}{st:Stmt}{f:Addr}{fd:FuncData}{ps:AH}(F:Fun K x qual st f fd)
  (h:∀(kV doc pm:Value) (an:AK) (cdv ct:Value) (us:AG),us.length=ps.length->bindArgs (PySem.W.fnOf x qual (a8 st) (W5 st) (B3 st) .none kV doc pm an cdv ct) ⟨us,[]⟩=pure (ps.zip us)):Binds K fd ps []:=by
 obtain⟨oc,Y,kV,doc,pm,an,cdv,ct,j,rfl,m,z⟩:=F.ex;exact .all (h kV doc pm an cdv ct)
theorem E1 {x qual:Str}{st:Stmt}{f:Addr}{oc:Value}{od an:AK}{osl:Array (Option Value)}{kV doc pm cdv ct:Value}(l:K.lookup f=some ⟨oc,od,.func (PySem.W.fnOf x qual (a8 st) (W5 st) (B3 st) .none kV doc pm an cdv ct),osl⟩)
  (c:PySem.W.codeIn K cdv qual=true) (k:PySem.W.keepIn K (.ref f)=true):Fun K x qual st f (PySem.W.fnOf x qual (a8 st) (W5 st) (B3 st) .none kV doc pm an cdv ct):=⟨⟨oc,od,kV,doc,pm,an,cdv,ct,osl,rfl,l,c⟩,k⟩
end
section
theorem pv (i:Nat)(hN:X.N[i]? = some x:=by rfl)(j:Vis X.env.scope x:=by first | exact Or.inl rfl | exact Or.inr (Or.inl rfl) | exact Or.inr (Or.inr rfl))(z:(x==("__debug__" : Str))=false:=by decide)
  (w:(x==("__classdict__" : Str))=false:=by decide):PE X (.Name x pos) (C4 i):=dI1 hN j z w
end
def Same (H H':Hp):Prop:=∀b o,H b=some o->H' b=some o
section
theorem bN2 (I:Nat->Shared->Prop)
  (turn:∀n s,I n s->wpAny (model prog w) A (pyNext it) (λr s₁=>match r with
   | none=>R (.ok .next) s₁
   | some v=>wpAny (model prog w) A (letOwnedTupleGo target it v) (λ_ s₁'=>wpAny (model prog w) A (assign target env v) (λ_ s₂ =>
     wpAny (model prog w) A (forIn ifs true λc r=>if r=true then do let ok <- isTrue c env (eval c env);pure (ForInStep.yield ok) else pure (ForInStep.yield r)) (λok s₃ =>
      if ok=true then wpAny (model prog w) A (eval elt env) (λx s₄ =>
       wpAny (model prog w) A (call (.builtin "list.append") [acc,x]) (λ_ s₅=>∃m,m<n/\I m s₅) (λ_ _=>False) s₄) (λ_ _=>False) s₃
      else ∃m,m<n/\I m s₃) (λ_ _=>False) s₂) (λ_ _=>False) s₁') (λ_ _=>False) s₁) (λ_ _=>False) s)
  (n:Nat) (h:I n s) :
  codeAny (model prog w) A (.compLoop (.ListComp elt [⟨target,iter,ifs,0⟩] scope pos) 0 it acc env) R s:=by
 refine codeAny_loop rfl I (λn s hI=>?_) n h
 show wpAny _ A ((compTurn (.ListComp elt [⟨target,iter,ifs,0⟩] scope pos) 0 it acc env).onRaise (λx=>do noteFrame x env;theTreesLotGoes x)) _ _ s
 refine wpAny_noted ?_;rw[compTurn_list];refine Aa (wpAny_standAt (Aa (wpAny_mono (turn n s hI) (λr s₁ Y=>?_) λ_ _ z=>z.elim)))
 cases r with
 | none=>exact Ae Y
 | some v=>
  refine Aa (wpAny_mono Y (λ_ s₁' j=>?_) λ_ _ z=>z.elim)
  refine Aa (wpAny_mono j (λ_ s₂ U=>Aa (wpAny_mono U (λok s₃ X=>?_) λ_ _ z=>z.elim)) λ_ _ z=>z.elim)
  cases ok with
  | false=>exact Ae ⟨rfl,X⟩
  | true=>
   exact Aa (Aa (wpAny_mono X (λx s₄ J=>Aa (wpAny_mono J (λ_ s₅ M=>Ae (Ae ⟨rfl,M⟩)) λ_ _ z=>z.elim)) λ_ _ z=>z.elim))
end
section
def cxC (X:Cx)(N':AH)(scope:Scope)(cl:List (Str×Addr))(C:Addr)(ex:AL)(s:Shared)(H:Hp):Cx:=
 {X with N:=N',s₀:=s,H₀:=H,env:=compEnvC scope cl C X.env,outer:=X.stack,ex:=ex,fn:=λ_=>false,xe:=λ_ _=>False}
structure PIfs (X:Cx)(ifs:AM)(t:TT):Prop where
 mk ::
 run :
  ∀(aA:Ed) (s:Shared) (σ:St) (H:Hp) (Q:Bool->Hp->Prop),Inv X aA σ H s->t σ H Q ->
   wpAny (model X.prog X.w) X.A (forIn ifs true λc r=>if r=true then do let ok <- isTrue c X.env (eval c X.env);pure (ForInStep.yield ok) else pure (ForInStep.yield r)) (TP X aA σ Q) X.xe s
instance {X:Cx} {ifs:AM} {t:TT}:CoeFun (PIfs X ifs t) λ_=>
 (∀(aA:Ed) (s:Shared) (σ:St) (H:Hp) (Q:Bool->Hp->Prop),Inv X aA σ H s->t σ H Q ->
  wpAny (model X.prog X.w) X.A (forIn ifs true λc r=>if r=true then do let ok <- isTrue c X.env (eval c X.env);pure (ForInStep.yield ok) else pure (ForInStep.yield r)) (TP X aA σ Q) X.xe s):=⟨PIfs.run⟩
def aM1:TT:=λ_ H Q=>Q true H
theorem N7:PIfs X [] aM1:=⟨λw s σ H Q I h=>by
 show wpAny _ _ (pure true) _ _ _
 exact Ae ⟨H,I,h⟩⟩
theorem X5 (z:PT X c t):PIfs X [c] t:=⟨λw s σ H Q I h=>by
 rw[List.forIn_cons,Ac rfl];refine Aa (Aa (thn (z w s σ H Q I h) λb j q=>Ae ?_))
 dsimp only
 rw[List.forIn_nil];exact Ae q⟩
def stC (n:Nat)(is:AC)(σ:St):St:=List.replicate n none++is.map λi=>(σ[i]?).getD none
def cC0 (wi:TI)(n:Nat)(is:AC)(g:TG)(tt:TT)(te:TE):TE:=λσ H Q=>wi σ H λJ H1=>
 ∃W:Nat->Nat->List V->Hp->Prop,(∃m,W 0 m [] H1)/\∀i m ys H,W i m ys H->ys.length<sizeLine /\
  ((J.stop i H/\∀D,H D=none->Q (.ref D) (upd H D (.lst ys))) \/
   (J.go i H/\∀x H',J.yld i H x H'->g x (stC n is σ) H' λσ2 H2=>tt σ2 H2 λb H3=>
    if b=true then te σ2 H3 (λy H4=>∃m',m'<m/\W (i+1) m' (ys++[y]) H4) else ∃m',m'<m/\W (i+1) m' ys H3))
structure CScope (X:Cx)(scope:Scope)(cl:List (Str×Addr))(T:AH)(is:AC)(N':AH):Prop where
 clos:closureFor scope X.env=pure cl
 cell:∀y∈scope.names,y.2≠.cell
 kind:scope.kind=.function
 names:∀y∈scope.names,y.2=.local->scope.names.lookup y.1=some .local
 cap:∀x c,cl.lookup x=some c->X.env.cells.lookup x=some c
 has:∀x,((relabel scope X.env).names.lookup x=some .cell\/(relabel scope X.env).names.lookup x=some .free)->∃c,cl.lookup x=some c
 N:N'=T++is.map λ(i:Nat)=>((X.N[i]?).getD Str.empty:Str)
 lt:∀i∈is,i<X.N.length
 capt:∀i∈is,∀x,X.N[i]? = some x->((relabel scope X.env).names.lookup x=some .cell\/(relabel scope X.env).names.lookup x=some .free)/\(X.env.kindOf x=some .cell\/X.env.kindOf x=some .free)
theorem dN6 (S:CScope X scope cl T is N')(I:Inv X aA σ H s)
  (j:∀b∈fp,aX7 X aA H b) (m:∀b∈fp,b<s.heap.objs.size) (Y:s.heap.objs.size<=C):(cxC X N' scope cl C fp s H).Ok where
 mod:=I.ok.mod
 kind:=S.kind
 glob:=I.ok.glob
 blt:=I.ok.blt
 above:=Y
 inj:=λx y c h1 U=>I.ok.inj x y c (S.cap x c h1) (S.cap y c U)
 has:=S.has
 cab:=λx c h=>by cases h
 hd:=I.ok.hd
 frames:=I.ok.frames
 stk:=.inl rfl
 exf:=λb w=>⟨Ab9 (Ab8 (m b w) Y),λx c e=>(j b w).2.2.2.2.1 x c (S.cap x c e)⟩
 bs:=λb o e=>I.bs b o e
 bsz:=Bd I.ok.bsz I.sz
 noex:=λb o e w=>by
  rcases (j b w).2.2.2.1 with z | z
  .exact I.ok.noex b o e z
  .exact absurd (Ab8 (Ab3 e) (Bd I.ok.bsz z)) (Ad9 _)
 exfs:=λb w z=>(Aa1.mp (I.stkSub b z)).elim (j b w).2.1 (j b w).2.2.1
 funs:=I.stack
 frf:=I.stkFree
def aR0 (n:Nat)(g:TG):Prop:=∀v (σ:St) H Q,n<=σ.length->g v σ H Q->g v σ H λσ' H'=>Q σ' H'/\σ'.length=σ.length/\∀i,n<=i->σ'[i]? = σ[i]?
def bJ9 (n:Nat)(g:TGs):Prop:=∀vs (σ:St) H Q,n<=σ.length->g vs σ H Q->g vs σ H λσ' H'=>Q σ' H'/\σ'.length=σ.length/\∀i,n<=i->σ'[i]? = σ[i]?
theorem J0 (h:i<n):aR0 n (F5 i):=λv σ H Q z q=>
 ⟨q,Dv,λj w=>Ad0 (by lia)⟩
theorem cQ0:bJ9 n aY4:=λvs σ H Q w q=>⟨q.1,q.2,rfl,λ_ _=>rfl⟩
theorem aH8 (mono:∀v σ H Q Q',(∀σ' H',Q σ' H'->Q' σ' H')->t v σ H Q->t v σ H Q')(w:∀v σ H Q Q',(∀σ' H',Q σ' H'->Q' σ' H')->u v σ H Q->u v σ H Q')(h1:aR0 n t)(Y:bJ9 n u):bJ9 n (T0 t u):=by
 rintro vs σ H Q X ⟨v,r,e,q⟩;refine⟨v,r,e,mono _ _ _ _ _ ?_ (h1 v σ H _ X q)⟩;rintro σ' H' ⟨M,R,U⟩;refine w _ _ _ _ _ ?_ (Y r σ' H' _ (by lia) M)
 rintro N m ⟨j,J,z⟩;exact⟨j,by lia,λi hi=>(z i hi).trans (U i hi)⟩
theorem cJ8 {K:Frag}{n k:Nat}{t:TGs}(h:bJ9 n t):aR0 n (bJ6 K k t):=by
 rintro v σ H Q w ⟨a,xs,e,j,z,q⟩;exact⟨a,xs,e,j,z,h xs σ H Q w q⟩
abbrev aF9 (its:AG)(n:Nat):Obj:={cls:=.type "list",data:=.seq its.toArray n}
theorem cJ9 (S:CScope X scope cl T is N')(I:Inv X aA σ H s)
  (hf:∀b∈fp,aX7 X aA H b) (B:∀b∈fp,b<s.heap.objs.size) (M:s.heap.objs.size=D) (F:D<C) (hns:h₁.Ns C m) (w:∀b o,s.heap.get? b=some o->h₁.get? b=some o) (U:h₁.get? D=some (aF9 its e)) :
  Inv (cxC X N' scope cl C fp s H) (aA++[(D,aF9 its e)]) (stC T.length is σ) H {s with heap:=h₁,toks:=tk}:=by
 have Y:s.heap.objs.size<=C:=by rw[M];exact Cp F
 have ok:=dN6 (C:=C) S I hf B Y
 have lt:∀p∈X.pn++aA,p.1<D:=λp hp=>by rw[<- M];exact Ab3 (I.pin p hp).1
 have stk:∀b∈frs X.stack,b<D:=λb hb=>by
  obtain⟨_,o,ho,_⟩:=I.stack.mem hb;rw[<- M];exact Ab3 ho
 refine⟨ok,rfl,I.bare,Un.kept w,⟨m,hns,λi x v e1 e2 e3=>?_⟩,λx c h=>?_,?_,λx c h=>I.freeC x c (S.cap x c h),λp hp=>?_,I.hok.kept w,?_⟩
 .have e1:N'[i]? = some x:=e1
  unfold stC at e2;by_cases hi:i<T.length
  .rw[Bk (by simpa using hi),Cs,Ac hi]at e2
   cases e2
  .rw[Br (by simpa using hi),Dh,Aa9]at e2
   rw[S.N,Br (by lia),Aa9]at e1
   cases Q:is[i-T.length]? with
   | none=>rw[Q]at e2;cases e2
   | some k=>
    rw[Q]at e1 e2;have hk:k∈is:=Av Q;have hlt:=S.lt k hk;have eN:X.N[k]? = some x:=by
     simp only[Option.map_some,Option.some.injEq]at e1;rw[Aa2 hlt]at e1 ⊢;simpa using e1
    have es:σ[k]? = some (some v):=by
     simp only[Option.map_some,Option.some.injEq]at e2;cases q:σ[k]? with
     | none=>rw[q]at e2;cases e2
     | some y=>rw[q]at e2;exact congrArg some e2
    obtain⟨c1,c2⟩:=S.capt k hk x eN;obtain⟨m',hn',P⟩:=I.loc;obtain⟨u,r,l⟩:=P k x v eN es (.inr c2);refine⟨u,r,.inr ⟨c1,?_⟩⟩;rcases l with⟨k1,_⟩ | ⟨_,c,hc,j⟩
    .rcases c2 with c2 | c2 <;> rw[k1]at c2 <;> cases c2
    .obtain⟨R,J⟩:=S.has x c1
     have:R=c:=Ab4 ((S.cap x R J).symm.trans hc)
     subst this;exact⟨R,J,j.keeps w⟩
 .obtain⟨v,q⟩:=I.cell x c (S.cap x c h);exact⟨v,q.keeps w⟩
 .exact I.hok.fresh Y
 .have hp:p∈X.pn++(aA++[(D,aF9 its e)]):=hp
  rw[<- Ad7]at hp;rcases Aa0.mp hp with hp | hp
  .obtain⟨q1,q2,q3,q4,q5⟩:=I.pin p hp
   have:=lt p hp
   exact⟨w _ _ q1,q2,Ab9 (Nat.lt_trans this F),λz=>(Aa1.mp (I.stkSub p.1 z)).elim q3 q4,q5⟩
  .have e:p=(D,aF9 its e):=by simpa using hp
   subst e;exact⟨U,I.hok.fresh (by rw[M];exact Aa7 _),Ab9 F,λz=>Ad9 _ (stk D z),λv z=>by cases z⟩
 .show(stC T.length is σ).length=N'.length
  rw[S.N];unfold stC
  simp
def cY5 (X:Cx)(aA:Ed)(σ:St)(D C:Addr)(H4:Hp)(s4:Shared):Prop:=
 (∃m,s4.heap.Ns C m)/\(∀h',Heap.SameBut C s4.heap h'->Inv X aA σ H4 {s4 with heap:=h'})/\H4 C=none/\C≠X.env.locals/\X.s₀.heap.objs.size<=C/\(∀x c,X.env.cells.lookup x=some c->c≠C)/\∀p∈X.pn++aA,p.1≠C
theorem bC3 (hc:X.calm=true)(S:CScope X scope cl T is N')(hi:PI X tg iter wi)(hg:aR0 T.length g)
  (m:∀C ex s H,PG (cxC X N' scope cl C ex s H) tg g/\PIfs (cxC X N' scope cl C ex s H) ifs tt/\PE (cxC X N' scope cl C ex s H) elt te)
  (hs:∀x,foldedSetIterable iter X.env x=pure x) (I:Inv X aA σ H s) (h:cC0 wi T.length is g tt te σ H Q)
  (fin:∀(D C:Addr) (H4:Hp) (s4:Shared),cY5 X aA σ D C H4 s4->Q (.ref D) H4->compPost (model X.prog X.w) X.A X.xe use Qc (.ref D) C (.ok .next) s4) :
  wpAny (model X.prog X.w) X.A (comprehension (.ListComp elt [⟨tg,iter,ifs,0⟩] scope pos) scope X.env pos2 (newList []) false (eval iter X.env) use) Qc X.xe s:=by
 refine wpAny_comprehension_free (use:=use) rfl hs S.clos S.kind S.names (thn (hi aA s σ H _ I h) λv s1 h1=>thn h1 λitv U h2=>?_)
 obtain⟨it,Y,tn,J,N,e,I2,Tn,st2,f2,W,⟨m0,w0⟩,turn⟩:=h2;subst e;refine Bu (wpAny_newFunctionEnv S.cell (by intro y hy;simp at hy) (λh₁ P R=>?_) S.kind)
 dsimp only at P R ⊢
 generalize hH2:U.heap.push {cls:=.type "list",dict:=none,data:=.seq ([]:AG).toArray}=G2 at P R ⊢;have eC:G2.objs.size=U.heap.objs.size+1:=by rw[<- hH2,Dl]
 generalize hC:G2.objs.size=C at *;generalize hD:U.heap.objs.size=D at *;have M:D<C:=by rw[eC];exact Nat.lt_succ_self D
 have bC:∀{b:Addr},b<D->b≠C:=λm=>Ab9 (Nat.lt_trans m M)
 have below:∀b o,U.heap.get? b=some o->b<D:=λb o e=>by rw[<- hD];exact Ab3 e
 have old:∀b o,U.heap.get? b=some o->h₁.get? b=some o:=λb o e=>R.extBut b o (bC (below b o e)) (Aa6 _ (hH2▸Aa6 _ e))
 have hacc:h₁.get? D=some (aF9 [] 0):=R.extBut _ _ (Ab9 M) (Aa6 _ (hH2▸(by rw[<- hD];exact Ac3 _ rfl)))
 have B:∀b∈Y,b<D:=λb m=>by
  obtain⟨o,e,_⟩:=Tn.obj _ _ st2 b m;exact below b o e
 have lt:∀p∈X.pn++aA,p.1<D:=λp hp=>below _ _ (I2.pin p hp).1
 have stk:∀b∈frs X.stack,b<D:=λb m=>by
  obtain⟨_,o,ho,_⟩:=I2.stack.mem m;exact below b o ho
 have cel:∀x c,cl.lookup x=some c->c<D:=λx c hx=>by
  obtain⟨v,q⟩:=I2.cell x c (S.cap x c hx);rw[<- hD];exact q.lt
 have H2D:N D=none:=I2.hok.fresh (by rw[hD];exact Aa7 _)
 obtain⟨pgx,pix,pex⟩:=m C Y U N;have stat:∀{e:Nat} {its:AG} {H':Hp},(∀b∈Y,H' b=none)->∀b∈Y,aX7 (cxC X N' scope cl C Y U N) (aA++[(D,aF9 its e)]) H' b:=λ{e its H'} hn b m=>by
  obtain⟨f0,f1,f3,f4,f5,f6⟩:=f2 b m
  have:=B b m
  refine⟨hn b m,bC (B b m),λz=>(Aa1.mp (I2.stkSub b z)).elim f1 f3,.inl m,λx c z=>f5 x c (S.cap x c z),λp hp=>?_⟩
  have hp:p∈X.pn++(aA++[(D,aF9 its e)]):=hp
  rw[<- Ad7]at hp;rcases Aa0.mp hp with hp | hp
  .exact f6 p hp
  .have e:p=(D,aF9 its e):=by simpa using hp
   subst e;exact(Ab9 (B b m)).symm
 have loop:codeAny (model X.prog X.w) X.A (.compLoop (.ListComp elt [⟨tg,iter,ifs,0⟩] scope pos) 0 (.ref it) (.ref D) (compEnvC scope cl C X.env)) (compPost (model X.prog X.w) X.A X.xe use Qc (.ref D) C) {U with heap:=h₁,toks:=U.toks+([]:List (Str×Value)).length}:=by
  refine bN2 (λn s'=>∃i ys its e F,Inv (cxC X N' scope cl C Y U N) (aA++[(D,aF9 its e)]) (stC T.length is σ) F s'/\tn i s'.heap/\(∀b∈Y,F b=none)/\Vals ys its/\W i n ys F) ?_ m0
   ⟨0,[],[],0,N,cJ9 S I2 f2 (by rw[hD];exact B) hD M P old hacc,Tn.keep _ _ _ st2 λb _ o q=>old b o q,λb m=>(f2 b m).1,.nil,w0⟩
  rintro n s3 ⟨i,ys,its,e,F,I3,st3,fr3,rv,w3⟩;obtain⟨hsz,hh⟩:=turn i n ys F w3;rcases hh with⟨stop,qn⟩ | ⟨go,step⟩
  .refine thn (Tn.done (cxC X N' scope cl C Y U N) rfl rfl rfl hc i _ s3 _ F _ I3 (stat fr3) st3 stop) λr s4 ⟨hr,I4⟩=>?_
   subst hr;obtain⟨m4,hn4,_⟩:=I4.loc;obtain⟨pd,H3D,_⟩:=I4.pin (D,aF9 its e) (by simp)
   have H3C:F C=none:=I4.free
   refine fin D C (upd F D (.lst ys)) s4 ⟨⟨m4,hn4⟩,λh' sb=>?_,by rw[B9 (Nat.ne_of_gt M)];exact H3C,λz=>Ad9 _ (Nat.lt_trans M (by rw[z];have:=I2.lt;rw[hD]at this;exact this)),Bd I2.sz (by rw[hD];exact Cp M),λx c e=>by
    obtain⟨v,q⟩:=I2.cell x c e;exact bC (by rw[<- hD];exact q.lt),λp hp=>bC (lt p hp)⟩ (qn D H3D)
   have kC:∀b o,b≠C->s4.heap.get? b=some o->h'.get? b=some o:=λb o m q=>(sb.2 b m).trans q
   have u:=I4.base
   have u:Un (frs X.stack) Y N F U.heap s4.heap:=u
   have u2:Un (frs X.stack) Y N (upd F D (.lst ys)) U.heap h':=by
    refine⟨λb o q n m hx=>kC b o (bC (below b o q)) (u.keep b o q n m hx),λb o q n m hx=>?_,λb o q n hx=>?_,λb o q hx=>?_,λb xs q=>?_,λb o xs q=>?_,λb ps q=>?_⟩
    .obtain⟨sl,q1⟩:=u.slot b o q n m hx;exact⟨sl,kC b _ (bC (below b o q)) q1⟩
    .rw[B9 (Ab9 (below b o q))];exact u.free b o q n hx
    .obtain⟨o',q1⟩:=u.there b o q hx;exact⟨o',kC b _ (bC (below b o q)) q1⟩
    .rw[B9 (F1 q H2D)];exact u.tups b xs q
    .rw[B9 (F1 q H2D)];exact u.frzs b o xs q
    .obtain⟨more,q1⟩:=u.tbls b ps q;exact⟨more,by rw[B9 (F1 q H2D)];exact q1⟩
   have hok:HOk X.prog X.w (upd F D (.lst ys)) h':=λb o q=>by
    by_cases m:b=D
    .subst m;rw[C5]at q;cases q;exact⟨Cp hsz,its,e,rv,kC _ _ (Ab9 M) pd⟩
    .rw[B9 m]at q;refine(I4.hok b o q).stay (λc v hc q'=>kC c v ?_ q') (λc q'=>by rw[B9 (F1 q' H3D)];exact q') λc xs q'=>by rw[B9 (F1 q' H3D)];exact q'
     rcases hc with z | z
     .rw[z];exact F1 q H3C
     .exact F1 z H3C
   have os4:s4.os=U.os:=I4.os
   exact I2.call' (s':={s4 with heap:=h'}) os4 u2 hok I4.bare λb m=>⟨(f2 b m).2.2.2.1,(f2 b m).2.1,(f2 b m).2.2.2.2.1,(f2 b m).2.2.2.2.2⟩
  .refine thn (Tn.item (cxC X N' scope cl C Y U N) rfl rfl rfl hc i _ s3 _ F _ I3 (stat fr3) st3 go) λr s4 ⟨u,hr,h4⟩=>?_
   subst hr;refine thn h4 λ_ s5 pz=>?_
   obtain⟨x,H5,I5,r5,y5,st5,fr5⟩:=pz;have I5':=I5.pinned (stat fr5) (Tn.obj _ _ st5);have hln:T.length<=(stC T.length is σ).length:=by unfold stC;simp
   refine thn (pgx _ s5 _ H5 x u _ I5' r5 (hg x _ H5 _ hln (step x H5 y5))) λ_ s6 pz=>?_
   obtain⟨σ6,H6,I6,q6,l6,k6⟩:=pz;refine thn (pix _ s6 σ6 H6 _ I6 q6) λb s7 pz=>?_
   obtain⟨H7,I7,q7⟩:=pz;have back:∀{H8:Hp} {s8:Shared} {its':AG} {e':Nat},Inv (cxC X N' scope cl C Y U N) (aA++[(D,aF9 its' e')]++p6 Y s5.heap) σ6 H8 s8->Inv (cxC X N' scope cl C Y U N) (aA++[(D,aF9 its' e')]) (stC T.length is σ) H8 s8/\tn (i+1) s8.heap/\∀b∈Y,H8 b=none:=λ{H8 s8 its' e'} I8=>by
    refine⟨I8.unpinned.weak l6.symm λj v q=>?_,Tn.keep _ _ _ st5 λb m o q=>(I8.pin (b,o) (Ac1 _ (Ac1 _ (m6 m q)))).1,λb m=>?_⟩
    .by_cases hj:T.length<=j
     .rw[k6 j hj];exact q
     .unfold stC at q;rw[Bk (by simpa using hj),Cs,Ac (by lia)]at q
      cases q
    .obtain⟨o,q,d⟩:=Tn.obj _ _ st5 b m;exact(I8.pin (b,o) (Ac1 _ (Ac1 _ (m6 m q)))).2.1
   cases b with
   | false=>
    rw[Ab Ah]at q7 ⊢;obtain⟨m',hm,w7⟩:=q7;obtain⟨J1,J2,J3⟩:=back I7;exact⟨m',hm,i+1,ys,its,e,H7,J1,J2,J3,rv,w7⟩
   | true=>
    rw[Ac rfl]at q7 ⊢;refine thn (pex _ s7 σ6 H7 _ I7 q7) λy s8 pz=>?_
    obtain⟨yv,H8,I8,r8,m',hm,w8⟩:=pz;obtain⟨pd,H8D,_⟩:=I8.pin (D,aF9 its e) (by simp)
    have pl:s8.heap.PlainList D its.toArray:=⟨e,pd⟩
    refine wpAny_list_append_plain pl (λh9 pl9 sb9=>?_) (by have:=rv.length;simp;lia)
    obtain⟨e9,hl9⟩:=pl9;have ea:its.toArray.push y=(its++[y]).toArray:=by simp
    rw[ea]at hl9;have I8':Inv (cxC X N' scope cl C Y U N) (aA++p6 Y s5.heap) σ6 H8 s8:=I8.pins_of λp hp=>I8.pin p (Ac1 _ ((Aa0.mp hp).elim (λz=>Al _ (Al _ z)) λz=>Ac1 _ z))
    have I9:Inv (cxC X N' scope cl C Y U N) (aA++p6 Y s5.heap) σ6 H8 {s8 with heap:=h9}:=by
     refine I8'.turned (t':=s8.toks) (it:=D) (λb o m q=>(sb9.2 b m).trans q) H8D (Ab9 M) (.inr (by show U.heap.objs.size<=D;rw[hD];exact Aa7 _)) (λx c z=>Ab9 (cel x c z)) λp hp=>?_
     have hp:p∈X.pn++(aA++p6 Y s5.heap):=hp
     rw[<- Ad7]at hp;rcases Aa0.mp hp with z | z
     .exact Ab9 (lt p z)
     .exact Ab9 (B _ (bA3 z).1)
    have I9':Inv (cxC X N' scope cl C Y U N) (aA++[(D,aF9 (its++[y]) e9)]++p6 Y s5.heap) σ6 H8 {s8 with heap:=h9}:=I9.pins_of λp hp=>by
     rcases Aa0.mp hp with z | z
     .rcases Aa0.mp z with z | z
      .exact I9.pin p (Ac1 _ (Al _ z))
      .have ep:p=(D,aF9 (its++[y]) e9):=by simpa using z
       subst ep;exact⟨hl9,H8D,Ab9 M,λz=>Ad9 _ (stk D z),λv z=>by cases z⟩
     .exact I9.pin p (Ac1 _ (Ac1 _ z))
    obtain⟨J1,J2,J3⟩:=back I9';exact⟨m',hm,i+1,ys++[yv],its++[y],e9,H8,J1,J2,J3,rv.append (.cons r8 .nil),w8⟩
 refine codeAny_compStart_list loop ?_;exact Tn.self _ 0 _ _ _ (Tn.keep _ _ _ st2 λb _ o q=>old b o q) loop
theorem N2 (Y:X.calm=true)(S:CScope X scope cl T is N')(hi:PI X tg iter wi)(U:aR0 T.length g)
  (m:∀C ex s H,PG (cxC X N' scope cl C ex s H) tg g/\PIfs (cxC X N' scope cl C ex s H) ifs tt/\PE (cxC X N' scope cl C ex s H) elt te)
  (M:∀x,foldedSetIterable iter X.env x=pure x:=by intro _;rfl):PE X (.ListComp elt [⟨tg,iter,ifs,0⟩] scope pos) (cC0 wi T.length is g tt te):=by
 refine⟨?_⟩;intro F s σ H Q I h;rw[eval_ListComp];refine bC3 Y S hi U m M I h λD C z B ⟨⟨N,w⟩,J,_⟩ q=>?_
 exact⟨N,w,λj R=>⟨.ref D,z,J j R,rfl,q⟩⟩
theorem l5 (hN:X.N.Nodup)(hx:X.N[i]? = some x)(R:X.env.scope.names.lookup x=some .local)
  (hc:X.calm=true) (S:CScope X scope cl T is N') (hi:PI X tg iter wi) (hg:aR0 T.length g)
  (w:∀C ex s H,PG (cxC X N' scope cl C ex s H) tg g/\PIfs (cxC X N' scope cl C ex s H) ifs tt/\PE (cxC X N' scope cl C ex s H) elt te)
  (j:swapsWith (.ListComp elt [⟨tg,iter,ifs,0⟩] scope pos) (some (.Name x pos')) spos.line X.env=pure true:=by rfl)
  (hs:∀x,foldedSetIterable iter X.env x=pure x:=by intro _;rfl):PS X (.Assign [.Name x pos'] (.ListComp elt [⟨tg,iter,ifs,0⟩] scope pos) spos) (aP5 (cC0 wi T.length is g tt te) (F5 i)):=by
 refine⟨?_⟩;intro M s σ H D I h;rw[exec_Assign_Name_used _ _ _ _ j];refine Aa (wpAny_standAt (Aa ?_));show wpAny _ X.A (do let _ <- comprehension (.ListComp elt [⟨tg,iter,ifs,0⟩] scope pos) scope X.env _ (newList []) false (eval iter X.env) (some (assign (.Name x pos') X.env))) _ _ s;refine Aa (wpAny_mono (bC3 (use:=some (assign (.Name x pos') X.env)) (Qc:=λ_ B=>SP X M D .next B) hc S hi hg w hs I h λY C U P ⟨⟨m4,z⟩,J,k1,Q,k3,F,k5⟩ q=>?_) (λ_ B hq=>Ae (Ae hq)) λ_ _ e=>e)
 show wpAny _ _ (assign (.Name x pos') X.env (.ref Y)) _ _ _
 have I4:Inv X M σ U P:=J P.heap (.refl _ _)
 refine wpAny_assign_Name (bB6 I4 hN hx (.inl R) (v:=.ref Y) rfl (λs5 I5 pz=>?_) (.inr R))
 obtain⟨a,sb,ha⟩:=pz;have aC:a≠C:=by
  rcases ha with rfl | ha
  .exact Q.symm
  .exact F x a ha
 refine⟨m4,z.sameBut sb aC.symm,λh' m=>⟨_,U,?_,q⟩⟩
 exact I5.turned (t':=s5.toks) (λb o w e=>(m.2 b w).trans e) k1 Q (.inr k3) F k5
end
end L2
namespace LV
open PySem L2
def _root_.L2.excO (x C:Addr):HO:=.ext λh=>∃o vs,h.get? x=some o/\o.cls=.ref C/\o.data=.fields vs
def _root_.L2.dEnt (x:AD×Addr×Value):DictEntry:=⟨reduceHash (Builtin.Tuple.tupleHashOf (x.1.map hashInt)),.ref x.2.1,x.2.2⟩
def _root_.L2.dicO (a:Addr)(kv:List (AD×Addr×V)):HO:=.ext λh=>∃xs:List (AD×Addr×Value),Paired (λp q=>p.1=q.1/\p.2.1=q.2.1/\RelV p.2.2 q.2.2) kv xs /\
 kv.length<=sizeLine/\(a==sysModules)=false/\∃o es ep,h.get? a=some o/\o.ExactDict/\o.data=.dict es ep/\es.toList=xs.map L2.dEnt/\(xs.map (·.1)).Nodup
inductive HM where
 | l (xs:List V) | x (a:Addr) (kv:List (AD×Addr×V))
def HM.ho:HM->HO
 | .l xs=>.lst xs
 | .x a kv=>L2.dicO a kv
theorem HM.nt {u:HM}{xs:List V}(h:u.ho=.tup xs):False:=by cases u <;> cases h
theorem HM.nf {u:HM}{o:Obj}{v:HO}(h:u.ho=.frz o v):False:=by cases u <;> cases h
def w9:PyData->Bool
 | .none | .bool _ | .int _ | .str _=>true
 | .tuple ds=>ds.all λd=>match d with | .int _=>true | _=>false
 | _=>false
def bU5 (K:Frag)(H:Hp)(v:V):PyData->Prop
 | .none=>v=.non
 | .bool b=>v=.bl b
 | .int i=>v=.int i
 | .str x=>v=.str x
 | .tuple ds=>∃(a:Addr) (l:AD),v=.ref a/\ds=l.map PyData.int/\SqT K H a (l.map V.int)
 | _=>False
def R7 (kvs:List (AD×PyData)):List (PyData×PyData):=kvs.map λx=>(PyData.tuple (x.1.map PyData.int),x.2)
def dD (kvs:List (AD×PyData)):PyData:=if kvs.all (λx=>w9 x.2) then .dict (R7 kvs) else .dict [(.none,.none)]
def KvF (K:Frag)(H:Hp):List (AD×Addr×V)->List (AD×PyData)->Prop:=Paired λx y=>x.1=y.1/\SqT K H x.2.1 (x.1.map V.int)/\bU5 K H x.2.2 y.2
mutual
inductive Rep (K:Frag)(H:Hp):V->PyData->Prop
 | non:Rep K H .non .none
 | bl (b:Bool):Rep K H (.bl b) (.bool b)
 | int (i:Int):Rep K H (.int i) (.int i)
 | str (x:Str):Rep K H (.str x) (.str x)
 | tup {a:Addr} {xs:List V} {ds:AF}:SqT K H a xs->Reps K H xs ds->Rep K H (.ref a) (.tuple ds)
 | lst {a:Addr} {xs:List V} {ds:AF}:SqL K H a xs->Reps K H xs ds->Rep K H (.ref a) (.list ds)
 | exc {a C:Addr}:H a=some (L2.excO a C)->Rep K H (.ref a) (.dict [(.int (C:Nat),.none)])
 | ptr {a:Addr}:Rep K H (.ref a) (.dict [(.none,.none)])
 | adr {a:Addr}:Rep K H (.ref a) (.dict [(.int (a:Nat),.none),(.none,.none)])
 | dic {a:Addr} {kv:List (AD×Addr×V)} {kvs:List (AD×PyData)} {ds:List (PyData×PyData)}:H a=some (L2.dicO a kv)->KvF K H kv kvs->ds=R7 kvs->Rep K H (.ref a) (.dict ds)
inductive Reps (K:Frag)(H:Hp):List V->AF->Prop
 | nil:Reps K H [] []
 | cons {v:V} {d:PyData} {vs:List V} {ds:AF}:Rep K H v d->Reps K H vs ds->Reps K H (v::vs) (d::ds)
end
section
theorem _root_.L2.Same.rf (H:Hp):Same H H:=λ_ _ e=>e
theorem _root_.L2.Same.tr {H1 H2 H3:Hp}(a:Same H1 H2)(b:Same H2 H3):Same H1 H3:=λx o e=>b x o (a x o e)
theorem Z8 (h:Same H H')(r:Rd H a u):Rd H' a u:=by
 rcases r with e | ⟨o,e⟩
 .exact .inl (h _ _ e)
 .exact .inr ⟨o,h _ _ e⟩
theorem F0 (h:Same H H'){a:Addr}{xs:List V}(r:SqT K H a xs):SqT K H' a xs:=r.imp (Z8 h) id
theorem H9 (h:Same H H')(r:SqL K H a xs):SqL K H' a xs:=r.imp (Z8 h) id
theorem cF5 (h:Same H H'):∀{d:PyData},bU5 K H v d->bU5 K H' v d
 | .none,r | .bool _,r | .int _,r | .str _,r=>r
 | .tuple _,⟨a,l,e1,e2,s⟩=>⟨a,l,e1,e2,F0 h s⟩
 | .list _,r | .dict _,r=>r
theorem bQ1 (h:Same H H')(r:KvF K H kv kvs):KvF K H' kv kvs:=by
 unfold KvF at *;induction r with
 | nil=>exact .nil
 | cons a _ w=>exact .cons ⟨a.1,F0 h a.2.1,cF5 h a.2.2⟩ w
mutual
theorem aT8 (h:Same H H'):∀(d:PyData) {v:V},Rep K H v d->Rep K H' v d
 | .none,_,r=>by cases r;exact .non
 | .bool _,_,r=>by cases r;exact .bl _
 | .int _,_,r=>by cases r;exact .int _
 | .str _,_,r=>by cases r;exact .str _
 | .tuple ds,_,r=>by cases r with | tup s rs=>exact .tup (F0 h s) (aC5 h ds rs)
 | .list ds,_,r=>by cases r with | lst s rs=>exact .lst (H9 h s) (aC5 h ds rs)
 | .dict _,_,r=>by cases r with | exc e=>exact .exc (h _ _ e) | ptr=>exact .ptr | adr=>exact .adr | dic e r z=>exact .dic (h _ _ e) (bQ1 h r) z
theorem aC5 (h:Same H H'):∀(ds:AF) {vs:List V},Reps K H vs ds->Reps K H' vs ds
 | [],_,r=>by cases r;exact .nil
 | d::ds,_,r=>by cases r with | cons a b=>exact .cons (aT8 h d a) (aC5 h ds b)
end
theorem Rep.mono (r:Rep K H v d)(h:Same H H'):Rep K H' v d:=aT8 h d r
theorem Reps.mono (r:Reps K H vs ds)(h:Same H H'):Reps K H' vs ds:=aC5 h ds r
mutual
def imm:PyData->Bool
 | .none | .bool _ | .int _ | .str _=>true
 | .tuple ds=>K6 ds
 | .list _ | .dict _=>false
def K6:AF->Bool
 | []=>true
 | d::ds=>imm d&&K6 ds
end
mutual
theorem bI8 (h:∀a xs,Rd H a (.tup xs)->Rd H' a (.tup xs)):∀(d:PyData) {v:V},imm d=true->Rep K H v d->Rep K H' v d
 | .none,_,_,r=>by cases r;exact .non
 | .bool _,_,_,r=>by cases r;exact .bl _
 | .int _,_,_,r=>by cases r;exact .int _
 | .str _,_,_,r=>by cases r;exact .str _
 | .tuple ds,_,i,r=>by
  cases r with
  | tup s rs=>exact .tup (s.imp (h _ _) id) (aT5 h ds (by simpa[imm]using i) rs)
 | .list ds,_,i,r=>by simp[imm]at i
 | .dict _,_,i,r=>by simp[imm]at i
theorem aT5 (h:∀a xs,Rd H a (.tup xs)->Rd H' a (.tup xs)):∀(ds:AF) {vs:List V},K6 ds=true->Reps K H vs ds->Reps K H' vs ds
 | [],_,_,r=>by cases r;exact .nil
 | d::ds,_,i,r=>by
  have w:imm d=true/\K6 ds=true:=by simpa[K6]using i
  cases r with | cons a b=>exact .cons (bI8 h d w.1 a) (aT5 h ds w.2 b)
end
theorem Reps.length:∀{vs:List V} {ds:AF},Reps K H vs ds->vs.length=ds.length
 | _,[],r=>by cases r;rfl
 | _,d::ds,r=>by cases r with | cons a b=>simp[Reps.length b]
theorem Reps.get:∀{vs:List V} {ds:AF} {i:Nat} {v:V},Reps K H vs ds->vs[i]? = some v->∃d,ds[i]? = some d/\Rep K H v d
 | _,[],_,_,r,e=>by cases r;simp at e
 | _,d::ds,0,v,r,e=>by
  cases r with | cons a b=>simp at e;subst e;exact⟨d,rfl,a⟩
 | _,d::ds,i+1,v,r,e=>by
  cases r with
  | cons a b=>
   obtain⟨d',h1,h2⟩:=Reps.get (i:=i) (v:=v) b (by simpa using e)
   exact⟨d',by simpa using h1,h2⟩
theorem Reps.get':∀{vs:List V} {ds:AF} {i:Nat} {d:PyData},Reps K H vs ds->ds[i]? = some d->∃v,vs[i]? = some v/\Rep K H v d
 | _,[],_,_,r,e=>by simp at e
 | _,d::ds,0,v,r,e=>by
  cases r with | cons a b=>simp at e;subst e;exact⟨_,rfl,a⟩
 | _,d::ds,i+1,v,r,e=>by
  cases r with
  | cons a b=>
   obtain⟨d',h1,h2⟩:=Reps.get' (i:=i) b (by simpa using e)
   exact⟨d',by simpa using h1,h2⟩
theorem Reps.append:∀{vs us:List V} {ds es:AF},Reps K H vs ds->Reps K H us es->Reps K H (vs++us) (ds++es)
 | _,_,[],_,r,s=>by cases r;exact s
 | _,_,d::ds,_,r,s=>by cases r with | cons a b=>exact .cons a (Reps.append b s)
theorem Reps.drop:∀{vs:List V} {ds:AF} (n:Nat),Reps K H vs ds->Reps K H (vs.drop n) (ds.drop n)
 | _,_,0,r=>r
 | _,[],n+1,r=>by cases r;exact .nil
 | _,d::ds,n+1,r=>by cases r with | cons a b=>exact Reps.drop n b
theorem Reps.take:∀{vs:List V} {ds:AF} (n:Nat),Reps K H vs ds->Reps K H (vs.take n) (ds.take n)
 | _,_,0,r=>.nil
 | _,[],n+1,r=>by cases r;exact .nil
 | _,d::ds,n+1,r=>by cases r with | cons a b=>exact .cons a (Reps.take n b)
theorem Reps.set:∀{vs:List V} {ds:AF} (n:Nat) {v:V} {d:PyData},Reps K H vs ds->Rep K H v d->Reps K H (vs.set n v) (ds.set n d)
 | _,[],n,_,_,r,_=>by cases r;exact .nil
 | _,e::ds,0,_,_,r,s=>by cases r with | cons a b=>exact .cons s b
 | _,e::ds,n+1,_,_,r,s=>by cases r with | cons a b=>exact .cons a (Reps.set n b s)
theorem Reps.eraseIdx:∀{vs:List V} {ds:AF} (n:Nat),Reps K H vs ds->Reps K H (vs.eraseIdx n) (ds.eraseIdx n)
 | _,[],n,r=>by cases r;exact .nil
 | _,e::ds,0,r=>by cases r with | cons a b=>exact b
 | _,e::ds,n+1,r=>by cases r with | cons a b=>exact .cons a (Reps.eraseIdx n b)
theorem Reps.dropLast {vs:List V}{ds:AF}(r:Reps K H vs ds):Reps K H vs.dropLast ds.dropLast:=by
 rw[List.dropLast_eq_take,List.dropLast_eq_take,r.length];exact r.take _
theorem Reps.reverse:∀{vs:List V} {ds:AF},Reps K H vs ds->Reps K H vs.reverse ds.reverse
 | _,[],r=>by cases r;exact .nil
 | _,d::ds,r=>by
  cases r with
  | cons a b=>rw[List.reverse_cons,List.reverse_cons];exact(Reps.reverse b).append (.cons a .nil)
theorem R5:∀(l:AD),Reps K H (l.map V.int) (l.map PyData.int)
 | []=>.nil
 | i::l=>.cons (.int i) (R5 l)
theorem Reps.ints:∀{l:AD} {vs:List V},Reps K H vs (l.map PyData.int)->vs=l.map V.int
 | [],_,r=>by cases r;rfl
 | i::l,_,r=>by
  cases r with
  | cons a b=>cases a;rw[Reps.ints b];rfl
end
open Classical in
noncomputable def hid (S:Addr->Prop)(H:Hp):Hp:=λb=>if S b then none else H b
section
theorem hid_some:hid S H b=some o↔¬S b/\H b=some o:=by
 unfold hid;by_cases h:S b
 .rw[Ac h];exact⟨(λe=>nomatch e),λe=>absurd h e.1⟩
 .rw[Ab h];exact⟨λe=>⟨h,e⟩,λe=>e.2⟩
theorem P5:Same (hid S H) H:=λb o e=>(hid_some.mp e).2
theorem E2 (h:Same H H')(w:∀b,S' b->H b≠none->S b):Same (hid S H) (hid S' H'):=λb o e=>by
 obtain⟨a,c⟩:=hid_some.mp e;exact hid_some.mpr ⟨λz=>a (w b z (by rw[c];simp)),h b o c⟩
theorem K5 (h:Same H H'):Same (hid S H) (hid S H'):=E2 h λ_ z _=>z
theorem u9 (w:∀b,S b->∃u:HM,H b=some u.ho)(r:Rd H a (.tup xs)):Rd (hid S H) a (.tup xs):=by
 have n:¬S a:=λz=>by
  obtain⟨j,e⟩:=w a z;rcases r with r | ⟨o,r⟩ <;> rw[e]at r <;> replace r:=Ab4 r
  .exact HM.nt r
  .exact HM.nf r
 rcases r with r | ⟨o,r⟩
 .exact .inl (hid_some.mpr ⟨n,r⟩)
 .exact .inr ⟨o,hid_some.mpr ⟨n,r⟩⟩
end
inductive OT where
 | leaf (d:PyData) | tup (ts:List OT) | lst (ts:List OT) | dic (kvs:List (AD×PyData))
mutual
def OT.data:OT->PyData
 | .leaf d=>d
 | .tup ts=>.tuple (OT.datas ts)
 | .lst ts=>.list (OT.datas ts)
 | .dic kvs=>dD kvs
def OT.datas:List OT->AF
 | []=>[]
 | t::ts=>t.data::OT.datas ts
end
mutual
/-- v is the tree t;L: its lists -/
inductive Dp (K:Frag)(Z H:Hp):V->OT->AL->Prop
 | leaf {v:V} {d:PyData}:Rep K Z v d->Dp K Z H v (.leaf d) []
 | tup {a:Addr} {xs:List V} {ts:List OT} {L:AL}:SqT K H a xs->Dps K Z H xs ts L->Dp K Z H (.ref a) (.tup ts) L
 | lst {a:Addr} {xs:List V} {ts:List OT} {L:AL}:H a=some (.lst xs)->Dps K Z H xs ts L->Dp K Z H (.ref a) (.lst ts) (a::L)
 | dic {a:Addr} {kv:List (AD×Addr×V)} {kvs:List (AD×PyData)}:H a=some (L2.dicO a kv)->kv.map (·.1)=kvs.map (·.1)->Reps K Z (kv.map λx=>V.ref x.2.1) (kvs.map λx=>PyData.tuple (x.1.map PyData.int))->Reps K Z (kv.map (·.2.2)) (kvs.map (·.2))->Dp K Z H (.ref a) (.dic kvs) [a]
inductive Dps (K:Frag)(Z H:Hp):List V->List OT->AL->Prop
 | nil:Dps K Z H [] [] []
 | cons {v:V} {t:OT} {vs:List V} {ts:List OT} {L L':AL}:Dp K Z H v t L->Dps K Z H vs ts L'->Dps K Z H (v::vs) (t::ts) (L++L')
end
section
mutual
/-- only its lists and what is below count -/
theorem aD1 (z:Same Z Z')(j:∀a xs,Rd H a (.tup xs)->Rd H' a (.tup xs)):∀(t:OT) {v:V} {L:AL},(∀b∈L,H' b=H b)->Dp K Z H v t L->Dp K Z' H' v t L
 | .leaf d,_,_,_,r=>by cases r with | leaf r=>exact .leaf (r.mono z)
 | .tup ts,_,_,w,r=>by cases r with | tup s r=>exact .tup (s.imp (j _ _) id) (j3 z j ts w r)
 | .lst ts,_,_,w,r=>by
  cases r with
  | lst s r=>exact .lst (by rw[w _ (by simp)];exact s) (j3 z j ts (λb h=>w b (by simp[h])) r)
 | .dic kvs,_,_,w,r=>by
  cases r with
  | dic s k m Y=>exact .dic (by rw[w _ (by simp)];exact s) k (m.mono z) (Y.mono z)
theorem j3 (z:Same Z Z')(w:∀a xs,Rd H a (.tup xs)->Rd H' a (.tup xs)):∀(ts:List OT) {vs:List V} {L:AL},(∀b∈L,H' b=H b)->Dps K Z H vs ts L->Dps K Z' H' vs ts L
 | [],_,_,_,r=>by cases r;exact .nil
 | t::ts,_,_,hl,r=>by
  cases r with
  | cons a b=>exact .cons (aD1 z w t (λb h=>hl b (by simp[h])) a) (j3 z w ts (λb h=>hl b (by simp[h])) b)
end
mutual
theorem aB0:∀(t:OT) {v:V} {L:AL},Dp K Z H v t L->∀b∈L,∃u:HM,H b=some u.ho
 | .leaf d,_,_,r=>by cases r with | leaf r=>intro b h;simp at h
 | .tup ts,_,_,r=>by cases r with | tup s r=>exact k8 ts r
 | .lst ts,_,_,r=>by
  cases r with
  | lst s r=>
   intro b h;rcases Aa1.mp h with rfl | h
   .exact⟨.l _,s⟩
   .exact k8 ts r b h
 | .dic kvs,_,_,r=>by
  cases r with
  | dic s k w z=>
   intro b h;rw[Ad8.mp h];exact⟨.x _ _,s⟩
theorem k8:∀(ts:List OT) {vs:List V} {L:AL},Dps K Z H vs ts L->∀b∈L,∃u:HM,H b=some u.ho
 | [],_,_,r=>by cases r;intro b h;simp at h
 | t::ts,_,_,r=>by
  cases r with
  | cons a b=>
   intro c h;rcases Aa0.mp h with h | h
   .exact aB0 t a c h
   .exact k8 ts b c h
end
theorem bP3:∀{d:PyData},w9 d=true->Rep K H v d->bU5 K H v d
 | .none,_,r=>by cases r;rfl
 | .bool _,_,r=>by cases r;rfl
 | .int _,_,r=>by cases r;rfl
 | .str _,_,r=>by cases r;rfl
 | .list _,f,_=>by cases f
 | .dict _,f,_=>by cases f
 | .tuple ds,f,r=>by
  cases r with
  | @tup a xs _ s rs=>
   have w:∀(ds:AF) (xs:List V),(ds.all λd=>match d with | .int _=>true | _=>false)=true->Reps K H xs ds->∃l:AD,ds=l.map PyData.int/\xs=l.map V.int:=λds=>by
    induction ds with
    | nil=>intro xs _ r;cases r;exact⟨[],rfl,rfl⟩
    | cons d ds z=>
     intro xs f r;rw[List.all_cons,Aq]at f;cases r with
     | cons a b=>
      obtain⟨l,e1,e2⟩:=z _ f.2 b;cases d with
      | int i=>cases a;exact⟨i::l,by rw[e1];rfl,by rw[e2];rfl⟩
      | _=>cases f.1
   obtain⟨l,e1,e2⟩:=w ds xs f rs;exact⟨a,l,rfl,e1,by rw[<- e2];exact s⟩
theorem cT2:∀{kv:List (AD×Addr×V)} {kvs:List (AD×PyData)},kvs.all (λx=>w9 x.2)=true->kv.map (·.1)=kvs.map (·.1)->Reps K H (kv.map λx=>V.ref x.2.1) (kvs.map λx=>PyData.tuple (x.1.map PyData.int))->Reps K H (kv.map (·.2.2)) (kvs.map (·.2))->KvF K H kv kvs
 | [],[],_,_,_,_=>.nil
 | [],_::_,_,e,_,_=>by simp at e
 | _::_,[],_,e,_,_=>by simp at e
 | x::kv,y::kvs,f,e,r1,r2=>by
  simp only[Ac7,Bj]at e r1 r2;rw[List.all_cons,Aq]at f;cases r1 with
  | cons a1 b1=>
   cases r2 with
   | cons a2 b2=>
    refine .cons ⟨e.1,?_,bP3 f.1 a2⟩ (cT2 f.2 e.2 b1 b2);have z:bU5 K H (.ref x.2.1) (PyData.tuple (y.1.map PyData.int)):=bP3 (by simp[w9,List.all_map,Function.comp_def]) a1
    obtain⟨a,l,h1,h2,h3⟩:=z;cases h1
    have:y.1=l:=by
     have inj:∀(u v:AD),u.map PyData.int=v.map PyData.int->u=v:=λu=>by
      induction u with
      | nil=>intro v h;cases v <;> simp at h ⊢
      | cons c u ih=>intro v h;cases v with
       | nil=>simp at h
       | cons c' v=>simp at h;rw[h.1,ih v h.2]
     exact inj _ _ h2
    rw[e.1,this];exact h3
mutual
/-- the tree is a datum,where one sees its lists -/
theorem bF7 (m:Same Z H)(j:∀a xs,Rd H a (.tup xs)->Rd H' a (.tup xs))(w:Same Z H'):∀(t:OT) {v:V} {L:AL},(∀b∈L,H' b=H b)->Dp K Z H v t L->Rep K H' v t.data
 | .leaf d,_,_,_,r=>by cases r with | leaf r=>exact r.mono w
 | .tup ts,_,_,z,r=>by
  cases r with
  | tup s r=>exact .tup (s.imp (j _ _) id) (bH8 m j w ts z r)
 | .lst ts,_,_,z,r=>by
  cases r with
  | lst s r=>exact .lst (SqL.of (by rw[z _ (by simp)];exact s)) (bH8 m j w ts (λb h=>z b (by simp[h])) r)
 | .dic kvs,_,_,z,r=>by
  cases r with
  | dic s k Y X=>
   show Rep K H' _ (dD kvs)
   unfold dD;split
   .rename_i f;exact .dic (by rw[z _ (by simp)];exact s) (bQ1 w (cT2 f k Y X)) rfl
   .exact .ptr
theorem bH8 (j:Same Z H)(z:∀a xs,Rd H a (.tup xs)->Rd H' a (.tup xs))(w:Same Z H'):∀(ts:List OT) {vs:List V} {L:AL},(∀b∈L,H' b=H b)->Dps K Z H vs ts L->Reps K H' vs (OT.datas ts)
 | [],_,_,_,r=>by cases r;exact .nil
 | t::ts,_,_,hl,r=>by
  cases r with
  | cons a b=>exact .cons (bF7 j z w t (λb h=>hl b (by simp[h])) a) (bH8 j z w ts (λb h=>hl b (by simp[h])) b)
end
theorem Dp.mono (r:Dp K Z H v t L)(z:Same Z Z')(h:Same H H'):Dp K Z' H' v t L:=
 aD1 z (λ_ _=>Z8 h) t (λb w=>by obtain⟨xs,e⟩:=aB0 t r b w;rw[e];exact h _ _ e) r
end
inductive Sl where
 | no | val (d:PyData) | own (ds:AF) | bor (d:PyData) | tr (t:OT)
def Sl.os:Sl->Bool
 | .own _=>true
 | .tr _=>true
 | _=>false
def E3 (ρ:List Sl)(o:Nat->AL)(S:Addr->Prop)(b:Addr):Prop:=S b\/∃(i:Nat) (x:Sl),ρ[i]? = some x/\x.os=true/\b∈o i
structure Env (K:Frag)(S:Addr->Prop)(B H:Hp)(σ:St)(ρ:List Sl)(o:Nat->AL):Prop where
 len:σ.length=ρ.length
 base:Same B H
 sl:∀b,S b->∃u:HM,B b=some u.ho
 new:∀(i:Nat) (x:Sl),ρ[i]? = some x->x.os=true->∀b∈o i,B b=none
 inj:∀(i j:Nat) (x y:Sl),ρ[i]? = some x->ρ[j]? = some y->x.os=true->y.os=true->∀b,b∈o i->b∈o j->i=j
 own:∀(i:Nat) (ds:AF),ρ[i]? = some (.own ds)->∃p,o i=[p]/\σ[i]? = some (some (.ref p))/\∃xs,H p=some (.lst xs)/\Reps K (hid (E3 ρ o S) H) xs ds
 val:∀(i:Nat) (d:PyData),ρ[i]? = some (.val d)->∃v,σ[i]? = some (some v)/\Rep K (hid (E3 ρ o S) H) v d
 bor:∀(i:Nat) (d:PyData),ρ[i]? = some (.bor d)->∃v,σ[i]? = some (some v)/\Rep K H v d
 tr:∀(i:Nat) (t:OT),ρ[i]? = some (.tr t)->(o i).Nodup/\∃v,σ[i]? = some (some v)/\Dp K (hid (E3 ρ o S) H) H v t (o i)
section
theorem Env.grow (e:Env K S B H σ ρ o)(h:Same H H'):Env K S B H' σ ρ o:=
 ⟨e.len,L2.Same.tr e.base h,e.sl,e.new,e.inj,λi ds z=>by
  obtain⟨p,w,a,xs,b,c⟩:=e.own i ds z;exact⟨p,w,a,xs,h _ _ b,c.mono (K5 h)⟩,λi d z=>by
  obtain⟨v,a,b⟩:=e.val i d z;exact⟨v,a,b.mono (K5 h)⟩,λi d z=>by
  obtain⟨v,a,b⟩:=e.bor i d z;exact⟨v,a,b.mono h⟩,λi t z=>by
  obtain⟨n,v,a,b⟩:=e.tr i t z;exact⟨n,v,a,b.mono (K5 h) h⟩⟩
theorem Env.lists (e:Env K S B H σ ρ o):∀b,E3 ρ o S b->∃u:HM,H b=some u.ho:=λb z=>by
 rcases z with z | ⟨i,x,z,j,w⟩
 .obtain⟨xs,q⟩:=e.sl b z;exact⟨xs,e.base _ _ q⟩
 .cases x with
  | own ds=>
   obtain⟨p,m,_,xs,q,_⟩:=e.own i ds z;rw[m]at w;exact⟨.l xs,by rw[Ad8.mp w];exact q⟩
  | tr t=>
   obtain⟨_,v,_,q⟩:=e.tr i t z;exact aB0 t q b w
  | _=>cases j
theorem Env.imm (e:Env K S B H σ ρ o){v:V}{d:PyData}(i:imm d=true)(r:Rep K H v d):Rep K (hid (E3 ρ o S) H) v d:=
 bI8 (λ_ _ q=>u9 e.lists q) d i r
def cL5 (ρ:List Sl)(o:Nat->AL)(b:Addr):Prop:=∃(i:Nat) (x:Sl),ρ[i]? = some x/\x.os=true/\b∈o i
theorem Env.rebase (e:Env K S B H σ ρ o):Env K S (hid (cL5 ρ o) H) H σ ρ o/\Same B (hid (cL5 ρ o) H):=by
 have s:Same B (hid (cL5 ρ o) H):=λb x q=>
  hid_some.mpr ⟨(λ⟨i,y,z,m,w⟩=>by rw[e.new i y z m b w]at q;cases q),e.base b x q⟩
 refine⟨⟨e.len,P5,λb z=>?_,λi x z j b w=>?_,e.inj,e.own,e.val,e.bor,e.tr⟩,s⟩
 .obtain⟨xs,q⟩:=e.sl b z;exact⟨xs,s _ _ q⟩
 .unfold hid;exact Ac ⟨i,x,z,j,w⟩
end
noncomputable def vw (m:Bool)(S:Addr->Prop)(H:Hp):Hp:=match m with | true=>hid S H | false=>H
def E (K:Frag)(m:Bool)(t:TE)(ρ:List Sl)(d:PyData):Prop:=
 ∀(S:Addr->Prop) (B:Hp) (σ:St) (H:Hp) (o:Nat->AL),Env K S B H σ ρ o->∀Q:VK,(∀v H',Same H H'->Rep K (vw m (E3 ρ o S) H') v d->Q v H')->t σ H Q
def EF (K:Frag)(t:TE)(ρ:List Sl)(ds:AF):Prop:=
 ∀(S:Addr->Prop) (B:Hp) (σ:St) (H:Hp) (o:Nat->AL),Env K S B H σ ρ o->∀Q:VK,
  (∀p xs H',Same H H'->H p=none->H' p=some (.lst xs)->Reps K (hid (λb=>E3 ρ o S b\/b=p) H') xs ds->Q (.ref p) H')->t σ H Q
def T (K:Frag)(t:TT)(ρ:List Sl)(b:Bool):Prop:=
 ∀(S:Addr->Prop) (B:Hp) (σ:St) (H:Hp) (o:Nat->AL),Env K S B H σ ρ o->∀Q:Bool->Hp->Prop,(∀H',Same H H'->Q b H')->t σ H Q
def A (K:Frag)(m:Bool)(t:TA)(ρ:List Sl)(ds:AF):Prop:=
 ∀(S:Addr->Prop) (B:Hp) (σ:St) (H:Hp) (o:Nat->AL),Env K S B H σ ρ o->∀Q:List V->Hp->Prop,(∀vs H',Same H H'->Reps K (vw m (E3 ρ o S) H') vs ds->Q vs H')->t σ H Q
structure Wk (K:Frag)(Z:Hp)(J:It)(ds:AF):Prop where
 stop:∀i H,Same Z H->ds.length<=i->J.stop i H
 go:∀i H d,Same Z H->ds[i]? = some d->J.go i H
 yld:∀i H d x H',Same Z H->ds[i]? = some d->J.yld i H x H'->Same H H'/\∀S:Addr->Prop,(∀b,S b->Z b=none/\H b≠none)->Rep K (hid S H') x d
def I (K:Frag)(m:Bool)(wi:TI)(ρ:List Sl)(ds:AF):Prop:=
 ∀(S:Addr->Prop) (B:Hp) (σ:St) (H:Hp) (o:Nat->AL),Env K S B H σ ρ o->∀R:It->Hp->Prop,(∀J H',Same H H'->Wk K (vw m (E3 ρ o S) H') J ds->R J H')->wi σ H R
def G (K:Frag)(m:Bool)(g:TG)(d:PyData)(ρ ρ':List Sl):Prop:=(∀(o:Nat->AL) (S:Addr->Prop) (b:Addr),E3 ρ' o S b->E3 ρ o S b) /\
 ∀(S:Addr->Prop) (B:Hp) (σ:St) (H:Hp) (o:Nat->AL),Env K S B H σ ρ o->∀v,Rep K (vw m (E3 ρ o S) H) v d->∀Q:St->Hp->Prop,(∀σ',Env K S B H σ' ρ' o->Q σ' H)->g v σ H Q
def Gs (K:Frag)(m:Bool)(g:TGs)(ds:AF)(ρ ρ':List Sl):Prop:=(∀(o:Nat->AL) (S:Addr->Prop) (b:Addr),E3 ρ' o S b->E3 ρ o S b) /\
 ∀(S:Addr->Prop) (B:Hp) (σ:St) (H:Hp) (o:Nat->AL),Env K S B H σ ρ o->∀vs,Reps K (vw m (E3 ρ o S) H) vs ds->∀Q:St->Hp->Prop,(∀σ',Env K S B H σ' ρ' o->Q σ' H)->g vs σ H Q
structure AE where
 nx:List Sl->Prop
 rt:PyData->Prop:=λ_=>False
 rl:AF->Prop:=λ_=>False
 bk:List Sl->Prop:=λ_=>False
 ct:List Sl->Prop:=λ_=>False
structure Sat (K:Frag)(S:Addr->Prop)(B:Hp)(R:AE)(D:aT6):Prop where
 nx:∀ρ' σ' H' o',Env K S B H' σ' ρ' o'->R.nx ρ'->D.nx σ' H'
 rt:∀v d H',Same B H'->Rep K (hid S H') v d->R.rt d->D.rt v H'
 rl:∀p xs ds H',Same B H'->B p=none->H' p=some (.lst xs)->Reps K (hid (λb=>S b\/b=p) H') xs ds->R.rl ds->D.rt (.ref p) H'
 bk:∀ρ' σ' H' o',Env K S B H' σ' ρ' o'->R.bk ρ'->D.bk σ' H'
 ct:∀ρ' σ' H' o',Env K S B H' σ' ρ' o'->R.ct ρ'->D.ct σ' H'
def W (K:Frag)(t:TS)(ρ:List Sl)(R:AE):Prop:=
 ∀(S:Addr->Prop) (B:Hp) (D:aT6) (σ:St) (H:Hp) (o:Nat->AL),Env K S B H σ ρ o->Sat K S B R D->t D σ H
section
theorem z6:Same (vw m S H) H:=by cases m;exact L2.Same.rf _;exact P5
theorem aS2 (h:Same H H'):Same (vw m S H) (vw m S H'):=by cases m;exact h;exact K5 h
theorem E.bor (h:E K true t ρ d):E K m t ρ d:=λS B σ H o I Q q=>h S B σ H o I Q λv w s r=>q v w s (by cases m;exact r.mono P5;exact r)
theorem E.imm (h:E K m t ρ d)(i:imm d=true:=by rfl):E K true t ρ d:=λS B σ H o I Q q=>h S B σ H o I Q λv w s r=>q v w s ((I.grow s).imm i (r.mono z6))
theorem EF.e' (h:EF K t ρ ds):E K m t ρ (.list ds):=E.bor λS B σ H o I Q q=>h S B σ H o I Q λp xs w s n e r=>q _ _ s
 (.lst (SqL.of (hid_some.mpr ⟨(λz=>by obtain⟨j,y⟩:=I.lists p z;rw[n]at y;cases y),e⟩)) (r.mono (E2 (L2.Same.rf _) λb z _=>.inl z)))
theorem A9 (h:ρ[i]? = some (.val d)):E K m (C4 i) ρ d:=E.bor λS B σ H o I Q q=>by
 obtain⟨v,a,b⟩:=I.val i d h;exact⟨v,a,q v H (L2.Same.rf _) b⟩
theorem F2 (h:ρ[i]? = some (.own ds)):E K false (C4 i) ρ (.list ds):=λS B σ H o I Q q=>by
 obtain⟨p,w,a,xs,b,c⟩:=I.own i ds h;exact⟨_,a,q _ H (L2.Same.rf _) (.lst (SqL.of b) (c.mono P5))⟩
theorem dV9 {i:Nat}{t:OT}(h:ρ[i]? = some (.tr t)):E K false (C4 i) ρ t.data:=λS B σ H o I Q q=>by
 obtain⟨_,v,a,b⟩:=I.tr i t h;exact⟨_,a,q _ H (L2.Same.rf _) (bF7 P5 (λ_ _ z=>z) P5 t (λ_ _=>rfl) b)⟩
theorem y6 (h:ρ[i]? = some (.bor d)):E K false (C4 i) ρ d:=λS B σ H o I Q q=>by
 obtain⟨v,a,b⟩:=I.bor i d h;exact⟨v,a,q v H (L2.Same.rf _) b⟩
theorem cA0 (h:∀H,Rep K H v d):E K m (tC v) ρ d:=λS B σ H o I Q q=>q v H (L2.Same.rf _) (h _)
theorem B0:E K m (tC (.int i)) ρ (.int i):=cA0 λ_=>.int i
theorem aX9:E K m (tC (.bl b)) ρ (.bool b):=cA0 λ_=>.bl b
theorem bR3 (m1 m2:Bool)(Y:E K m1 ta ρ d)(X:E K m2 tb ρ d')
  (U:∀(S:Addr->Prop) (H:Hp) (x y:V) (Q:VK),(∀b,S b->∃u:HM,H b=some u.ho)->Rep K (vw m1 S H) x d->Rep K (vw m2 S H) y d'->(∀v H',Same H H'->Rep K (vw m S H') v f->Q v H')->r x y H Q):E K m (tOp r ta tb) ρ f:=
 λS B σ H o I Q q=>Y S B σ H o I _ λx H1 w J=>X S B σ H1 o (I.grow w) _ λy j z M=>
  U (E3 ρ o S) j x y Q ((I.grow w).grow z).lists (J.mono (aS2 z)) M λv H' s r=>q v H' (L2.Same.tr w (L2.Same.tr z s)) r
theorem bK3 (w:E K false ta ρ (.int i))(z:E K false tb ρ (.int j))(Y:∀(H:Hp) (Q:VK),(∀v,(∀H,Rep K H v f)->Q v H)->r (.int i) (.int j) H Q):E K m (tOp r ta tb) ρ f:=
 bR3 false false w z λS H x y Q _ X U q=>by
  cases X;cases U
  exact Y H Q λv r=>q v H (L2.Same.rf _) (r _)
theorem N0 {g:Int->Int->Int}{i j:Int}(w:E K false ta ρ (.int i))(z:E K false tb ρ (.int j)):E K m (tOp (rI0 λi j=>.int (g i j)) ta tb) ρ (.int (g i j)):=
 bK3 w z λH Q q=>⟨i,j,rfl,rfl,q _ λ_=>.int _⟩
theorem e_i {C:Int->Int->Prop}{g:Int->Int->Int}{i j:Int}(w:E K false ta ρ (.int i))(z:E K false tb ρ (.int j))(Y:C i j):E K m (tOp (rI C λi j=>.int (g i j)) ta tb) ρ (.int (g i j)):=
 bK3 w z λH Q q=>⟨i,j,rfl,rfl,Y,q _ λ_=>.int _⟩
theorem aD2 {g:Int->Int->Bool}{i j:Int}(w:E K false ta ρ (.int i))(z:E K false tb ρ (.int j)):E K m (tOp (rI0 λi j=>.bl (g i j)) ta tb) ρ (.bool (g i j)):=
 bK3 w z λH Q q=>⟨i,j,rfl,rfl,q _ λ_=>.bl _⟩
end
end LV
namespace LV
open PySem L2
section
theorem cO9 (r:Reps K H xs ds)(e:atI ds i=some d):∃v,atI xs i=some v/\Rep K H v d:=by
 unfold atI at e ⊢;rw[r.length];cases h:ixN ds.length i with
 | none=>rw[h]at e;cases e
 | some j=>rw[h]at e;exact r.get' (by simpa using e)
def sq:PyData->Option (AF)
 | .list ds=>some ds
 | .tuple ds=>some ds
 | _=>none
theorem E7 (j:E K m ta ρ d)(Y:E K false tb ρ (.int i))(z:sq d=some ds)(h:atI ds i=some d'):E K m (tOp (rIx K) ta tb) ρ d':=
 bR3 m false j Y λS H x y Q _ X U q=>by
  cases U;cases X with
  | lst s r=>
   cases z
   obtain⟨v,h1,w⟩:=cO9 r h;exact .inl ⟨_,_,i,v,rfl,rfl,H9 z6 s,h1,q v H (L2.Same.rf _) w⟩
  | tup s r=>
   cases z
   obtain⟨v,h1,w⟩:=cO9 r h;exact .inr (.inl ⟨_,_,i,v,rfl,rfl,F0 z6 s,h1,q v H (L2.Same.rf _) w⟩)
  | _=>cases z
theorem U1 {α:Type}{xs:List α}{i:Int}{v:α}(n:Nat)(w:i=n)(h:xs[n]? = some v):atI xs i=some v:=by
 subst w;unfold atI ixN
 have:=(Ab0.mp h).1
 rw[Ac (by lia),Ac (by lia)]
 simpa using h
theorem r9 {α:Type}{xs:List α}{v:α}:atI (xs++[v]) (-1)=some v:=by
 unfold atI ixN;rw[Ab (by lia),Ac (by simp;lia)]
 have:((-1:Int)+((xs++[v]).length:Nat)).toNat=xs.length:=by simp;lia
 rw[this];simp
theorem A8:A K m O1 ρ []:=λS B σ H o I Q q=>q [] H (L2.Same.rf _) .nil
theorem A4 (Y:E K m ta ρ d)(X:A K m tr ρ ds):A K m (C9 ta tr) ρ (d::ds):=λS B σ H o I Q q=>
 Y S B σ H o I _ λx H1 w U=>X S B σ H1 o (I.grow w) _ λxs j z rs=>q _ j (L2.Same.tr w z) (.cons (U.mono (aS2 z)) rs)
theorem D8 (h:H p=none):Same H (upd H p o):=λb x e=>by
 have:b≠p:=λz=>by rw[z,h]at e;cases e
 rw[B9 this];exact e
theorem G1 {t:TA}(h:A K m t ρ ds)(j:ds.length<=sizeLine:=by first | decide | (unfold sizeLine;simp)):E K m (aL8 t) ρ (.tuple ds):=λS B σ H o I Q q=>h S B σ H o I _ λxs H1 w rs=>⟨by rw[rs.length];exact j,λp hp=>by
 have g:=D8 (o:=.tup xs) hp
 refine q _ _ (L2.Same.tr w g) (.tup (.inl (.inl ?_)) (rs.mono (aS2 g)));cases m with
 | false=>exact C5
 | true=>exact hid_some.mpr ⟨(λz=>by obtain⟨Y,y⟩:=(I.grow w).lists p z;rw[hp]at y;cases y),C5⟩⟩
theorem bB3 (w:∀b,S b->∃u:HM,H b=some u.ho)(hp:H p=none)(r:Reps K (hid S H) xs ds):Reps K (hid (λb=>S b\/b=p) (upd H p (.lst ys))) xs ds:=
 r.mono (E2 (D8 hp) λb z n=>z.elim id λe=>absurd (by rw[e];exact hp) n)
theorem F4 {t:TA}(h:A K true t ρ ds)(z:ds.length<=sizeLine:=by first | decide | (unfold sizeLine;simp)):EF K (dL7 t) ρ ds:=λS B σ H o I Q q=>h S B σ H o I _ λxs H1 w rs=>⟨by rw[rs.length];exact z,λp hp=>
 q p xs _ (L2.Same.tr w (D8 hp)) (by cases e:H p with | none=>rfl | some x=>rw[w _ _ e]at hp;cases hp) C5 (bB3 (I.grow w).lists hp rs)⟩
def spV (K:Frag)(pre:AF->PyData->Prop):Sp:=λvs H Q _=>∃(ds:AF) (S:Addr->Prop) (d:PyData),(∀b,S b->∃u:HM,H b=some u.ho)/\Reps K (hid S H) vs ds/\pre ds d /\
 ∀v H',Same H H'->Rep K (hid S H') v d->Q v H'
def spL (K:Frag)(pre:AF->AF->Prop):Sp:=λvs H Q _=>∃(ds:AF) (S:Addr->Prop) (es:AF),(∀b,S b->∃u:HM,H b=some u.ho)/\Reps K (hid S H) vs ds/\pre ds es /\
 ∀p xs H',Same H H'->H p=none->H' p=some (.lst xs)->Reps K (hid (λb=>S b\/b=p) H') xs es->Q (.ref p) H'
theorem bH2:hid (λ_=>False) H=H:=by funext b;unfold hid;exact Ab id
theorem D7 {pre:AF->PyData->Prop}{t:TA}{X:XK}(j:A K true t ρ ds)(hp:pre ds d):E K m (Y7 (spV K pre) [] X t) ρ d:=E.bor λS B σ H o I Q q=>
 j S B σ H o I _ λvs H1 w rs=>⟨ds,E3 ρ o S,d,(I.grow w).lists,by rw[Bq];exact rs,hp,λv z s r=>q v z (L2.Same.tr w s) r⟩
theorem cU9 (Y:A K false t ρ ds)(hp:pre ds d)(hi:imm d=true):E K m (Y7 (spV K pre) [] X t) ρ d:=E.bor λS B σ H o I Q q=>
 Y S B σ H o I _ λvs H1 w rs=>⟨ds,λ_=>False,d,λ_ z=>z.elim,by rw[Bq,bH2];exact rs,hp,λv j s r=>q v j (L2.Same.tr w s) ((I.grow (L2.Same.tr w s)).imm hi (by rw[bH2]at r;exact r))⟩
theorem T2 (s:Same H H1)(h:H1 p=none):H p=none:=by
 cases e:H p with
 | none=>rfl
 | some x=>rw[s _ _ e]at h;cases h
theorem J5 {pre:AF->AF->Prop}{t:TA}{X:XK}(j:A K true t ρ ds)(hp:pre ds es):EF K (Y7 (spL K pre) [] X t) ρ es:=λS B σ H o I Q q=>
 j S B σ H o I _ λvs H1 w rs=>⟨ds,E3 ρ o S,es,(I.grow w).lists,by rw[Bq];exact rs,hp,λp xs z s n e r=>q p xs z (L2.Same.tr w s) (T2 w n) e r⟩
theorem C3 (h:E K false t ρ (.bool b)):T K (aD8 t) ρ b:=λS B σ H o I Q q=>h S B σ H o I _ λv w s r=>by cases r;exact⟨b,rfl,q w s⟩
theorem t_b (h:E K false t ρ (.bool b)):T K (tB t) ρ b:=λS B σ H o I Q q=>h S B σ H o I _ λv w s r=>by cases r;exact⟨b,rfl,q w s⟩
theorem z5 (h:T K u ρ a)(h':a=true->T K w ρ b):T K (dU7 u w) ρ (a&&b):=λS B σ H o I Q q=>h S B σ H o I _ λH1 z=>by
 cases a with
 | false=>exact q H1 z
 | true=>exact h' rfl S B σ H1 o (I.grow z) _ λj m=>q j (L2.Same.tr z m)
theorem bQ3 (h:T K u ρ a)(h':a=false->T K w ρ b):T K (tOr u w) ρ (a||b):=λS B σ H o I Q q=>h S B σ H o I _ λH1 z=>by
 cases a with
 | true=>exact q H1 z
 | false=>exact h' rfl S B σ H1 o (I.grow z) _ λj m=>q j (L2.Same.tr z m)
theorem z4 (h:T K u ρ a):T K (dP4 u) ρ (!a):=λS B σ H o I Q q=>h S B σ H o I _ q
theorem cJ2 (h:E K false ta ρ (.bool a))(h':a=true->E K false tb ρ (.bool b)):E K m (dC8 ta tb) ρ (.bool (a&&b)):=E.bor (E.imm (m:=false) λS B σ H o I Q q=>h S B σ H o I _ λv H1 w r=>by
 cases r
 refine⟨a,rfl,?_⟩;cases a with
 | false=>exact q _ H1 w (.bl _)
 | true=>exact h' rfl S B σ H1 o (I.grow w) _ λv z j r=>q v z (L2.Same.tr w j) r)
theorem dP1 (h:E K false ta ρ (.bool a)):E K m (dE2 ta) ρ (.bool (!a)):=E.bor (E.imm (m:=false) λS B σ H o I Q q=>h S B σ H o I _ λv H1 w r=>by
 cases r
 exact⟨a,rfl,q _ H1 w (.bl _)⟩)
theorem dT7 (h:T K u ρ a)(h1:a=true->E K m ta ρ d)(Y:a=false->E K m tb ρ d):E K m (tIf u ta tb) ρ d:=λS B σ H o I Q q=>h S B σ H o I _ λH1 w=>by
 cases a with
 | true=>exact h1 rfl S B σ H1 o (I.grow w) _ λv z j r=>q v z (L2.Same.tr w j) r
 | false=>exact Y rfl S B σ H1 o (I.grow w) _ λv z j r=>q v z (L2.Same.tr w j) r
theorem cV1 (s:SqL K Z a xs)(r:Reps K Z xs ds):Wk K Z (Itl K a) ds where
 stop:=λi H h l=>⟨xs,H9 h s,by rw[r.length];exact l⟩
 go:=λi H d h e=>by
  obtain⟨v,h1,_⟩:=r.get' e;exact⟨xs,v,H9 h s,h1⟩
 yld:=λi H d x m h e y=>by
  obtain⟨rfl,y⟩:=y
  have:=y xs (H9 h s)
  obtain⟨Y,h1,w⟩:=r.get this;rw[e]at h1;cases h1;refine⟨L2.Same.rf _,λS j=>w.mono λb o q=>hid_some.mpr ⟨λz=>?_,h b o q⟩⟩
  rw[(j b z).1]at q;cases q
theorem dL4 (s:SqT K Z a xs)(r:Reps K Z xs ds):Wk K Z (Itt K a) ds where
 stop:=λi H h l=>⟨xs,F0 h s,by rw[r.length];exact l⟩
 go:=λi H d h e=>by
  obtain⟨v,h1,_⟩:=r.get' e;exact⟨xs,v,F0 h s,h1⟩
 yld:=λi H d x m h e y=>by
  obtain⟨rfl,y⟩:=y
  have:=y xs (F0 h s)
  obtain⟨Y,h1,w⟩:=r.get this;rw[e]at h1;cases h1;refine⟨L2.Same.rf _,λS j=>w.mono λb o q=>hid_some.mpr ⟨λz=>?_,h b o q⟩⟩
  rw[(j b z).1]at q;cases q
def U4 (lo:Int)(n:Nat):AF:=(List.range n).map λ(i:Nat)=>PyData.int (lo+(i:Int))
theorem cI8:Wk K Z (Itr lo n) (U4 lo n) where
 stop:=λi H h l=>by
  have:n<=i:=by simpa[U4]using l
  exact this
 go:=λi H d h e=>by
  have:=(Ab0.mp e).1
  have:i<n:=by simpa[U4]using this
  exact this
 yld:=λi H d x z h e y=>by
  obtain⟨rfl,rfl⟩:=y
  have:d=.int (lo+i):=by
   have hi:=(Ab0.mp e).1
   have w:i<n:=by simpa[U4]using hi
   unfold U4 at e;rw[Aa9,List.getElem?_range w]at e;exact(Ab4 e).symm
  subst this;exact⟨L2.Same.rf _,λS j=>.int _⟩
theorem P6 (h:E K m t ρ (.list ds)):I K m (dC9 K t) ρ ds:=λS B σ H o J R q=>h S B σ H o J _ λv H1 w r=>by
 cases r with
 | lst s r=>exact⟨_,rfl,⟨_,H9 z6 s⟩,q _ H1 w (cV1 s r)⟩
theorem aE0 (h:E K m t ρ (.tuple ds)):I K m (dS0 K t) ρ ds:=λS B σ H o J R q=>h S B σ H o J _ λv H1 w r=>by
 cases r with
 | tup s r=>exact⟨_,rfl,⟨_,F0 z6 s⟩,q _ H1 w (dL4 s r)⟩
theorem T3 {t:TA}{j:Int}(h:A K false t ρ [.int j])(h1 : -(2^62)<=j)(w:j<2^62):I K m (dE3 t) ρ (U4 0 j.toNat):=λS B σ H o J R q=>h S B σ H o J _ λvs H1 z r=>by
 cases r with
 | cons a b=>cases a;cases b;exact⟨j,rfl,h1,w,q _ H1 z cI8⟩
theorem dN9 (h:A K false t ρ [.int i,.int j])(w : -(2^62)<=i/\i<2^62 /\ -(2^62)<=j/\j<2^62):I K m (dF7 t) ρ (U4 i (j-i).toNat):=λS B σ H o J R q=>h S B σ H o J _ λvs H1 z r=>by
 cases r with
 | cons a b=>cases a;cases b with | cons a b=>cases a;cases b;exact⟨i,j,rfl,w,q _ H1 z cI8⟩
theorem aS3 (m:x.os=false)(z:E3 (ρ.set i x) o S b):E3 ρ o S b:=by
 rcases z with z | ⟨j,y,h,w,e⟩
 .exact .inl z
 .refine .inr ⟨j,y,?_,w,e⟩;rw[List.getElem?_set]at h;by_cases c:i=j
  .rw[Ac c]at h;split at h
   .rw[<- Ab4 h,m]at w;cases w
   .cases h
  .rw[Ab c]at h;exact h
def slot (m:Bool)(d:PyData):Sl:=match m with | true=>.val d | false=>.bor d
theorem Env.set (I:Env K S B H σ ρ o)(i:Nat)(r:Rep K (vw m (E3 ρ o S) H) v d):Env K S B H (σ.set i (some v)) (ρ.set i (slot m d)) o:=by
 have J:(slot m d).os=false:=by cases m <;> rfl
 have nd:∀{x:Sl},x.os=true->x≠slot m d:=λ{x} h e=>by rw[e,J]at h;cases h
 have at_:∀{j:Nat} {x:Sl},x≠slot m d->(ρ.set i (slot m d))[j]? = some x->i≠j/\ρ[j]? = some x:=λ{j x} w h=>by
  rw[List.getElem?_set]at h;by_cases c:i=j
  .rw[Ac c]at h;split at h
   .exact absurd (Ab4 h).symm w
   .cases h
  .rw[Ab c]at h;exact⟨c,h⟩
 have g:Same (hid (E3 ρ o S) H) (hid (E3 (ρ.set i (slot m d)) o S) H):=E2 (L2.Same.rf _) λb z _=>aS3 J z
 refine⟨by simp[I.len],I.base,I.sl,λj x h w=>I.new j x (at_ (nd w) h).2 w,λj k x y h M w U=>I.inj j k x y (at_ (nd w) h).2 (at_ (nd U) M).2 w U,λj ds h=>?_,λj X h=>?_,λj X h=>?_,λj t h=>?_⟩
 .obtain⟨c,h⟩:=at_ (nd rfl) h;obtain⟨p,N,a,xs,b,R⟩:=I.own j ds h;exact⟨p,N,by rw[Ad0 c];exact a,xs,b,R.mono g⟩
 .by_cases c:i=j
  .subst c;have Y:i<ρ.length:=by
    have:=(Ab0.mp h).1
    simpa using this
   rw[Bc (by simpa using Y)]at h
   cases m with
   | false=>simp[slot]at h
   | true=>
    simp[slot]at h;subst h
    exact⟨v,Bc (by rw[I.len];exact Y),r.mono g⟩
  .rw[Ad0 c]at h;obtain⟨u,a,b⟩:=I.val j X h;exact⟨u,by rw[Ad0 c];exact a,b.mono g⟩
 .by_cases c:i=j
  .subst c;have Y:i<ρ.length:=by
    have:=(Ab0.mp h).1
    simpa using this
   rw[Bc (by simpa using Y)]at h
   cases m with
   | true=>simp[slot]at h
   | false=>
    simp[slot]at h;subst h
    exact⟨v,Bc (by rw[I.len];exact Y),r⟩
  .rw[Ad0 c]at h;obtain⟨u,a,b⟩:=I.bor j X h;exact⟨u,by rw[Ad0 c];exact a,b⟩
 .obtain⟨c,h⟩:=at_ (nd rfl) h;obtain⟨n,u,a,b⟩:=I.tr j t h;exact⟨n,u,by rw[Ad0 c];exact a,b.mono g (L2.Same.rf _)⟩
theorem cZ2:(slot m d).os=false:=by cases m <;> rfl
theorem B4:G K m (F5 i) d ρ (ρ.set i (slot m d)):=⟨λo S b z=>aS3 cZ2 z,λS B σ H o I v r Q q=>q _ (I.set i r)⟩
theorem T7:Gs K m aY4 [] ρ ρ:=⟨λ_ _ _ z=>z,λS B σ H o I vs r Q q=>by cases r;exact⟨rfl,q σ I⟩⟩
theorem dI4 (h:∀(o:Nat->AL) (S:Addr->Prop) (b:Addr),E3 ρ' o S b->E3 ρ o S b):Same (vw m (E3 ρ o S) H) (vw m (E3 ρ' o S) H):=by
 cases m with
 | false=>exact L2.Same.rf _
 | true=>exact E2 (L2.Same.rf _) λb z _=>h o S b z
theorem E6 (h:G K m g d ρ ρ1)(h':Gs K m gs ds ρ1 ρ'):Gs K m (T0 g gs) (d::ds) ρ ρ':=⟨λo S b z=>h.1 o S b (h'.1 o S b z),λS B σ H o I vs r Q q=>by
 cases r with
 | cons a b=>exact⟨_,_,rfl,h.2 S B σ H o I _ a _ λj w=>h'.2 S B j H o w _ (b.mono (dI4 h.1)) _ q⟩⟩
theorem k7 (h:Gs K m gs ds ρ ρ')(w:ds.length=n:=by rfl):G K m (bJ6 K n gs) (.tuple ds) ρ ρ':=⟨h.1,λS B σ H o I v r Q q=>by
 cases r with
 | tup s r=>exact⟨_,_,rfl,F0 z6 s,by rw[r.length];exact w,h.2 S B σ H o I _ r _ q⟩⟩
theorem B2 {t u:TS}{R:AE}(h:W K t ρ {R with nx:=λρ'=>W K u ρ' R}):W K (cZ9 t u) ρ R:=λS B D σ H o I s=>
 h S B {D with nx:=u D} σ H o I ⟨λρ' Y z m j w=>w S B D Y z m j s,s.rt,s.rl,s.bk,s.ct⟩
theorem F9 (h:R.nx ρ):W K dD6 ρ R:=λS B D σ H o I s=>s.nx ρ σ H o I h
theorem cH1 (h:E K m t ρ d)(j:G K m g d ρ ρ')(Y:R.nx ρ'):W K (aP5 t g) ρ R:=λS B D σ H o I s=>
 h S B σ H o I _ λv w X r=>j.2 S B σ w o (I.grow X) v r _ λU z=>s.nx _ U w o z Y
theorem F3 (h:E K true t ρ d)(w:R.nx (ρ.set i (.val d))):W K (aP5 t (F5 i)) ρ R:=cH1 (ρ' := ρ.set i (.val d)) h B4 w
theorem L6 (h:E K true t ρ d)(j:R.rt d):W K (cJ4 t) ρ R:=λS B D σ H o I s=>
 h S B σ H o I _ λv w m r=>s.rt v d w (L2.Same.tr I.base m) (r.mono (E2 (L2.Same.rf _) λb z _=>.inl z)) j
theorem u4 (h:EF K t ρ ds)(j:R.rl ds):W K (cJ4 t) ρ R:=λS B D σ H o I s=>
 h S B σ H o I _ λp xs w m n e r=>s.rl p xs ds w (L2.Same.tr I.base m) (T2 I.base n) e (r.mono (E2 (L2.Same.rf _) λb z _=>z.imp .inl id)) j
theorem bJ2 (h:ρ[i]? = some (.own ds))(w:R.rl ds):W K (cJ4 (C4 i)) ρ R:=λS B D σ H o I s=>by
 obtain⟨p,hp,a,xs,b,c⟩:=I.own i ds h;exact⟨_,a,s.rl _ xs ds H I.base (I.new i _ h rfl _ (by rw[hp];simp)) b (c.mono (E2 (L2.Same.rf _) λb z _=>z.elim .inl λe=>.inr ⟨i,_,h,rfl,by rw[hp,e];simp⟩)) w⟩
theorem U8 {c:TT}{t u:TS}{b:Bool}{R:AE}(h:T K c ρ b)(h1:b=true->W K t ρ R)(j:b=false->W K u ρ R):W K (cH6 c t u) ρ R:=λS B D σ H o I s=>h S B σ H o I _ λw z=>by
 cases b with
 | true=>exact h1 rfl S B D σ w o (I.grow z) s
 | false=>exact j rfl S B D σ w o (I.grow z) s
theorem W.weak {t:TS}{R R':AE}(h:W K t ρ R)(h1:∀ρ,R.nx ρ->R'.nx ρ)(U:∀d,R.rt d->R'.rt d)(J:∀d,R.rl d->R'.rl d)(M:∀ρ,R.bk ρ->R'.bk ρ)(N:∀ρ,R.ct ρ->R'.ct ρ):W K t ρ R':=λS B D σ H o I s=>
 h S B D σ H o I ⟨λY X z m j w=>s.nx Y X z m j (h1 _ w),λv d z a b c=>s.rt v d z a b (U _ c),λp xs ds z a b c e w=>s.rl p xs ds z a b c e (J _ w),λY X z m j w=>s.bk Y X z m j (M _ w),λY X z m j w=>s.ct Y X z m j (N _ w)⟩
def bI3 (o:Nat->AL)(i:Nat)(L:AL)(j:Nat):AL:=if j=i then L else o j
theorem T5:bI3 o i L i=L:=Ac rfl
theorem S9 (h:i≠j):bI3 o i L j=o j:=Ab λz=>h z.symm
def Holds (K:Frag)(Z H:Hp)(v:V)(x:Sl)(L:AL):Prop:=
 (∃ds p xs,x=.own ds/\L=[p]/\v=.ref p/\H p=some (.lst xs)/\Reps K Z xs ds)\/∃t,x=.tr t/\L.Nodup/\Dp K Z H v t L
theorem Holds.os {Z H:Hp}{v:V}{x:Sl}{L:AL}(h:Holds K Z H v x L):x.os=true:=by
 rcases h with⟨ds,p,xs,rfl,_⟩ | ⟨t,rfl,_⟩ <;> rfl
def cE0 (ρ:List Sl)(o:Nat->AL)(i:Nat)(b:Addr):Prop:=∃y,ρ[i]? = some y/\y.os=true/\b∈o i
theorem Env.put (I:Env K S B H σ ρ o)(i:Nat)(hi:i<ρ.length)(D:Addr->Prop)(hD:∀b,D b->cE0 ρ o i b)
  (F:∀b y,H b=some y->¬D b->H' b=some y) (hL:∀b∈L,cE0 ρ o i b\/H b=none) (hx:Holds K (hid (λb=>E3 ρ o S b\/b∈L) H') H' v x L)
  (nb:(∀b,¬D b)\/∀(j:Nat) (d:PyData),ρ[j]?≠some (Sl.bor d)):Env K S B H' (σ.set i (some v)) (ρ.set i x) (bI3 o i L):=by
 have P:=hx.os
 have at_:∀{j:Nat} {y:Sl},i≠j->(ρ.set i x)[j]? = some y->ρ[j]? = some y:=λ{j y} c h=>by rw[Ad0 c]at h;exact h
 have X:(ρ.set i x)[i]? = some x:=Bc hi
 have sub:∀b,E3 (ρ.set i x) (bI3 o i L) S b->E3 ρ o S b\/b∈L:=λb z=>by
  rcases z with z | ⟨j,y,h,Y,e'⟩
  .exact .inl (.inl z)
  .by_cases c:i=j
   .subst c;rw[T5]at e';exact .inr e'
   .rw[S9 c]at e';exact .inl (.inr ⟨j,y,at_ c h,Y,e'⟩)
 have N:∀b,cE0 ρ o i b->E3 ρ o S b:=λb ⟨y,h1,U,J⟩=>.inr ⟨i,y,h1,U,J⟩
 have g:Same (hid (E3 ρ o S) H) (hid (E3 (ρ.set i x) (bI3 o i L) S) H'):=λb y q=>by
  obtain⟨a,q⟩:=hid_some.mp q;refine hid_some.mpr ⟨λz=>?_,F b y q λz=>a (N b (hD b z))⟩
  rcases sub b z with z | z
  .exact a z
  .rcases hL b z with z | z
   .exact a (N b z)
   .rw[z]at q;cases q
 have ht:∀a ys,Rd H a (.tup ys)->Rd H' a (.tup ys):=λa ys r=>by
  have n:¬D a:=λz=>by
   obtain⟨zs,e⟩:=I.lists a (N a (hD a z));rcases r with r | ⟨o,r⟩ <;> rw[e]at r <;> replace r:=Ab4 r
   .exact HM.nt r
   .exact HM.nf r
  rcases r with r | ⟨o,r⟩
  .exact .inl (F _ _ r n)
  .exact .inr ⟨o,F _ _ r n⟩
 have far:∀{j:Nat} {y:Sl},i≠j->ρ[j]? = some y->y.os=true->∀b∈o j,¬D b:=λ{j y} c h Y b m z=>by
  obtain⟨w,h1,U,J⟩:=hD b z;exact c (I.inj i j w y h1 h U Y b J m)
 have kept:∀{j:Nat} {y:Sl},i≠j->ρ[j]? = some y->y.os=true->∀b∈o j,H' b=H b:=λ{j y} c h Y b m=>by
  obtain⟨zs,e⟩:=I.lists b (.inr ⟨j,y,h,Y,m⟩);rw[e];exact F _ _ e (far c h Y b m)
 have Q:∀{j:Nat} {y:Sl},i≠j->ρ[j]? = some y->y.os=true->∀b∈o j,b∉L:=λ{j y} c h Y b m z=>by
  rcases hL b z with⟨w,h1,U,J⟩ | z
  .exact c (I.inj i j w y h1 h U Y b J m)
  .obtain⟨zs,e⟩:=I.lists b (.inr ⟨j,y,h,Y,m⟩);rw[z]at e;cases e
 have base:Same B H':=λb y q=>F b y (I.base b y q) λz=>by
  obtain⟨w,h1,U,J⟩:=hD b z;rw[I.new i w h1 U b J]at q;cases q
 refine⟨by simp[I.len],base,I.sl,λj y h Y b m=>?_,λj k y z h h' Y hz b m M=>?_,λj es h=>?_,λj d' h=>?_,λj d' h=>?_,λj t h=>?_⟩
 .by_cases c:i=j
  .subst c;rw[T5]at m;rcases hL b m with⟨w,h1,U,J⟩ | z
   .exact I.new i w h1 U b J
   .exact T2 I.base z
  .rw[S9 c]at m;exact I.new j y (at_ c h) Y b m
 .by_cases c:i=j
  .subst c;by_cases R:i=k
   .exact R
   .rw[T5]at m;rw[S9 R]at M;exact absurd m (Q R (at_ R h') hz b M)
  .by_cases R:i=k
   .subst R;rw[T5]at M;rw[S9 c]at m;exact absurd M (Q c (at_ c h) Y b m)
   .rw[S9 c]at m;rw[S9 R]at M;exact I.inj j k y z (at_ c h) (at_ R h') Y hz b m M
 .by_cases c:i=j
  .subst c;rw[X]at h;cases h;rw[T5];rcases hx with⟨ds,p,xs,e,U,J,h4,h5⟩ | ⟨t,e,_⟩
   .cases e
    exact⟨p,U,by rw[Bc (by rw[I.len];exact hi),J],xs,h4,h5.mono (E2 (L2.Same.rf _) λb z _=>sub b z)⟩
   .cases e
  .rw[S9 c];obtain⟨p,o',a,ys,b,r'⟩:=I.own j es (at_ c h);exact⟨p,o',by rw[Ad0 c];exact a,ys,by rw[kept c (at_ c h) rfl p (by rw[o'];simp)];exact b,r'.mono g⟩
 .by_cases c:i=j
  .subst c;rw[X]at h;cases h;cases P
  .obtain⟨u,a,b⟩:=I.val j d' (at_ c h);exact⟨u,by rw[Ad0 c];exact a,b.mono g⟩
 .by_cases c:i=j
  .subst c;rw[X]at h;cases h;cases P
  .rcases nb with nb | nb
   .obtain⟨u,a,b⟩:=I.bor j d' (at_ c h);exact⟨u,by rw[Ad0 c];exact a,b.mono λb y q=>F b y q (nb b)⟩
   .exact absurd (at_ c h) (nb j d')
 .by_cases c:i=j
  .subst c;rw[X]at h;cases h;rw[T5];rcases hx with⟨ds,p,xs,e,_⟩ | ⟨t',e,U,J⟩
   .cases e
   .cases e
    exact⟨U,v,Bc (by rw[I.len];exact hi),J.mono (E2 (L2.Same.rf _) λb z _=>sub b z) (L2.Same.rf _)⟩
  .rw[S9 c];obtain⟨n,u,a,b⟩:=I.tr j t (at_ c h);exact⟨n,u,by rw[Ad0 c];exact a,aD1 g ht t (kept c (at_ c h) rfl) b⟩
theorem Env.setF (I:Env K S B H σ ρ o)(i:Nat)(s:Same H H')(n:H p=none)(e:H' p=some (.lst xs))(r:Reps K (hid (λb=>E3 ρ o S b\/b=p) H') xs ds)(hi:i<ρ.length) :
  Env K S B H' (σ.set i (some (.ref p))) (ρ.set i (.own ds)) (bI3 o i [p]):=
 I.put i hi (λ_=>False) (λ_ z=>z.elim) (λb y q _=>s b y q) (λb z=>.inr (by rw[Ad8.mp z];exact n)) (.inl ⟨ds,p,xs,rfl,rfl,rfl,e,r.mono (E2 (L2.Same.rf _) λb z _=>z.imp id λz=>Ad8.mp z)⟩) (.inl λ_ z=>z)
theorem aT2 {α:Type}{l:List α}{i:Nat}{a:α}(h:l[i]? = some a):l.set i a=l:=by
 obtain⟨h1,w⟩:=Ab0.mp h;rw[<- w];exact List.set_getElem_self h1
theorem E4 (h:EF K t ρ ds)(z:R.nx (ρ.set i (.own ds)))(hi:i<ρ.length:=by first | decide | (simp;done) | (simp[LV.sl0];done)):W K (aP5 t (F5 i)) ρ R:=λS B D σ H o I s=>
 h S B σ H o I _ λp xs w j n e r=>s.nx _ _ w _ (I.setF i j n e r hi) z
theorem Env.upd (I:Env K S B H σ ρ o)(h:ρ[i]? = some (.own ds))(hp:o i=[p])(r:Reps K (hid (E3 ρ o S) H) xs es)(nb:∀(j:Nat) (d:PyData),ρ[j]?≠some (Sl.bor d)) :
  Env K S B (upd H p (.lst xs)) σ (ρ.set i (.own es)) (bI3 o i [p]):=by
 have hi:i<ρ.length:=(Ab0.mp h).1
 obtain⟨U,w,a,J,b,c⟩:=I.own i ds h;rw[hp]at w;cases w;have m:cE0 ρ o i p:=⟨_,h,rfl,by rw[hp];simp⟩
 have os:E3 ρ o S p:=.inr ⟨i,_,h,rfl,by rw[hp];simp⟩
 have:=I.put (H':=L2.upd H p (.lst xs)) (v:=.ref p) (x:=.own es) (L:=[p]) i hi (λb=>b=p) (λb z=>by rw[z];exact m) (λb y q z=>by rw[B9 z];exact q) (λb z=>.inl (by rw[Ad8.mp z];exact m))
  (.inl ⟨es,p,xs,rfl,rfl,rfl,C5,r.mono λb y q=>by
   obtain⟨Y,X⟩:=hid_some.mp q;refine hid_some.mpr ⟨λz=>Y (z.elim id λz=>by rw[Ad8.mp z];exact os),?_⟩
   rw[B9 (λz=>Y (by rw[z];exact os))];exact X⟩) (.inr nb)
 rw[aT2 a]at this;exact this
def O0:List Sl->Bool
 | []=>true
 | .bor _::_=>false
 | _::r=>O0 r
theorem J4:∀{ρ:List Sl},O0 ρ=true->∀(j:Nat) (d:PyData),ρ[j]?≠some (Sl.bor d)
 | [],_,j,d=>by simp
 | .bor _::_,h,_,_=>by cases h
 | .no::r,h,0,d=>by simp
 | .no::r,h,j+1,d=>by simpa using J4 (ρ:=r) h j d
 | .val _::r,h,0,d=>by simp
 | .val _::r,h,j+1,d=>by simpa using J4 (ρ:=r) h j d
 | .own _::r,h,0,d=>by simp
 | .own _::r,h,j+1,d=>by simpa using J4 (ρ:=r) h j d
 | .tr _::r,h,0,d=>by simp
 | .tr _::r,h,j+1,d=>by simpa using J4 (ρ:=r) h j d
theorem G8 (hi:ρ[i]? = some (.own ds))(h:E K true t ρ d)(z:ds.length<sizeLine)(j:R.nx (ρ.set i (.own (ds++[d]))))(nb:O0 ρ=true:=by rfl) :
  W K (aZ1 (tBM K "list" aM7 (C4 i) (C9 t O1))) ρ R:=λS B D σ H o I s=>by
 obtain⟨p,hp,a,xs,b,c⟩:=I.own i ds hi;refine⟨_,a,.inl ⟨rfl,xs,SqL.of b⟩,?_⟩;refine h S B σ H o I _ λv m w r=>?_
 refine⟨_,xs,v,rfl,rfl,w _ _ b,by rw[c.length];exact z,?_⟩
 exact s.nx _ σ _ _ ((I.grow w).upd hi hp ((c.mono (K5 w)).append (.cons r .nil)) (J4 nb)) j
theorem bG6 (hi:ρ[i]? = some (.own ds))(hp:o i=[p]):Same (hid (E3 ρ o S) H) (hid (E3 (ρ.set i (.own es)) (bI3 o i [p]) S) (L2.upd H p (.lst xs))):=λU x q=>by
 obtain⟨m,X⟩:=hid_some.mp q;refine hid_some.mpr ⟨λz=>m ?_,?_⟩
 .rcases z with z | ⟨k,y,j,Y,e'⟩
  .exact .inl z
  .by_cases w:i=k
   .subst w;rw[T5,<- hp]at e';exact .inr ⟨i,_,hi,rfl,e'⟩
   .rw[Ad0 w]at j;rw[S9 w]at e';exact .inr ⟨k,y,j,Y,e'⟩
 .rw[B9 (λz=>m (.inr ⟨i,_,hi,rfl,by rw[hp,z];simp⟩))];exact X
theorem dP8 (hi:ρ[i]? = some (.own (ds++[d])))(U:R.nx ((ρ.set i (.own ds)).set j (.val d)))(nb:O0 ρ=true:=by rfl) :
  W K (aP5 (cY6 K "list" dB5 (C4 i)) (F5 j)) ρ R:=λS B D σ H o I s=>by
 obtain⟨p,hp,a,xs,b,c⟩:=I.own i _ hi;have X:=c.length;obtain⟨y,h1,Y⟩:=c.get' (i:=ds.length) (d:=d) (by simp)
 refine⟨_,a,.inl ⟨rfl,xs,SqL.of b⟩,_,xs,y,rfl,rfl,b,?_,?_⟩
 .rw[X];simpa using h1
 .have w:=c.dropLast
  rw[List.dropLast_concat]at w;have z:=I.upd hi hp w (J4 nb);refine s.nx _ _ _ _ (Env.set (m:=true) z j (Y.mono ?_)) U;exact bG6 hi hp
theorem N9 {wi:TI}{g:TG}{tb:TS}{R:AE}(hi:I K true wi ρ ds)(P:Nat->List Sl->Prop)(h0:P 0 ρ)
  (turn:∀i d ρ',ds[i]? = some d->P i ρ'->∃ρ'',G K true g d ρ' ρ''/\W K tb ρ'' {R with nx:=P (i+1),ct:=P (i+1),bk:=R.nx}) (hn:∀ρ',P ds.length ρ'->R.nx ρ'):W K (dV0 wi g tb) ρ R:=λS B D σ H o I0 s=>
 hi S B σ H o I0 _ λJ H1 s1 wk=>by
  obtain⟨I1,U⟩:=(I0.grow s1).rebase;generalize hB:hid (cL5 ρ o) H1=B' at I1 U;have sz:Same (hid (E3 ρ o S) H1) B':=λb x q=>by
   obtain⟨q1,q2⟩:=hid_some.mp q;rw[<- hB];exact hid_some.mpr ⟨λz=>q1 (.inr z),q2⟩
  refine⟨λi m σ' H'=>i<=ds.length/\m=ds.length-i/\∃ρ' N,Env K S B' H' σ' ρ' N/\P i ρ',⟨_,Ci _,rfl,ρ,o,I1,h0⟩,?_⟩
  rintro i k σ' H' ⟨hl,rfl,ρ',N,Y,p⟩;have zH:=L2.Same.tr sz Y.base;by_cases c:i=ds.length
  .subst c;exact .inl ⟨wk.stop _ _ zH (Aa7 _),s.nx ρ' σ' H' N ⟨Y.len,L2.Same.tr U Y.base,λb z=>(I0.sl b z),λi ds z hz b F=>T2 U (Y.new i ds z hz b F),Y.inj,Y.own,Y.val,Y.bor,Y.tr⟩ (hn ρ' p)⟩
  .have hlt:i<ds.length:=by lia
   have hd:ds[i]? = some ds[i]:=Aa2 hlt
   obtain⟨ρ'',hg,F⟩:=turn i ds[i] ρ' hd p;refine .inr ⟨wk.go _ _ _ zH hd,λσ2 H2=>∃ρ2 o2,Env K S B' H2 σ2 ρ2 o2/\P (i+1) ρ2,λσ2 H2 ⟨ρ2,o2,I2,p2⟩=>⟨_,by lia,hlt,rfl,ρ2,o2,I2,p2⟩,λx Q hy=>?_⟩
   obtain⟨s2,hx⟩:=wk.yld _ _ _ _ _ zH hd hy;have rx:=hx (E3 ρ' N S) λb z=>by
    obtain⟨ys,y⟩:=Y.lists b z;refine⟨?_,by rw[y];simp⟩
    rcases z with z | ⟨j,es,h',hy,e'⟩
    .unfold vw hid;exact Ac (.inl z)
    .exact T2 sz (Y.new j es h' hy b e')
   refine hg.2 S B' σ' Q N (Y.grow s2) x rx _ λσ2 I2=>F S B' _ σ2 Q N I2 ⟨λρ3 σ3 M o3 X w=>⟨ρ3,o3,X,w⟩,λv d M a b w=>s.rt v d M (L2.Same.tr U a) b w,λp xs es M a b c e w=>s.rl p xs es M (L2.Same.tr U a) (T2 U b) c e w,
    λρ3 σ3 M o3 X w=>s.nx ρ3 σ3 M o3 ⟨X.len,L2.Same.tr U X.base,λb z=>(I0.sl b z),λi ds z hz b F=>T2 U (X.new i ds z hz b F),X.inj,X.own,X.val,X.bor,X.tr⟩ w,λρ3 σ3 M o3 X w=>⟨ρ3,o3,X,w⟩⟩
theorem p8 {c:TT}{tb:TS}{R:AE}(P:Nat->List Sl->Prop)(h0:∃k,P k ρ)
  (turn:∀k ρ',P k ρ'->∃b,T K c ρ' b/\if b=true then W K tb ρ' {R with nx:=λρ2=>∃k',k'<k/\P k' ρ2,ct:=λρ2=>∃k',k'<k/\P k' ρ2,bk:=R.nx} else R.nx ρ'):W K (bS3 c tb) ρ R:=λS B D σ H o I0 s=>by
 obtain⟨k0,p0⟩:=h0;refine⟨λk Y U=>∃ρ' m,Env K S B U Y ρ' m/\P k ρ',⟨k0,ρ,o,I0,p0⟩,?_⟩
 rintro k Y U ⟨ρ',m,J,p⟩;obtain⟨b,hc,X⟩:=turn k ρ' p;refine hc S B Y U m J _ λH1 s1=>?_
 cases b with
 | true=>
  rw[Ac rfl]at X ⊢;refine⟨λσ2 F=>∃k',k'<k/\∃ρ2 o2,Env K S B F σ2 ρ2 o2/\P k' ρ2,λσ2 F ⟨k',j,z⟩=>⟨k',j,z⟩,?_⟩
  exact X S B _ Y H1 m (J.grow s1) ⟨λQ σ3 H3 N M ⟨k',j,w⟩=>⟨k',j,Q,N,M,w⟩,s.rt,s.rl,s.nx,λQ σ3 H3 N M ⟨k',j,w⟩=>⟨k',j,Q,N,M,w⟩⟩
 | false=>
  rw[Ab Ah]at X ⊢;exact s.nx ρ' Y H1 m (J.grow s1) X
end
section
def cap:Sl->Sl
 | .own ds=>.bor (.list ds)
 | .tr t=>.bor t.data
 | x=>x
def slC (ρ:List Sl)(n:Nat)(is:AC):List Sl:=List.replicate n .no++is.map λi=>cap ((ρ[i]?).getD .no)
theorem bE6 (h:(slC ρ n is)[j]? = some x)(w:x≠.no):n<=j/\∃i y,is[j-n]? = some i/\ρ[i]? = some y/\cap y=x:=by
 unfold slC at h;by_cases c:j<n
 .rw[Bk (by simpa using c),Cs,Ac c]at h
  exact absurd (Ab4 h).symm w
 .rw[Br (by simpa using c),Dh,Aa9]at h
  refine⟨by lia,?_⟩
  cases e:is[j-n]? with
  | none=>rw[e]at h;cases h
  | some i=>
   rw[e]at h;have h:cap ((ρ[i]?).getD .no)=x:=Ab4 h;cases e':ρ[i]? with
   | none=>rw[e']at h;exact absurd h.symm w
   | some y=>rw[e']at h;exact⟨i,y,rfl,e',h⟩
theorem cV6 {n:Nat}{is:AC}{j:Nat}{x:Sl}(h:(slC ρ n is)[j]? = some x):x.os=false:=by
 cases x with
 | own ds=>
  obtain⟨_,i,y,_,_,e⟩:=bE6 h (by simp)
  cases y <;> simp[cap]at e
 | tr t=>
  obtain⟨_,i,y,_,_,e⟩:=bE6 h (by simp)
  cases y <;> simp[cap]at e
 | _=>rfl
theorem aO7 {n:Nat}{is:AC}{j:Nat}{x:Sl}{P:Prop}(h:(slC ρ n is)[j]? = some x)(w:x.os=true):P:=by rw[cV6 h]at w;cases w
theorem Env.comp (I:Env K S B H σ ρ o)(n:Nat)(is:AC):Env K (E3 ρ o S) H H (stC n is σ) (slC ρ n is) o:=by
 have st:∀(j:Nat) (i:Nat) v,n<=j->is[j-n]? = some i->σ[i]? = some v->(stC n is σ)[j]? = some v:=λj i v w hi J=>by
  unfold stC;rw[Br (by simpa using w),Dh,Aa9,hi]
  simp[J]
 have g:Same (hid (E3 ρ o S) H) (hid (E3 (slC ρ n is) o (E3 ρ o S)) H):=E2 (L2.Same.rf _) λb z _=>by
  rcases z with z | ⟨j,Y,h,m,_⟩
  .exact z
  .exact aO7 h m
 refine⟨by simp[stC,slC],L2.Same.rf _,I.lists,λj Y h X=>aO7 h X,λj k Y fs h _ X=>aO7 h X,λj Y h=>aO7 h rfl,λj d h=>?_,λj d h=>?_,λj t h=>aO7 h rfl⟩
 .obtain⟨w,i,y,hi,m,e⟩:=bE6 h (by simp)
  cases y with
  | val U=>
   cases e
   obtain⟨v,a,b⟩:=I.val i d m;exact⟨v,st j i _ w hi a,b.mono g⟩
  | _=>simp[cap]at e
 .obtain⟨w,i,y,hi,m,e⟩:=bE6 h (by simp)
  cases y with
  | bor U=>
   cases e
   obtain⟨v,a,b⟩:=I.bor i d m;exact⟨v,st j i _ w hi a,b⟩
  | own Y=>
   cases e
   obtain⟨p,hp,a,xs,b,c⟩:=I.own i Y m;exact⟨_,st j i _ w hi a,.lst (SqL.of b) (c.mono P5)⟩
  | tr t=>
   cases e
   obtain⟨_,v,a,b⟩:=I.tr i t m;exact⟨_,st j i _ w hi a,bF7 P5 (λ_ _ z=>z) P5 t (λ_ _=>rfl) b⟩
  | _=>simp[cap]at e
def bI2 (K:Frag)(m:Bool)(ρ:List Sl)(g:TG)(tt:TT)(te:TE)(d:PyData)(r:Option PyData):Prop:=
 ∃ρ',G K m g d ρ ρ'/\match r with
  | none=>T K tt ρ' false
  | some y=>T K tt ρ' true/\E K true te ρ' y
theorem J7 (f:PyData->Option PyData)(hi:I K m wi ρ ds)(hl:ds.length<sizeLine)(body:∀d∈ds,bI2 K m (slC ρ n is) g tt te d (f d)):EF K (cC0 wi n is g tt te) ρ (ds.filterMap f):=λS B σ H o I0 Q q=>
 hi S B σ H o I0 _ λJ H1 P wk=>by
  have IC:=(I0.grow P).comp n is
  generalize hS:E3 ρ o S=S' at IC wk q;have lists:∀b,S' b->∃u:HM,H1 b=some u.ho:=by rw[<- hS];exact(I0.grow P).lists
  refine⟨λi k ys R=>i<=ds.length/\k=ds.length-i/\Same H1 R/\ys.length<=i/\Reps K (hid S' R) ys ((ds.take i).filterMap f),⟨_,Ci _,rfl,L2.Same.rf _,Aa7 _,by simpa using Reps.nil⟩,?_⟩
  rintro i k ys R ⟨hil,rfl,Y,hy,r⟩;refine⟨by lia,?_⟩
  have zH:Same (vw m S' H1) R:=L2.Same.tr z6 Y
  by_cases c:i=ds.length
  .subst c;refine .inl ⟨wk.stop _ _ zH (Aa7 _),λD hD=>?_⟩
   rw[Cm]at r;exact q D ys _ (L2.Same.tr (L2.Same.tr P Y) (D8 hD)) (T2 (L2.Same.tr P Y) hD) C5 (bB3 (λb z=>by obtain⟨xs,e⟩:=lists b z;exact⟨xs,Y _ _ e⟩) hD r)
  .have w:i<ds.length:=by lia
   have hd:ds[i]? = some ds[i]:=Aa2 w
   have take:(ds.take (i+1)).filterMap f=(ds.take i).filterMap f++(f ds[i]).toList:=by
    rw[Bz w,List.filterMap_append];cases F:f ds[i] <;> simp[Bo,F]
   obtain⟨ρ',hg,U⟩:=body ds[i] (Di w);refine .inr ⟨wk.go _ _ _ zH hd,λx X hx=>?_⟩
   obtain⟨s3,hr⟩:=wk.yld _ _ _ _ _ zH hd hx;have I3:Env K S' H1 X (stC n is σ) (slC ρ n is) o:=IC.grow (L2.Same.tr Y s3);have eqS:∀b,E3 (slC ρ n is) o S' b->S' b:=λb z=>by
    rcases z with z | ⟨j,es,h,hy,_⟩
    .exact z
    .exact aO7 h hy
   have rx:Rep K (vw m (E3 (slC ρ n is) o S') X) x ds[i]:=by
    cases m with
    | false=>
     have:=hr (λ_=>False) λb z=>z.elim
     rw[bH2]at this;exact this
    | true=>
     refine hr _ λb z=>?_
     have z':=eqS b z
     obtain⟨xs,e⟩:=lists b z';exact⟨by unfold vw hid;exact Ac z',by rw[Y _ _ e];simp⟩
   refine hg.2 S' H1 _ X o I3 x rx _ λσ4 I4=>?_
   cases F:f ds[i] with
   | none=>
    rw[F]at U take;refine U S' H1 σ4 X o I4 _ λH5 N=>?_
    rw[Ab Ah];refine⟨_,by lia,w,rfl,L2.Same.tr Y (L2.Same.tr s3 N),by lia,?_⟩
    rw[take];simpa using r.mono (K5 (L2.Same.tr s3 N))
   | some y=>
    rw[F]at U take;refine U.1 S' H1 σ4 X o I4 _ λH5 N=>?_
    rw[Ac rfl];refine U.2 S' H1 σ4 H5 o (I4.grow N) _ λv H6 s6 rv=>?_
    have M:=L2.Same.tr s3 (L2.Same.tr N s6)
    refine⟨_,by lia,w,rfl,L2.Same.tr Y M,by simp;lia,?_⟩
    rw[take];refine(r.mono (K5 M)).append (.cons (rv.mono (E2 (L2.Same.rf _) λb z _=>.inl z)) .nil)
theorem y9:T K aM1 ρ true:=λS B σ H o I Q q=>q H (L2.Same.rf _)
def sl0 (n:Nat)(ds:AF):List Sl:=ds.map .val++List.replicate (n-ds.length) .no
theorem env0 (J:∀b,S b->∃u:HM,H b=some u.ho)(r:Reps K (hid S H) vs ds):Env K S H H (L2.Y6 N vs) (sl0 N.length ds) (λ_=>[]):=by
 have m:∀(j:Nat) (x:Sl),(sl0 N.length ds)[j]? = some x->x=.no\/∃d,ds[j]? = some d/\x=.val d:=λj x h=>by
  unfold sl0 at h;by_cases c:j<ds.length
  .rw[Bk (by simpa using c),Aa9,Aa2 c]at h
   exact .inr ⟨_,Aa2 c,(Ab4 h).symm⟩
  .rw[Br (by simpa using c),Cs]at h
   split at h
   .exact .inl (Ab4 h).symm
   .cases h
 have no1:∀{P:Prop} (j:Nat) (x:Sl),(sl0 N.length ds)[j]? = some x->x.os=true->P:=λj x h Y=>by
  rcases m j _ h with e | ⟨d,_,e⟩ <;> rw[e]at Y <;> cases Y
 have g:Same (hid S H) (hid (E3 (sl0 N.length ds) (λ_=>[]) S) H):=E2 (L2.Same.rf _) λb z _=>by
  rcases z with z | ⟨j,w,h,M,_⟩
  .exact z
  .exact no1 j w h M
 refine⟨?_,L2.Same.rf _,J,λj w h Y=>no1 j w h Y,λj k w fs h _ Y=>no1 j w h Y,λj w h=>no1 j _ h rfl,λj d h=>?_,λj d h=>?_,λj w h=>no1 j _ h rfl⟩
 .unfold L2.Y6 sl0;simp[r.length]
 .rcases m j _ h with e | ⟨X,U,e⟩
  .cases e
  .cases e
   obtain⟨v,a,b⟩:=r.get' U;refine⟨v,?_,b.mono g⟩;unfold L2.Y6
   have:=(Ab0.mp a).1
   rw[Bk (by simpa using this),Aa9,a];rfl
 .rcases m j _ h with e | ⟨X,_,e⟩ <;> cases e
theorem K7 {t:TS}{N:AH}{vs:List V}{S:Addr->Prop}{H:Hp}{Q:VK}(m:∀b,S b->∃u:HM,H b=some u.ho)(r:Reps K (hid S H) vs ds)(w:W K t (sl0 N.length ds) {nx:=λ_=>d=.none,rt:=λe=>e=d})
  (k:∀v H',Same H H'->Rep K (hid S H') v d->Q v H'):t {nx:=λ_ H'=>Q .non H',rt:=Q} (L2.Y6 N vs) H:=
 w S H _ _ H _ (env0 m r) ⟨λU J H' X j z=>k _ H' j.base (by rw[z];exact .non),λv e H' s Y z=>k v H' s (by rw[<- z];exact Y),λ_ _ _ _ _ _ _ _ z=>z.elim,λ_ _ _ _ _ z=>z.elim,λ_ _ _ _ _ z=>z.elim⟩
theorem W0 {t:TS}{N:AH}{vs:List V}{S:Addr->Prop}{H:Hp}{Q:VK}(Y:∀b,S b->∃u:HM,H b=some u.ho)(r:Reps K (hid S H) vs ds)(w:W K t (sl0 N.length ds) {nx:=λ_=>False,rl:=λe=>e=es})
  (k:∀p xs H',Same H H'->H p=none->H' p=some (.lst xs)->Reps K (hid (λb=>S b\/b=p) H') xs es->Q (.ref p) H'):t {nx:=λ_ H'=>Q .non H',rt:=Q} (L2.Y6 N vs) H:=
 w S H _ _ H _ (env0 Y r) ⟨λJ M H' U X z=>z.elim,λv e H' s j z=>z.elim,λp xs m H' s n e j z=>k p xs H' s n e (by rw[<- z];exact j),λ_ _ _ _ _ z=>z.elim,λ_ _ _ _ _ z=>z.elim⟩
end
end LV
namespace L2
open PySem PySem.Spec PyProof.Rows
section
def CMulB (i j:Int):Prop:=i.natAbs<2^512/\j.natAbs<2^512
theorem bW0 (h:k.natAbs<2^512):Builtin.Int.intBits k<=2^20:=by
 unfold Builtin.Int.intBits;split
 .exact Ci _
 .have:k.natAbs.log2<512:=by
   rcases Nat.eq_zero_or_pos k.natAbs with w | hp
   .rw[w];decide
   .exact(Nat.log2_lt (Nat.ne_of_gt hp)).mpr h
  lia
theorem CMulB.ok {i j:Int}(h:CMulB i j):IntMulOk i j:=.of_bits (bW0 h.1) (bW0 h.2)
theorem aI6:OpR X (binaryOp .Mult) (rI CMulB λi j=>.int (i*j)):=opI λ_ _ _ _ _ _ _ w q=>mul_int q w.ok
def bP4:List String:=["int", "bool", "str", "list", "tuple"]
def dN1 (K:Frag)(H:Hp)(T:String):V->Bool->Prop
 | .int _,b=>b=(T == "int")
 | .bl _,b=>b=(T == "int" || T == "bool")
 | .str _,b=>b=(T == "str")
 | .non,b=>b=false
 | .ref p,b=>(∃xs,SqL K H p xs/\b=(T == "list"))\/∃xs,SqT K H p xs/\b=(T == "tuple")
 | _,_=>False
theorem K4 (h:T∈bP4):typeOf (.type T)=pure (.type "type"):=by
 simp only[bP4,Aa1,Ac2,or_false]at h;rcases h with rfl | rfl | rfl | rfl | rfl
 .exact meta_int
 .exact meta_bool
 .exact meta_str
 .exact meta_list
 .exact meta_tuple
theorem aN8 (h:T∈bP4)(j:s.TypeIs x Tx)(z:isSubtype (.type Tx) (.type T)=pure true)(q:Q (.bool true) s) :
  wpAny (model P w) A (call (.builtin "isinstance") [x,.type T]) Q E s:=Be (isinstance_true (K4 h) z) ⟨j,q⟩
theorem cT4:V2 X (.builtin "isinstance") (λxs H Q=>∃x T b,xs=[x,.ty T]/\T∈bP4/\dN1 X.K H T x b/\Q (.bl b) H):=by
 intro N s σ H xs us Q I r h;obtain⟨x,T,b,rfl,w,U,q⟩:=h;cases r with
 | cons J R=>
  cases R with
  | cons D F=>
   cases F;cases D
   have Y:EP X N σ Q (.bool b) s:=⟨.bl b,H,I,rfl,q⟩
   have m:EP X N σ Q (.bool b) {s with toks:=s.toks+1}:=⟨.bl b,H,I.tok _,rfl,q⟩
   have j:=w
   simp only[bP4,Aa1,Ac2,or_false]at j;cases x with
   | int i=>
    obtain⟨t,rfl⟩:=J;cases U;rcases j with rfl | rfl | rfl | rfl | rfl
    .exact aN8 w (typeIs_int _ _ _) (by rw[Ao];kernel_rfl) Y
    all_goals exact Be (isinstance_false_int (by decide) (K4 w) (by rw[Ao];kernel_rfl)) m
   | bl k=>
    cases J
    cases U
    rcases j with rfl | rfl | rfl | rfl | rfl
    .exact aN8 w (PySem.typeIs_bool _ _) (by rw[Ao];kernel_rfl) Y
    .exact aN8 w (PySem.typeIs_bool _ _) (by rw[Ao];kernel_rfl) Y
    all_goals exact Be (isinstance_false_bool (by decide) (K4 w) (by rw[Ao];kernel_rfl)) m
   | str z=>
    obtain⟨t,rfl⟩:=J;cases U;rcases j with rfl | rfl | rfl | rfl | rfl
    .exact Be (isinstance_false_str (by decide) (K4 w) (by rw[Ao];kernel_rfl)) m
    .exact Be (isinstance_false_str (by decide) (K4 w) (by rw[Ao];kernel_rfl)) m
    .exact aN8 w (typeIs_str _ _ _) (by rw[Ao];kernel_rfl) Y
    all_goals exact Be (isinstance_false_str (by decide) (K4 w) (by rw[Ao];kernel_rfl)) m
   | non=>
    cases J
    cases U
    rcases j with rfl | rfl | rfl | rfl | rfl
    all_goals exact Be (isinstance_false_none (by decide) (K4 w) (by rw[Ao];kernel_rfl)) m
   | ref p=>
    cases J
    rcases U with⟨P,M,rfl⟩ | ⟨P,M,rfl⟩
    .obtain⟨its,B,⟨o,n,e,c,_,_⟩,_⟩:=I.list M;rcases j with rfl | rfl | rfl | rfl | rfl
     .exact Be (isinstance_false_list (by decide) (K4 w) (by rw[Ao];kernel_rfl)) ⟨⟨o,e,c⟩,m⟩
     .exact Be (isinstance_false_list (by decide) (K4 w) (by rw[Ao];kernel_rfl)) ⟨⟨o,e,c⟩,m⟩
     .exact Be (isinstance_false_list (by decide) (K4 w) (by rw[Ao];kernel_rfl)) ⟨⟨o,e,c⟩,m⟩
     .exact aN8 w (⟨o,e,c⟩:s.TypeIs (.ref p) _) (by rw[Ao];kernel_rfl) Y
     .exact Be (isinstance_false_list (by decide) (K4 w) (by rw[Ao];kernel_rfl)) ⟨⟨o,e,c⟩,m⟩
    .obtain⟨its,B,⟨o,e,c,n,d⟩,_⟩:=I.tuple M;rcases j with rfl | rfl | rfl | rfl | rfl
     .exact Be (isinstance_false_tuple (by decide) (K4 w) (by rw[Ao];kernel_rfl)) ⟨⟨o,e,c⟩,m⟩
     .exact Be (isinstance_false_tuple (by decide) (K4 w) (by rw[Ao];kernel_rfl)) ⟨⟨o,e,c⟩,m⟩
     .exact Be (isinstance_false_tuple (by decide) (K4 w) (by rw[Ao];kernel_rfl)) ⟨⟨o,e,c⟩,m⟩
     .exact Be (isinstance_false_tuple (by decide) (K4 w) (by rw[Ao];kernel_rfl)) ⟨⟨o,e,c⟩,m⟩
     .exact aN8 w (⟨o,e,c⟩:s.TypeIs (.ref p) _) (by rw[Ao];kernel_rfl) Y
   | _=>exact U.elim
end
theorem bC1 (z:Gl X x)(j:X.mg x=none)(Y:bootBuiltins x=some (.type T))(m:x≠"__name__" := by decide)(w:(x==("__debug__" : Str))=false:=by decide):PE X (.Name x pos) (tC (.ty T)):=cW6 (v:=.ty T) z j Y rfl m w
theorem W4:∀v (σ:St) H Q Q',(∀σ' H',Q σ' H'->Q' σ' H')->F5 i v σ H Q->F5 i v σ H Q':=λ_ _ _ _ _ h q=>h _ _ q
theorem k9:∀v (σ:St) H Q Q',(∀σ' H',Q σ' H'->Q' σ' H')->aY4 v σ H Q->aY4 v σ H Q':=λ_ _ _ _ _ h q=>⟨q.1,h _ _ q.2⟩
theorem o5 (a:∀v (σ:St) H Q Q',(∀σ' H',Q σ' H'->Q' σ' H')->t v σ H Q->t v σ H Q')(b:∀v (σ:St) H Q Q',(∀σ' H',Q σ' H'->Q' σ' H')->u v σ H Q->u v σ H Q') :
  ∀v (σ:St) H Q Q',(∀σ' H',Q σ' H'->Q' σ' H')->T0 t u v σ H Q->T0 t u v σ H Q':=λ_ _ _ _ _ h ⟨v,r,e,q⟩=>⟨v,r,e,a _ _ _ _ _ (λ_ _ z=>b _ _ _ _ _ h z) q⟩
theorem dN5 {K:Frag}{i j k n:Nat}(h:i<n)(h':j<n):aR0 n (bJ6 K k (T0 (F5 i) (T0 (F5 j) aY4))):=
 cJ8 (aH8 W4 (o5 W4 k9) (J0 h) (aH8 W4 k9 (J0 h') cQ0))
def AllP {α:Type}(p:α->Prop):List α->Prop
 | []=>True
 | a::l=>p a/\AllP p l
theorem AllP.mem:∀{l:List α},AllP p l->∀a∈l,p a
 | _::_,h,a,ha=>(Aa1.mp ha).elim (λe=>e▸h.1) λz=>AllP.mem h.2 a z
theorem Y0:∀{l:List (Str×β)},l.lookup x=some v->(x,v)∈l
 | [],h=>by cases h
 | (y,u)::l,h=>by
  rw[List.lookup_cons]at h;by_cases e:x==y
  .rw[e]at h;have e':x=y:=eq_of_beq e;cases h;subst e';exact Bl
  .have e1:(x==y)=false:=by simpa using e
   rw[e1]at h;exact Ad4 _ (Y0 h)
theorem CScope.of (clos:closureFor scope X.env=pure cl)(kind:scope.kind=.function)
  (z:scope.names.all (λy=>y.2 != .cell&&(y.2 != .local||scope.names.lookup y.1==some .local))=true) (m:AllP (λp=>X.env.cells.lookup p.1=some p.2) cl)
  (Y:(relabel scope X.env).names.all (λy=>(y.2 != .cell&&y.2 != .free)||(cl.lookup y.1).isSome)=true) (U:N'=T++is.map λ(i:Nat)=>((X.N[i]?).getD Str.empty:Str))
  (J:is.all (λi=>decide (i<X.N.length))=true) (M:AllP (λi=>∃x,X.N[i]? = some x/\((relabel scope X.env).names.lookup x=some .cell\/(relabel scope X.env).names.lookup x=some .free)/\(X.env.kindOf x=some .cell\/X.env.kindOf x=some .free)) is):CScope X scope cl T is N' where
 clos:=clos
 cell:=λy w e=>by
  have:=Ac9.mp z y w
  rw[e]at this;simp at this
 kind:=kind
 names:=λy w e=>by
  have:=Ac9.mp z y w
  rw[e]at this;simp at this;exact this
 cap:=λx c h=>m.mem (x,c) (Y0 h)
 has:=λx h=>by
  have j:∀k,(relabel scope X.env).names.lookup x=some k->k=.cell\/k=.free->∃c,cl.lookup x=some c:=λk e Q=>by
   have:=Ac9.mp Y (x,k) (Y0 e)
   rcases Q with rfl | rfl <;> exact Option.isSome_iff_exists.mp this
  rcases h with h | h
  .exact j _ h (.inl rfl)
  .exact j _ h (.inr rfl)
 N:=U
 lt:=λi hi=>An (Ac9.mp J i hi)
 capt:=λi hi x e=>by
  obtain⟨y,e',h1,R⟩:=M.mem i hi;rw[e]at e';cases e';exact⟨h1,R⟩
section
theorem ixK (K:Frag)(h:X.K=K:=by rfl):IxR X (rIx K):=h▸D4
theorem aJ0 (K:Frag)(h:X.K=K:=by rfl):V2 X (.builtin "len") (λxs H Q=>∃p ys,xs=[.ref p]/\(SqL K H p ys\/SqT K H p ys)/\Q (.int ys.length) H):=h▸L8
theorem dA6 (K:Frag)(h:X.K=K:=by rfl):V2 X (.builtin "isinstance") (λxs H Q=>∃x T b,xs=[x,.ty T]/\T∈bP4/\dN1 K H T x b/\Q (.bl b) H):=h▸cT4
theorem dI6 (K:Frag)(h:X.K=K:=by rfl):SlR X (dL9 K):=h▸bE9
theorem cK2 (K:Frag)(h:X.K=K:=by rfl):V2 X (.type "tuple") (λxs H Q=>∃p ys,xs=[.ref p]/\((SqL K H p ys/\∀l,H l=none->Q (.ref l) (upd H l (.tup ys)))\/(SqT K H p ys/\Q (.ref p) H))):=h▸P9
end
end L2
namespace LV
open PySem L2
section
theorem j4 (w:E K false ta ρ (.int i))(z:E K false tb ρ (.int j)):E K m (tOp rEq ta tb) ρ (.bool (decide (i=j))):=
 bK3 w z λH Q q=>⟨rfl,by
  have:decide (V.int i=V.int j)=decide (i=j):=by simp
  rw[this];exact q _ λ_=>.bl _⟩
theorem dU6 (w:E K false ta ρ (.int i))(z:E K false tb ρ (.int j)):E K m (tOp rNe ta tb) ρ (.bool (!decide (i=j))):=
 bK3 w z λH Q q=>⟨rfl,by
  have:decide (V.int i=V.int j)=decide (i=j):=by simp
  rw[this];exact q _ λ_=>.bl _⟩
theorem aE2 (w:E K false ta ρ (.int i)):E K m (tUn (rU λi=>.int (-i)) ta) ρ (.int (-i)):=E.bor (E.imm (m:=false) λS B σ H o I Q q=>w S B σ H o I _ λv H1 z r=>by
 cases r
 exact⟨i,rfl,q _ H1 z (.int _)⟩)
theorem cE8 {r:List V->Hp->VK->Prop}{t:TA}(w:A K false t ρ ds)(z:∀(H:Hp) (vs:List V) (Q:VK),Reps K H vs ds->(∀v,(∀H,Rep K H v d)->Q v H)->r vs H Q):E K m (tCB r t) ρ d:=λS B σ H o I Q q=>
 w S B σ H o I _ λvs H1 Y rs=>z H1 vs Q rs λv j=>q v H1 Y (j _)
theorem P4 {t:TA}(w:A K false t ρ [d])(h:sq d=some ds:=by rfl):E K m (tCB (λxs H Q=>∃p ys,xs=[.ref p]/\(SqL K H p ys\/SqT K H p ys)/\Q (.int ys.length) H) t) ρ (.int ds.length):=cE8 w λH vs Q r q=>by
 cases r with
 | cons a b=>
  cases b
  cases a with
  | lst s r=>cases h;exact⟨_,_,rfl,.inl s,by rw[r.length];exact q _ λ_=>.int _⟩
  | tup s r=>cases h;exact⟨_,_,rfl,.inr s,by rw[r.length];exact q _ λ_=>.int _⟩
  | _=>cases h
theorem cO2 {t:TA}{b:Bool}(w:A K false t ρ [.bool b]):E K m (tCB (λxs H Q=>(∃i,xs=[.int i]/\Q (.int i) H)\/∃k,xs=[.bl k]/\Q (.int (if k then 1 else 0)) H) t) ρ (.int (if b then 1 else 0)):=cE8 w λH vs Q r q=>by
 cases r with
 | cons a c=>
  cases c;cases a
  exact .inr ⟨b,rfl,q _ λ_=>.int _⟩
def dS2 (T:String):PyData->Bool
 | .int _=>T == "int"
 | .bool _=>T == "int" || T == "bool"
 | .str _=>T == "str"
 | .list _=>T == "list"
 | .tuple _=>T == "tuple"
 | _=>false
def xNo:PyData->Bool
 | .dict _=>false
 | _=>true
theorem cB0 {T:String}(j:E K false ta ρ d)(z:T∈bP4:=by decide)(w:xNo d=true:=by first | rfl | assumption):E K m (tCB (λxs H Q=>∃x T b,xs=[x,.ty T]/\T∈bP4/\dN1 K H T x b/\Q (.bl b) H) (C9 ta (C9 (tC (.ty T)) O1))) ρ (.bool (dS2 T d)):=E.bor (E.imm (m:=false) λS B σ H o I Q q=>j S B σ H o I _ λv H1 Y r=>by
 refine⟨v,T,dS2 T d,rfl,z,?_,q _ H1 Y (.bl _)⟩;cases r with
 | lst s r=>exact .inl ⟨_,s,rfl⟩
 | tup s r=>exact .inr ⟨_,s,rfl⟩
 | exc e=>exact absurd w (by simp[xNo])
 | ptr=>exact absurd w (by simp[xNo])
 | adr=>exact absurd w (by simp[xNo])
 | dic _ _ _=>exact absurd w (by simp[xNo])
 | _=>rfl)
theorem cX1 {r r':R2}{i j k:Int}{g g':Int->Int->Bool}(J:E K false ta ρ (.int i))(M:E K false tb ρ (.int j))(N:E K false tc ρ (.int k)):E K m (cS3 (rI0 λi j=>.bl (g i j)) (rI0 λi j=>.bl (g' i j)) ta tb tc) ρ (.bool (g i j&&g' j k)):=
 E.bor (E.imm (m:=false) λS B σ H o I Q q=>J S B σ H o I _ λv H1 z R=>M S B σ H1 o (I.grow z) _ λu X Y D=>by
  cases R;cases D
  refine⟨i,j,rfl,rfl,g i j,rfl,?_⟩;cases h:g i j with
  | false=>rw[Ab Ah];exact q _ X (L2.Same.tr z Y) (by rw[h];exact .bl _)
  | true=>
   rw[Ac rfl];refine N S B σ X o ((I.grow z).grow Y) _ λw U P F=>?_
   cases F
   refine⟨j,k,rfl,rfl,q _ U (L2.Same.tr z (L2.Same.tr Y P)) ?_⟩;rw[h,Bool.true_and];exact .bl _)
end
end LV
namespace LV
open PySem PySem.Spec PyProof.Rows L2
section
mutual
theorem O9 (I:Inv X aA σ H s):∀(d:PyData) {v:V} {u:Value},d.canLay0=true->Rep X.K H v d->RelV v u->∃as,Reads s.heap u d as
 | .none,_,_,_,r,q=>by cases r;cases q;exact⟨_,.none⟩
 | .bool _,_,_,_,r,q=>by cases r;cases q;exact⟨_,.bool _⟩
 | .int _,_,_,_,r,q=>by cases r;obtain⟨t,rfl⟩:=q;exact⟨_,.int _ _⟩
 | .str _,_,_,_,r,q=>by cases r;obtain⟨t,rfl⟩:=q;exact⟨_,.str _ _⟩
 | .tuple ds,_,_,c,r,q=>by
  cases r with
  | tup sq rs=>
   cases q
   obtain⟨its,j,⟨o,e,w,n,d⟩,_⟩:=I.tuple sq;obtain⟨as,z⟩:=aG2 I ds (by simpa[PyData.canLay0]using c) rs j
   exact⟨_,.tuple e w d (by simpa using z)⟩
 | .list ds,_,_,c,r,q=>by
  cases r with
  | lst sq rs=>
   cases q
   obtain⟨its,j,⟨o,n,e,w,_,d⟩,_⟩:=I.list sq;obtain⟨as,z⟩:=aG2 I ds (by simpa[PyData.canLay0]using c) rs j
   exact⟨_,.list e w d (by simpa using z)⟩
 | .dict _,_,_,c,_,_=>by simp[PyData.canLay0]at c
theorem aG2 (I:Inv X aA σ H s):∀(ds:AF) {vs:List V} {us:AG},PyData.canLayAll0 ds=true->Reps X.K H vs ds->Vals vs us->∃as,ReadsAll s.heap us ds as
 | [],_,_,_,r,q=>by cases r;cases q;exact⟨_,.nil⟩
 | d::ds,_,_,c,r,q=>by
  have w:d.canLay0=true/\PyData.canLayAll0 ds=true:=by simpa[PyData.canLayAll0]using c
  cases r with
  | cons a b=>
   cases q with
   | cons z j=>
    obtain⟨as,h1⟩:=O9 I d w.1 a z;obtain⟨bs,m⟩:=aG2 I ds w.2 b j;exact⟨_,.cons h1 m⟩
end
def Fit (d:PyData):Prop:=d.canLay0=true/\d.depth<=32
def bS9 (K:Frag)(neg:Bool):R2:=λx y H Q=>∃d e,Rep K H x d/\Rep K H y e/\Fit d/\Fit e/\Q (.bl (if neg then !PyData.eqv d e else PyData.eqv d e)) H
def bI4 (K:Frag)(neg:Bool):R2:=λx y H Q=>∃d e ds,Rep K H x d/\Rep K H y e/\sq e=some ds/\Fit d/\Fit e/\Q (.bl (if neg then !ds.any λz=>PyData.eqv z d else ds.any λz=>PyData.eqv z d)) H
theorem bF3 (K:Frag)(Y:Room k X.A)(h:X.K=K:=by rfl):OpR X (compareOp .Eq) (bS9 K false):=by
 subst h;intro N s σ H x y v u Q I J M ⟨d,e,j,m,w,z,q⟩;obtain⟨R,U⟩:=O9 I d w.1 j J;obtain⟨bs,rb⟩:=O9 I e z.1 m M;exact SeqAt.compareEq_reads U rb w.1 z.1 (by have:=Y.un;have:=w.2;lia) ⟨.bl _,H,I,rfl,q⟩
theorem cH3 (K:Frag)(Y:Room k X.A)(h:X.K=K:=by rfl):OpR X (compareOp .NotEq) (bS9 K true):=by
 subst h;intro N s σ H x y v u Q I J M ⟨d,e,j,m,w,z,q⟩;obtain⟨R,U⟩:=O9 I d w.1 j J;obtain⟨bs,rb⟩:=O9 I e z.1 m M;exact SeqAt.compareNe_reads U rb w.1 z.1 (by have:=Y.un;have:=w.2;lia) ⟨.bl _,H,I,rfl,q⟩
theorem aR8 (h:Fit (.list ds)\/Fit (.tuple ds)):PyData.canLayAll0 ds=true/\PyData.depthAll ds<=32:=by
 rcases h with⟨a,b⟩ | ⟨a,b⟩ <;> simp only[PyData.canLay0,PyData.depth]at a b <;> exact⟨a,by lia⟩
theorem aF8 (K:Frag)(Y:Room k X.A)(h:X.K=K:=by rfl):OpR X (compareOp .In) (bI4 K false):=by
 subst h;intro J s σ H x y v u Q I D F ⟨d,e,ds,N,R,m,w,j,q⟩;obtain⟨B,U⟩:=O9 I d w.1 N D;obtain⟨bs,rb⟩:=O9 I e j.1 R F;have fin:EP X J σ Q (.bool (ds.any λz=>PyData.eqv z d)) s:=⟨.bl _,H,I,rfl,q⟩
 cases e with
 | list M=>
  cases m
  have:=aR8 (.inl j)
  exact SeqAt.in_list_reads rb U this.1 w.1 (by have:=Y.un;have:=w.2;lia) fin
 | tuple M=>
  cases m
  have:=aR8 (.inr j)
  exact SeqAt.in_tuple_reads rb U this.1 w.1 (by have:=Y.un;have:=w.2;lia) fin
 | _=>cases m
theorem M5 (K:Frag)(Y:Room k X.A)(h:X.K=K:=by rfl):OpR X (compareOp .NotIn) (bI4 K true):=by
 subst h;intro J s σ H x y v u Q I D F ⟨d,e,ds,N,R,m,w,j,q⟩;obtain⟨B,U⟩:=O9 I d w.1 N D;obtain⟨bs,rb⟩:=O9 I e j.1 R F;have fin:EP X J σ Q (.bool (!ds.any λz=>PyData.eqv z d)) s:=⟨.bl _,H,I,rfl,q⟩
 cases e with
 | list M=>
  cases m
  have:=aR8 (.inl j)
  exact SeqAt.notIn_list_reads rb U this.1 w.1 (by have:=Y.un;have:=w.2;lia) fin
 | tuple M=>
  cases m
  have:=aR8 (.inr j)
  exact SeqAt.notIn_tuple_reads rb U this.1 w.1 (by have:=Y.un;have:=w.2;lia) fin
 | _=>cases m
theorem O7:∀{l:AD} {its:AG},Vals (l.map V.int) its->IntsAre its l
 | [],_,r=>by cases r;exact .nil
 | i::l,_,r=>by
  cases r with
  | cons a b=>
   obtain⟨t,rfl⟩:=a;exact .cons _ _ (O7 b)
theorem bT5:∀{l:AD} {m:Nat} (hm:m<l.length),m<l.idxOf k->l[m]≠k
 | [],m,hm,_=>by simp at hm
 | a::l,m,hm,h=>by
  rw[List.idxOf_cons]at h;by_cases e:a=k
  .subst e;simp at h
  .have e1:(a==k)=false:=by simpa using e
   rw[e1]at h;simp only[cond_false]at h;cases m with
   | zero=>simpa using e
   | succ m=>exact bT5 (l:=l) (m:=m) (by simpa using hm) (by lia)
theorem cG8 {A:Around}{P:Program}{w:World}{E:Ec}{l:Addr}{vs:AG}{ns:AD}{Q:Ec}(R:A.handled=none)(J:s.heap.IsList l vs.toArray)(hi:IntsAre vs ns)(m:0<ns.length)
  (h:∀h' M (t:Tok) tk,(∀b o,s.heap.get? b=some o->h'.get? b=some o)->M∈ns->(∀a,a∈ns->M<=a)->Q (.int M t) {s with heap:=h',toks:=tk}):wpAny (model P w) A (call (.builtin "min") [.ref l]) Q E s:=by
 obtain⟨xs,e⟩:=hi.allInts.items;have z:ns=xs.toList.map (·.1):=by rw[<- hi.numsOf,<- nums_intItems,<- e]
 have Y:0<xs.size:=by
  have X:=m;rw[z,Aa3,Ax]at X;exact X
 rw[e]at J;refine min_intList R J Y λv h' tk B F=>?_
 obtain⟨t,rfl⟩:=intItems_at B;obtain⟨h1,N⟩:=argBest_lt (numAt xs) (xs.size-1);refine h _ _ t tk F ?_ λa U=>?_
 .rw[z,numAt_eq];exact getD_mem (by rw[Aa3,Ax];lia)
 .rw[z]at U;obtain⟨j,D,rfl⟩:=mem_getD U;rw[Aa3,Ax]at D;rw[<- numAt_eq];exact N j (by lia)
theorem cD2 (K:Frag)(j:X.calm=true)(h:X.K=K:=by rfl):V2 X (.builtin "min") (λxs H Q=>∃(p:Addr) (l:AD),xs=[.ref p]/\SqL K H p (l.map V.int)/\l≠[]/\∀M,M∈l->(∀a∈l,M<=a)->Q (.int M) H):=by
 subst h;intro R s σ H xs B Q I r ⟨p,l,e,Y,w,q⟩;subst e;obtain⟨u,rfl,N⟩:=X4 r;cases N;obtain⟨its,J,U,_⟩:=I.list Y;exact cG8 (I.ok.hd j) U.isList (O7 J) (Dc.mpr w) λD M t F m h1 z=>⟨.int M,H,I.kept m,⟨_,rfl⟩,q M h1 z⟩
theorem cE6 (K:Frag)(h:X.K=K:=by rfl):MtR X "list.index" (λx xs H Q=>∃(p:Addr) (l:AD) (k:Int),x=.ref p/\xs=[.int k]/\SqL K H p (l.map V.int)/\k∈l/\Q (.int (l.idxOf k)) H):=by
 subst h;intro aA s σ H x xs v us Q I rx rv ⟨p,l,k,e1,e2,B,D,q⟩;subst e1;subst e2;cases rx;obtain⟨u,rfl,t,rfl⟩:=X4 rv;obtain⟨its,r,⟨o,n,e,c,N,d⟩,hz⟩:=I.list B;obtain⟨oc,od,J,M⟩:=o;dsimp only at c N d;subst c;subst N;subst d;have Y:=r.length;rw[Aa3]at Y;have w:l.idxOf k<l.length:=Ai.mpr D;have at_:∀(j:Nat) (w:j<its.toArray.size),∃t,its.toArray[j]=Value.int (l[j]'(by simpa[Y]using w)) t:=λj w=>by
  have U:j<l.length:=by simpa[Y]using w
  obtain⟨u,h1,t,rfl⟩:=r.get (i:=j) (x:=.int l[j]) (by rw[Aa9,Aa2 U];rfl)
  have:=(Ab0.mp h1).2
  exact⟨t,by simpa using this⟩
 have hz':=aP6
 rw[Aa3]at hz;refine call_meets F.slot_list_index ⟨_,e,rfl⟩ F.entry_list_index (F.args_list_index_2 _ _) (SeqAt.list_indexAt p its.toArray n none M (.int k t) (λy=>match y with | .int i _=>i==k | _=>false) (l.idxOf k) (by simpa[<- Y]using w) (by lia) ?_ ?_) ⟨e,λy P=>?_,?_⟩
 .obtain⟨R,e'⟩:=at_ (l.idxOf k) (by simpa[<- Y]using w)
  rw[e'];simp
 .intro m hm hlt;obtain⟨R,e'⟩:=at_ m hm;rw[e']
  have:l[m]'(by simpa[Y]using hm)≠k:=λz=>by
   have h1:m<l.length:=by simpa[Y]using hm
   exact bT5 h1 hlt z
  simpa using this
 .obtain⟨j,w,rfl⟩:=Array.mem_iff_getElem.mp P;obtain⟨R,e'⟩:=at_ j w;rw[e'];exact SeqAt.EqAt.int_int _ _ _ _
 .exact⟨.int _,H,I.tok _,⟨_,rfl⟩,q⟩
end
theorem bE5:∀{vs:List V} {us:AG},vs.length=us.length->(∀(j:Nat) v u,vs[j]? = some v->us[j]? = some u->RelV v u)->Vals vs us
 | [],[],_,_=>.nil
 | v::vs,u::us,hl,h=>.cons (h 0 v u rfl rfl) (bE5 (by simpa using hl) λj v u e1 e2=>h (j+1) v u (by simpa using e1) (by simpa using e2))
 | [],_::_,hl,_=>by simp at hl
 | _::_,[],hl,_=>by simp at hl
section
def dC1 (ta:TA):TE:=λσ H Q=>ta σ H λvs H1=>∃i j:Int,vs=[.int i,.int j]/\∀p,H1 p=none->Q (.ref p) (upd H1 p (.rng i j))
theorem cU2 (J:Gl X "range")(M:X.mg "range" = none)(U:PA X [a,b] ta)(N:starEach [a,b] X.env=[(false,eval a X.env),(false,eval b X.env)]:=by rfl)(z:starEach [b] X.env=[(false,eval b X.env)]:=by rfl) :
  PE X (.Call (.Name "range" p) [a,b] [] pos) (dC1 ta):=by
 refine⟨?_⟩;intro Y s σ H Q I h;refine Call_ (V8 I J M boot_range (Az (thn (U pos Y s σ H _ I h) λus B pz=>?_) (by rw[N,z]) (by rw[z];rfl)))
 obtain⟨vs,H1,m,F,R⟩:=pz;obtain⟨i,j,e,q⟩:=R;subst e;cases F with
 | cons r rr=>
  cases rr with
  | cons D rr=>
   cases rr
   obtain⟨t,rfl⟩:=r;obtain⟨P,rfl⟩:=D;refine call_range_2 ?_;refine⟨.ref _,_,m.laid (λb o e=>Aa6 _ e) (Aa7 _) (show ObjOk X.prog X.w _ _ _ (.rng i j) from⟨_,_,_,Ac3 _ rfl⟩),rfl,q _ (m.hok.fresh (Aa7 _))⟩
def aF2 (lo:Int)(n:Nat):List V:=(List.range n).map λ(k:Nat)=>V.int (lo+(k:Int))
theorem bA2 (F:X.calm=true):V2 X (.type "list") (λxs H Q=>∃(r:Addr) (i j:Int),xs=[.ref r]/\H r=some (.rng i j)/\(-(2^62)<=i/\i<2^62 /\ -(2^62)<=j/\j<2^62/\j-i<=1000000)/\∀l,H l=none->Q (.ref l) (upd H l (.lst (aF2 i (j-i).toNat)))):=by
 intro aA s σ H xs us Q I r ⟨Y,i,j,e,hq,⟨h1,N,R,D,h5⟩,q⟩;subst e;obtain⟨u,rfl,rx⟩:=X4 r;cases rx;obtain⟨t,u,v,e⟩:=I.hok Y _ hq;have P:Builtin.Range.rangeSize i j 1=((j-i).toNat:Int):=by rw[rangeSize_one];split <;> lia
 refine call_list_range (I.ok.hd F) (show IsRange s.heap Y i j 1 t u v from e) (small_one h1 N R D) P (by lia) λM tk z U kp J it=>?_
 have rv:Vals (aF2 i (j-i).toNat) z.toList:=by
  obtain⟨hz,m⟩:=it;refine bE5 (by simp[aF2,hz]) λk v u e1 e2=>?_
  obtain⟨t,rfl⟩:=m k u (by simpa using e2)
  have B:k<(j-i).toNat:=by
   have:=(Ab0.mp e1).1
   simpa[aF2]using this
  unfold aF2 at e1;rw[Aa9,List.getElem?_range B]at e1;cases e1;exact⟨t,by simp⟩
 refine⟨.ref s.heap.objs.size,_,I.laid kp (Aa7 _) (show ObjOk X.prog X.w _ M _ (.lst _) from⟨?_,z.toList,U,rv,by simpa using J⟩),rfl,q _ (I.hok.fresh (Aa7 _))⟩
 simp[aF2];unfold sizeLine;lia
end
end LV
namespace PySem
open Sem (wp)
theorem bS2:typeLookup (.type "list_reverseiterator") "__len__" = pure none:=by rw[typeLookup_type,builtinLookup_eq_fast];kernel_rfl
theorem cM3:typeLookup (.type "list_reverseiterator") "__length_hint__" = pure (some (.builtin "list_reverseiterator.__length_hint__")):=by rw[typeLookup_type,builtinLookup_eq_fast];kernel_rfl
section
theorem aP7 (hh:A.handled=none)(z:s.heap.IsRevIter r l ((items.size:Int)-1))(hl:s.heap.IsList l items)(N:l≠r)(S:Addr)(j:S≠r)(J:S≠l)(res:Value)(Q:Nat)(hS:s.heap.get? S=some {cls:=.type "list",data:=.seq #[] Q})
  (P:∀h' tk acc' c',(∀b o,b≠S->b≠r->s.heap.get? b=some o->h'.get? b=some o)->h'.get? S=some {cls:=.type "list",dict:=none,data:=.seq acc' c',slots := #[]} ->
   ItemsOf (λi v=>items[items.size-1-i]? = some v) acc' items.size->R (.ok (.ret res)) {s with heap:=h',toks:=tk}) (hn:items.size<=sizeLine) :
  wpAny (model prog w) A.in1 (Builtin.List.listExtendWith (.ref S) (.ref r) res)
   (λfin s'=>match fin with | .done f=>R (.ok f) s' | .again c'=>c'.quiet=true/\codeAny (model prog w) A c' R s') (λe s'=>R (.error e) s') s:=by
 have U:S∉[r,l]:=λY=>by simp at Y;rcases Y with h | h;exact j h;exact J h
 unfold Builtin.List.listExtendWith;refine Aa (wpAny_typeOf z.typeIs ?_);have h1:Builtin.List.listSameRef (.ref S) (.ref r)=false:=by simp[Builtin.List.listSameRef,j]
 have D:(Value.type "list_reverseiterator" == Value.type "list")=false:=by decide
 have B:(Value.type "list_reverseiterator" == Value.type "tuple")=false:=by decide
 simp only[h1,D,B,Bool.or_false,Dj,if_false];refine Aa (wpAny_pyIter_revIter z ?_);refine Aa (Bx ?_);unfold Builtin.List.listLengthHint;refine Aa (wpAny_specialOf z.typeIs bS2 ?_);show wpAny _ A.in1 (specialOf (Value.ref r) (Str.ofString "__length_hint__") >>= _) _ _ _;refine Aa (wpAny_specialOf z.typeIs cM3 ?_)
 wp_delta
 refine Aa (wpAny_isInstance (b:=true) z.typeIs (by rw[Ao];kernel_rfl) ?_)
 refine Ae ?_;rw[Ab (by decide)]
 refine Ae ⟨plainId_quiet F.plain_extend_loop _,codeAny_extend_loopS (Walks.listRev (A:=A.in1) hh r l N items).toS hn S U res items.size 0 _ _ _ rfl (Ci _) ⟨Ci _,by simpa using z,hl⟩ hS (ItemsOf.nil _) λs' acc' c' Y X m=>?_⟩
 rw[Moved.eq_with Y]
 refine P s'.heap s'.toks acc' c' (λb ob hb M e=>Y.heap b ob (λhmem=>?_) e) X m
 rcases Aa1.mp hmem with e' | hmem
 .exact hb e'
 .exact M (Ad8.mp hmem)
theorem aD5 (P:A.handled=none)(Q:s.heap.IsRevIter r l ((items.size:Int)-1))(hl:s.heap.IsList l items)(D:l≠r)(S:Addr)(m:S≠r)(j:S≠l)(U:s.heap.get? S=some {cls:=.type "list",data:=.seq #[]})
  (B:∀h' tk acc' c',(∀b o,b≠S->b≠r->s.heap.get? b=some o->h'.get? b=some o)->h'.get? S=some {cls:=.type "list",dict:=none,data:=.seq acc' c',slots := #[]} ->
   ItemsOf (λi v=>items[items.size-1-i]? = some v) acc' items.size->R (.ok (.ret .none)) {s with heap:=h',toks:=tk}) (hn:items.size<=sizeLine) :
  wpAny (model prog w) A.in1 (Builtin.«list.__init__» ⟨[.ref S,.ref r],[]⟩)
   (λfin s'=>match fin with | .done f=>R (.ok f) s' | .again c'=>c'.quiet=true/\codeAny (model prog w) A c' R s') (λe s'=>R (.error e) s') s:=by
 show wpAny _ _ (do let F <- Builtin.List.listItems (.ref S);Builtin.List.listUpdate (.ref S) (λ_ => #[]);letGo F.toList.reverse;Builtin.List.listExtendWith (.ref S) (.ref r) .none) _ _ s
 refine Aa ?_;unfold Builtin.List.listItems;refine Aa (wpAny_seqItems U rfl (Ae ?_));show wpAny _ _ (updateSeq S (λ_ => #[]) >>= λ_=>letGo (#[]:AJ).toList.reverse >>= λ_=>Builtin.List.listExtendWith (.ref S) (.ref r) .none) _ _ s
 refine Aa (wpAny_updateSeq U rfl ?_);have M:=Cv (Obj.mapSeq (λ_=>(#[]:AJ))) U rfl
 have z:∀b o,b≠S->s.heap.get? b=some o->(s.heap.update S (Obj.mapSeq (λ_=>(#[]:AJ)))).get? b=some o:=
  λb o X e=>(Ds _ _ (Ne.symm X)).trans e
 refine Aa (wpAny_letGo ?_);refine aP7 P (s:={s with heap:=s.heap.update S (Obj.mapSeq (λ_=>(#[]:AJ)))}) (Q.at λo e=>z r o m.symm e) (hl.at λo e=>z l o j.symm e) D S m j .none _ M (λh' tk acc' c' hk J Y=>?_) hn
 exact B h' tk acc' c' (λb o X N e=>hk b o X N (z b o X e)) J Y
theorem aX0 (D:A.handled=none)(j:s.heap.IsRevIter r l ((items.size:Int)-1))(J:s.heap.IsList l items)(X:l≠r)(P:items.size<=sizeLine)
  (N:∀h' tk acc' c',(∀b o,b≠r->s.heap.get? b=some o->h'.get? b=some o) ->
   h'.get? s.heap.objs.size=some {cls:=.type "list",dict:=none,data:=.seq acc' c',slots := #[]}->ItemsOf (λi v=>items[items.size-1-i]? = some v) acc' items.size->Q (.ref s.heap.objs.size) {s with heap:=h',toks:=tk}) :
  wpAny (model prog w) A (call (.type "list") [.ref r]) Q E s:=by
 refine callType_codes (Q₁:=λm M=>m=.ref s.heap.objs.size/\M={s with heap:=s.heap.push {cls:=.type "list",data:=.seq #[]}}) F.called_list (F.typeCall_list_1 _) F.entry_list_init
  (code_list_new _ ⟨rfl,rfl⟩) λm M h₁=>?_
 obtain⟨rfl,rfl⟩:=h₁;have U:(s.heap.push {cls:=.type "list",data:=.seq #[]}).get? s.heap.objs.size=some {cls:=.type "list",data:=.seq #[]}:=Ac3 _ rfl;have nr:s.heap.objs.size≠r:=by obtain⟨o,e,_⟩:=j;exact(Ab9 (Ab3 e)).symm
 have nl:s.heap.objs.size≠l:=by obtain⟨o,e,_⟩:=J;exact(Ab9 (Ab3 e)).symm
 refine⟨⟨_,U,rfl⟩,F.args_list_init_2 _ _,aD5 (A:=A.in1) D (s:={s with heap:=s.heap.push {cls:=.type "list",data:=.seq #[]}}) (j.at λo e=>Aa6 _ e) (J.at λo e=>Aa6 _ e) X _ nr nl U (λh' tk acc' c' B Y z=>?_) P⟩
 exact⟨rfl,N h' tk acc' c' (λb o R e=>B b o (Ab9 (Ab3 e)) R (Aa6 _ e)) Y z⟩
end
end PySem
namespace LV
open PySem PySem.Spec PyProof.Rows L2
section
def bW8 (K:Frag)(te:TE):TE:=λσ H Q=>te σ H λx H1=>∃p ys,x=.ref p/\SqL K H1 p ys/\∀l,H1 l=none->Q (.ref l) (upd H1 l (.lst ys.reverse))
theorem bK7 (K:Frag)(hc:X.calm=true)(B:Gl X "list")(hm1:X.mg "list" = none)(P:Gl X "reversed")(hm2:X.mg "reversed" = none)(he:PE X e te)(hK:X.K=K:=by rfl)
  (M:starEach [e] X.env=[(false,eval e X.env)]:=by rfl) (N:starEach [Expr.Call (.Name "reversed" p2) [e] [] pos2] X.env=[(false,eval (Expr.Call (.Name "reversed" p2) [e] [] pos2) X.env)]:=by rfl) :
  PE X (.Call (.Name "list" p1) [.Call (.Name "reversed" p2) [e] [] pos2] [] pos1) (bW8 K te):=by
 subst hK;refine⟨?_⟩;intro D s σ H Q I h;refine wpAny_Call_Name_kw (V8 I B hm1 boot_list ?_);refine Az ?_ (by rw[N];rfl) rfl
 rw[N];show wpAny _ _ (spliced [(false,eval (Expr.Call (.Name "reversed" p2) [e] [] pos2) X.env)]) _ _ s;refine Calls.spliced_cons ?_;refine wpAny_Call_Name_kw (V8 I P hm2 boot_reversed ?_);refine Az ?_ (by rw[M];rfl) rfl
 rw[M];show wpAny _ _ (spliced [(false,eval e X.env)]) _ _ s;refine Calls.spliced_cons (thn (he D s σ H _ I h) λu Y pz=>?_)
 obtain⟨x,H1,J,r1,p,ys,e1,hq,q⟩:=pz;subst e1;cases r1;refine Calls.spliced_nil ?_;obtain⟨its,rv,pl,U⟩:=J.list hq;have m:=rv.length;have hlt:p<Y.heap.objs.size:=by obtain⟨o,n,e,_⟩:=pl;exact Ab3 e
 refine call_reversed_list pl.isList ?_;refine Calls.spliced_nil ?_;have I2:Inv X D σ H1 {Y with heap:=Y.heap.push (revObj p ((its.toArray.size:Int)-1))}:=J.kept (t':=Y.toks) λb o e=>Aa6 _ e
 refine aX0 (J.ok.hd hc) (r:=Y.heap.objs.size) (items:=its.toArray) ⟨_,Ac3 _ rfl,rfl,rfl⟩ (pl.isList.at λo e=>Aa6 _ e) (Ab9 hlt) (by rw[Ab2];lia) λF tk z c' kp el it=>?_
 have rr:Vals ys.reverse z.toList:=by
  obtain⟨U,hit⟩:=it;have U:z.size=its.length:=by simpa using U
  refine bE5 (by simp[U,m]) λj v u e1 e2=>?_
  have hj:j<its.length:=by
   have:=(Ab0.mp e2).1
   simpa[U]using this
  have hu:=hit j u (by simpa using e2)
  rw[List.getElem?_reverse (by lia),m]at e1
  obtain⟨u',h1,h2⟩:=rv.get e1;simp only[Ab2]at hu;have R:its[its.length-1-j]? = some u:=by simpa using hu
  rw[h1]at R;cases R;exact h2
 have kp':∀b o,Y.heap.get? b=some o->F.get? b=some o:=λb o e=>kp b o (Ab9 (Ab3 e)) (Aa6 _ e)
 have I3:Inv X D σ (upd H1 (Y.heap.push (revObj p ((its.toArray.size:Int)-1))).objs.size (.lst ys.reverse)) {Y with heap:=F,toks:=tk}:=
  J.laid kp' (by rw[Dl];exact Nat.le_succ _) (show ObjOk X.prog X.w _ F _ (.lst _) from⟨by rw[Ae1];exact U,z.toList,c',rr,by simpa using el⟩)
 exact⟨.ref _,_,I3,rfl,q _ (J.hok.fresh (by rw[Dl];exact Nat.le_succ _))⟩
end
section
theorem cY3 {s:Shared}{h':Heap}{o:Obj}(w:∀b x,b∉[s.heap.objs.size]->(s.heap.push o).get? b=some x->h'.get? b=some x):∀b x,s.heap.get? b=some x->h'.get? b=some x:=
 λb x e=>w b x (λz=>by rw[Ad8.mp z]at e;exact Ad9 _ (Ab3 e)) (Aa6 _ e)
theorem cY0 {bs:List Bool}{its:AG}(r:Vals (bs.map V.bl) its){i:Nat}{v:Value}(e:its[i]? = some v):∃b,bs[i]? = some b/\v=.bool b:=by
 have z:=r.length
 rw[Aa3]at z;have hi:i<bs.length:=by have:=(Ab0.mp e).1;lia
 obtain⟨u,h1,w⟩:=r.get (i:=i) (x:=.bl bs[i]) (by rw[Aa9,Aa2 hi];rfl)
 rw[e]at h1;cases h1;exact⟨_,Aa2 hi,w⟩
theorem aP8 (K:Frag)(U:X.calm=true)(h:X.K=K:=by rfl):V2 X (.builtin "all") (λxs H Q=>∃(p:Addr) (l:List Bool),xs=[.ref p]/\SqL K H p (l.map V.bl)/\Q (.bl (l.all id)) H):=by
 subst h;intro B s σ H xs us Q I r ⟨p,l,e,M,q⟩;subst e;obtain⟨u,rfl,R⟩:=X4 r;cases R;obtain⟨its,m,N,_⟩:=I.list M;have w:=N.isList;have z:p<s.heap.objs.size:=by obtain⟨_,e,_⟩:=w;exact Ab3 e
 refine call_all_walk (wpAny_pyIter_list w ?_);refine⟨s.heap.objs.size,[s.heap.objs.size,p],[s.heap.objs.size],its.toArray.size,_,_,λi=>(l[i]?).getD true,rfl,Walks.list (A:=X.A.in1) (I.ok.hd U) _ p (Ab9 z) its.toArray,
  ⟨⟨_,Ac3 _ rfl,rfl,rfl⟩,w.push _⟩,λi v s' F D Y j=>?_,λP tk J=>?_⟩
 .obtain⟨b,e,rfl⟩:=cY0 m (i:=i) (v:=v) (by simpa using Y)
  simp only[e,Option.getD_some]at j;exact wpAny_truthy_bool j
 .have e:((List.range its.toArray.size).all λi=>(l[i]?).getD true)=l.all id:=by
   have:=m.length
   rw[Aa3]at this;rw[Ab2,<- this];exact LSm.range_all l
  rw[e];exact⟨.bl _,H,I.kept (cY3 J),rfl,q⟩
end
end LV
namespace LS
open PySem PySem.W PyProof.Rows
def ev {α:Type}(lt:Nat->Nat->Bool):KasT α->α
 | .ret a=>a
 | .ask i j k=>ev lt (k (lt i j))
theorem Z6 (lt:Nat->Nat->Bool)(f:α->KasT β):∀t:KasT α,ev lt (t.bind f)=ev lt (f (ev lt t))
 | .ret _=>rfl
 | .ask i j k=>Z6 lt f (k (lt i j))
def Q3 {α:Type}(lt:Nat->Nat->Bool)(P:Nat->Prop):KasT α->Prop
 | .ret _=>True
 | .ask i j k=>P i/\P j/\Q3 lt P (k (lt i j))
theorem R6:∀{t:KasT α},Q3 lt P t->Q3 lt P (f (ev lt t))->Q3 lt P (t.bind f)
 | .ret _,_,h=>h
 | .ask _ _ _,⟨h1,h2,h3⟩,h=>⟨h1,h2,R6 h3 h⟩
theorem cQ6
  (w:∀i j C,P i->P j->C (lt i j) s->cmp i j C s):∀(t:KasT α),Q3 lt P t->Q (ev lt t) s->t.kasWp cmp Q s
 | .ret _,_,h=>h
 | .ask i j k,⟨h1,z,m⟩,h=>w i j _ h1 z (cQ6 w (k (lt i j)) m h)
structure Ord (lt:Nat->Nat->Bool):Prop where
 asym:∀a b,lt a b=true->lt b a=false
 trans:∀a b c,lt b a=false->lt c b=false->lt c a=false
section
def g (p:Array Nat)(i:Nat):Nat:=p.getD i 0
theorem aR4:g p i=(p[i]?).getD 0:=by unfold g;simp[Array.getD_eq_getD_getElem?]
abbrev le (lt:Nat->Nat->Bool)(a b:Nat):Prop:=lt b a=false
theorem Ord.refl (O:Ord lt)(a:Nat):le lt a a:=by
 cases h:lt a a with
 | false=>exact h
 | true=>exact O.asym a a h
theorem Ord.of_lt (O:Ord lt)(h:lt a b=true):le lt a b:=O.asym a b h
def Srt (lt:Nat->Nat->Bool)(p:Array Nat)(k:Nat):Prop:=∀i j,i<=j->j<k->le lt (g p i) (g p j)
def Dsc (lt:Nat->Nat->Bool)(p:Array Nat)(k:Nat):Prop:=∀i j,i<=j->j<k->le lt (g p j) (g p i)
theorem bD6 (w:j<=p.size)(k:Nat):g (kas_rev p i j) k=if i<=k/\k<j then g p (i+j-1-k) else g p k:=by
 unfold kas_rev;rw[aR4,getElem?_mirror_all w,aR4,aR4];split <;> rfl
theorem dS9 (w:k<p.size)(z:l<=k)(i:Nat):g (bubble p k (k-l)) i=if i=l then g p k else if l<i/\i<=k then g p (i-1) else g p i:=by
 rw[aR4,getElem?_bubble w _ (by lia),aR4,aR4,aR4,show k-(k-l)=l by lia]
 repeat' split
 all_goals rfl
theorem bG8 (O:Ord lt):∀(f n:Nat),1<=n->n+f<=N->Srt lt p n->∃m,ev lt (kas_asc p f n)=m/\n<=m/\m<=n+f/\Srt lt p m/\(m<n+f->lt (g p m) (g p (m-1))=true)/\Q3 lt (λi=>∃j,j<N/\i=g p j) (kas_asc p f n)
 | 0,n,h1,hN,h=>⟨n,rfl,Aa7 _,Aa7 _,h,λz=>absurd z (Ad9 _),trivial⟩
 | f+1,n,h1,hN,h=>by
  cases w:lt (g p n) (g p (n-1)) with
  | true=>
   refine⟨n,?_,Aa7 _,by lia,h,λ_=>w,⟨n,by lia,rfl⟩,⟨n-1,by lia,rfl⟩,?_⟩
   .show ev lt (if lt (g p n) (g p (n-1))=true then KasT.ret n else kas_asc p f (n+1))=n
    rw[w];rfl
   .show Q3 lt _ (if lt (g p n) (g p (n-1))=true then KasT.ret n else kas_asc p f (n+1))
    rw[w];exact trivial
  | false=>
   have M:Srt lt p (n+1):=λi j Y D=>by
    by_cases e:j=n
    .subst e;by_cases e2:i=j
     .subst e2;exact O.refl _
     .exact O.trans _ _ _ (h i (j-1) (by lia) (by lia)) w
    .exact h i j Y (by lia)
   obtain⟨m,e,R,Q,X,U,J⟩:=bG8 O (N:=N) f (n+1) (by lia) (by lia) M
   refine⟨m,?_,by lia,by lia,X,λz=>U (by lia),⟨n,by lia,rfl⟩,⟨n-1,by lia,rfl⟩,?_⟩
   .show ev lt (if lt (g p n) (g p (n-1))=true then KasT.ret n else kas_asc p f (n+1))=m
    rw[w];exact e
   .show Q3 lt _ (if lt (g p n) (g p (n-1))=true then KasT.ret n else kas_asc p f (n+1))
    rw[w];exact J
def Same (lt:Nat->Nat->Bool)(p:Array Nat)(n q:Nat):Prop:=q<n/\∀i j,n-1-q<=i->i<n->n-1-q<=j->j<n->le lt (g p i) (g p j)
theorem bY9 (O:Ord lt)(N:n<=p.size)(h:Dsc lt p n)(w:Same lt p n q):Dsc lt (kas_rev p (n-(q+1)) n) n/\(∀k,n<=k->g (kas_rev p (n-(q+1)) n) k=g p k)/\Same lt (kas_rev p (n-(q+1)) n) n q:=by
 obtain⟨R,w⟩:=w;have e:∀k,g (kas_rev p (n-(q+1)) n) k=if n-(q+1)<=k/\k<n then g p (n-(q+1)+n-1-k) else g p k:=bD6 N;have z:∀k,k<n->le lt (g (kas_rev p (n-(q+1)) n) k) (g p k)/\le lt (g p k) (g (kas_rev p (n-(q+1)) n) k):=λk M=>by
  rw[e];split
  .exact⟨w _ _ (by lia) (by lia) (by lia) (by lia),w _ _ (by lia) (by lia) (by lia) (by lia)⟩
  .exact⟨O.refl _,O.refl _⟩
 refine⟨λi j m U=>?_,λk M=>by rw[e,Ab (by lia)],R,λi j h1 Y J X=>?_⟩
 .exact O.trans _ _ _ (z j U).1 (O.trans _ _ _ (h i j m U) (z i (by lia)).2)
 .exact O.trans _ _ _ (z i Y).1 (O.trans _ _ _ (w i j h1 Y J X) (z j X).2)
theorem aB9 (O:Ord lt)(h1:1<=n)(h:Dsc lt p n)(z:le lt (g p n) (g p (n-1))):Dsc lt p (n+1):=λi j w m=>by
 by_cases e:j=n
 .subst e;by_cases e2:i=j
  .subst e2;exact O.refl _
  .exact O.trans _ _ _ z (h i (j-1) (by lia) (by lia))
 .exact h i j w (by lia)
theorem aS8 (O:Ord lt):∀(f:Nat) (p:Array Nat) (n q:Nat),1<=n->n+f<=N->N<=p.size->(∀j,j<N->P (g p j))->Dsc lt p n->Same lt p n q ->
  ∃p' m q',ev lt (kas_desc f p n q)=(p',m,q')/\p'.Perm p/\n<=m/\m<=n+f/\Dsc lt p' m/\Same lt p' m q'/\(∀j,j<N->P (g p' j))/\Q3 lt P (kas_desc f p n q)
 | 0,p,n,q,h1,hN,hz,hP,h,w=>⟨p,n,q,rfl,Array.Perm.refl _,Aa7 _,Aa7 _,h,w,hP,trivial⟩
 | f+1,p,n,q,h1,hN,hz,hP,h,w=>by
  have sh:∀c:Bool,lt (g p n) (g p (n-1))=c->ev lt (kas_desc (f+1) p n q)=ev lt (if c=true then(if q>0 then kas_desc f (kas_rev p (n-(q+1)) n) (n+1) 0 else kas_desc f p (n+1) 0)
    else .ask (g p (n-1)) (g p n) λd=>if d=true then .ret (p,n,q) else kas_desc f p (n+1) (q+1)):=λc e=>by subst e;rfl
  have z:∀c:Bool,lt (g p n) (g p (n-1))=c->Q3 lt P (if c=true then(if q>0 then kas_desc f (kas_rev p (n-(q+1)) n) (n+1) 0 else kas_desc f p (n+1) 0)
    else .ask (g p (n-1)) (g p n) λd=>if d=true then .ret (p,n,q) else kas_desc f p (n+1) (q+1))->Q3 lt P (kas_desc (f+1) p n q):=λc e hh=>by subst e;exact⟨hP n (by lia),hP (n-1) (by lia),hh⟩
  cases Y:lt (g p n) (g p (n-1)) with
  | true=>
   rw[sh true Y,Ac rfl];have z:=z true Y;rw[Ac rfl]at z;by_cases hq:q>0
   .rw[Ac hq]at z ⊢;obtain⟨d1,d2,d3⟩:=bY9 O (by lia) h w
    have hl:le lt (g (kas_rev p (n-(q+1)) n) n) (g (kas_rev p (n-(q+1)) n) (n-1)):=by
     rw[d2 n (Aa7 _),bD6 (by lia),Ac (by lia)]
     exact O.trans _ _ _ (O.of_lt Y) (w.2 _ _ (by lia) (by lia) (by have:=w.1;lia) (by have:=w.1;lia))
    obtain⟨p',m,q',U,J,a2,a3,M,R,Q,D⟩:=aS8 O (P:=P) (N:=N) f (kas_rev p (n-(q+1)) n) (n+1) 0 (by lia) (by lia) (by unfold kas_rev;rw[mirror_size];exact hz) (λj hj=>by
     rw[bD6 (by lia)]
     split
     .exact hP _ (by have:=w.1;lia)
     .exact hP j hj) (aB9 O h1 d1 hl) ⟨by lia,λi j b1 F b3 B=>by
      have:i=j:=by lia
      subst this;exact O.refl _⟩
    exact⟨p',m,q',U,J.trans (mirror_perm _ _ _ _),by lia,by lia,M,R,Q,z D⟩
   .rw[Ab hq]at z ⊢;obtain⟨p',m,q',U,J,a2,a3,M,R,Q,D⟩:=aS8 O (P:=P) (N:=N) f p (n+1) 0 (by lia) (by lia) hz hP (aB9 O h1 h (O.of_lt Y)) ⟨by lia,λi j b1 F b3 B=>by
      have:i=j:=by lia
      subst this;exact O.refl _⟩
    exact⟨p',m,q',U,J,by lia,by lia,M,R,Q,z D⟩
  | false=>
   rw[sh false Y,Ab Ah];have z:=z false Y;rw[Ab Ah]at z;cases X:lt (g p (n-1)) (g p n) with
   | true=>
    refine⟨p,n,q,?_,Array.Perm.refl _,Aa7 _,by lia,h,w,hP,z ⟨hP _ (by lia),hP _ (by lia),?_⟩⟩
    .show ev lt (if lt (g p (n-1)) (g p n)=true then _ else _)=_
     rw[X];rfl
    .show Q3 lt P (if lt (g p (n-1)) (g p n)=true then _ else _)
     rw[X];exact trivial
   | false=>
    obtain⟨hq,w⟩:=w;have s':Same lt p (n+1) (q+1):=⟨by lia,λi j b1 F b3 B=>by
     have up:∀i,n-1-q<=i->i<n+1->le lt (g p i) (g p (n-1))/\le lt (g p (n-1)) (g p i):=λi c1 c2=>by
      by_cases e:i=n
      .subst e;exact⟨X,Y⟩
      .exact⟨w i (n-1) c1 (by lia) (by lia) (by lia),w (n-1) i (by lia) (by lia) c1 (by lia)⟩
     exact O.trans _ _ _ (up i (by lia) F).1 (up j (by lia) B).2⟩
    obtain⟨p',m,q',U,J,a2,a3,M,R,Q,D⟩:=aS8 O (P:=P) (N:=N) f p (n+1) (q+1) (by lia) (by lia) hz hP (aB9 O h1 h X) s'
    refine⟨p',m,q',?_,J,by lia,by lia,M,R,Q,z ⟨hP _ (by lia),hP _ (by lia),?_⟩⟩
    .show ev lt (if lt (g p (n-1)) (g p n)=true then _ else _)=_
     rw[X];exact U
    .show Q3 lt P (if lt (g p (n-1)) (g p n)=true then _ else _)
     rw[X];exact D
theorem dB7 (O:Ord lt)(w:∀j,j<N->P (g p j))(h1:1<=n)(hN:n+f<=N)(h:Srt lt p n):Q3 lt P (kas_asc p f n):=by
 obtain⟨_,_,_,_,_,_,a⟩:=bG8 O f n h1 hN h;have U:∀{α:Type} (t:KasT α),Q3 lt (λi=>∃j,j<N/\i=g p j) t->Q3 lt P t:=λ{α} t=>by
  induction t with
  | ret _=>exact λz=>z
  | ask i j k X=>
   rintro⟨⟨a,m,rfl⟩,⟨b,Y,rfl⟩,z⟩;exact⟨w a m,w b Y,X _ z⟩
 exact U _ a
theorem bM6 (O:Ord lt)(h1:1<=n)(Q:n<=N)(D:N<=p.size)(z:∀j,j<N->P (g p j))(h:Dsc lt p n) :
  ∃m p',ev lt (kas_tail3 n N p)=(m,p')/\p'.Perm p/\1<=m/\m<=N/\Srt lt p' m/\(∀j,j<N->P (g p' j))/\Q3 lt P (kas_tail3 n N p):=by
 have e:∀k,g (kas_rev p 0 n) k=if 0<=k/\k<n then g p (0+n-1-k) else g p k:=bD6 (by lia)
 have s:Srt lt (kas_rev p 0 n) n:=λi j J Y=>by
  rw[e,e,Ac (by lia),Ac (by lia)]
  exact h _ _ (by lia) (by lia)
 have w:∀j,j<N->P (g (kas_rev p 0 n) j):=λj Y=>by
  rw[e];split
  .exact z _ (by lia)
  .exact z j Y
 obtain⟨m,X,M,R,U,_,_⟩:=bG8 O (p:=kas_rev p 0 n) (N:=N) (N-n) n h1 (by lia) s
 refine⟨m,kas_rev p 0 n,?_,mirror_perm _ _ _ _,by lia,by lia,U,w,R6 (dB7 O w h1 (by lia) s) trivial⟩
 unfold kas_tail3;rw[Z6,X];rfl
theorem aQ6 (O:Ord lt)(h1:1<=n)(hn:n+1<=N)(hz:N<=p.size)(hP:∀j,j<N->P (g p j))(h:Dsc lt p (n+1)) :
  ∃m p',ev lt (kas_descPart n N p)=(m,p')/\p'.Perm p/\1<=m/\m<=N/\Srt lt p' m/\(∀j,j<N->P (g p' j))/\Q3 lt P (kas_descPart n N p):=by
 obtain⟨R,m1,w,z,Q,a2,a3,a4,a5,D,a7⟩:=aS8 O (P:=P) (N:=N) (N-(n+1)) p (n+1) 0 (by lia) (by lia) hz hP h ⟨by lia,λi j Y X U J=>by
  have:i=j:=by lia
  subst this;exact O.refl _⟩
 have z1:N<=R.size:=by rw[Q.size_eq];exact hz
 unfold kas_descPart;by_cases M:w>0
 .obtain⟨d1,d2,d3⟩:=bY9 O (by lia) a4 a5
  have hP':∀j,j<N->P (g (kas_rev R (m1-(w+1)) m1) j):=λj hj=>by
   rw[bD6 (by lia)]
   split
   .exact D _ (by have:=a5.1;lia)
   .exact D j hj
  obtain⟨m,p',F,Y,X,U,J,B,b6⟩:=bM6 O (P:=P) (p:=kas_rev R (m1-(w+1)) m1) (n:=m1) (N:=N) (by lia) (by lia) (by unfold kas_rev;rw[mirror_size];exact z1) hP' d1
  refine⟨m,p',?_,Y.trans ((mirror_perm _ _ _ _).trans Q),X,U,J,B,R6 a7 ?_⟩
  .rw[Z6,z];show ev lt (if w>0 then _ else _)=_;rw[Ac M];exact F
  .rw[z];show Q3 lt P (if w>0 then _ else _);rw[Ac M];exact b6
 .obtain⟨m,p',F,Y,X,U,J,B,b6⟩:=bM6 O (P:=P) (p:=R) (n:=m1) (N:=N) (by lia) (by lia) z1 D a4
  refine⟨m,p',?_,Y.trans Q,X,U,J,B,R6 a7 ?_⟩
  .rw[Z6,z];show ev lt (if w>0 then _ else _)=_;rw[Ab M];exact F
  .rw[z];show Q3 lt P (if w>0 then _ else _);rw[Ab M];exact b6
theorem cN0 (O:Ord lt)(h1:1<=N)(hz:N<=p.size)(w:∀j,j<N->P (g p j)) :
  ∃m p',ev lt (kas_count N p)=(m,p')/\p'.Perm p/\1<=m/\m<=N/\Srt lt p' m/\(∀j,j<N->P (g p' j))/\Q3 lt P (kas_count N p):=by
 have s1:Srt lt p 1:=λi j U z=>by
  have:i=j:=by lia
  subst this;exact O.refl _
 obtain⟨n,a0,M,a2,R,a4,_⟩:=bG8 O (p:=p) (N:=N) (N-1) 1 (by lia) (by lia) s1
 have aP:=dB7 O w (f:=N-1) (n:=1) (by lia) (by lia) s1
 unfold kas_count;have J:∀{t:KasT (Nat×Array Nat)},(if(n==N)=true then KasT.ret (n,p) else if n>1 then .ask (p.getD 0 0) (p.getD (n-1) 0) λc=>if c=true then .ret (n,p) else kas_descPart n N (kas_rev p 0 n) else kas_descPart n N p)=t ->
   (∃m p',ev lt t=(m,p')/\p'.Perm p/\1<=m/\m<=N/\Srt lt p' m/\(∀j,j<N->P (g p' j))/\Q3 lt P t) ->
   ∃m p',ev lt ((kas_asc p (N-1) 1).bind λn=>if(n==N)=true then .ret (n,p) else if n>1 then .ask (p.getD 0 0) (p.getD (n-1) 0) λc=>if c=true then .ret (n,p) else kas_descPart n N (kas_rev p 0 n) else kas_descPart n N p)=(m,p')/\p'.Perm p/\1<=m/\m<=N/\Srt lt p' m/\(∀j,j<N->P (g p' j)) /\
    Q3 lt P ((kas_asc p (N-1) 1).bind λn=>if(n==N)=true then .ret (n,p) else if n>1 then .ask (p.getD 0 0) (p.getD (n-1) 0) λc=>if c=true then .ret (n,p) else kas_descPart n N (kas_rev p 0 n) else kas_descPart n N p):=λ{t} e h=>by
  obtain⟨m,p',Q,D,F,B,b4,b5,b6⟩:=h;refine⟨m,p',?_,D,F,B,b4,b5,R6 aP ?_⟩
  .rw[Z6,a0,e];exact Q
  .rw[a0,e];exact b6
 refine J rfl ?_;by_cases e:n=N
 .rw[Ac (by simp[e])]
  exact⟨n,p,rfl,Array.Perm.refl _,M,by lia,R,w,trivial⟩
 .rw[Ab (by simp[e])]
  have hd:=a4 (by lia)
  by_cases h2:n>1
  .rw[Ac h2];cases X:lt (g p 0) (g p (n-1)) with
   | true=>
    refine⟨n,p,?_,Array.Perm.refl _,M,by lia,R,w,w 0 (by lia),w (n-1) (by lia),?_⟩
    .show ev lt (if lt (g p 0) (g p (n-1))=true then _ else _)=_
     rw[X];rfl
    .show Q3 lt P (if lt (g p 0) (g p (n-1))=true then _ else _)
     rw[X];exact trivial
   | false=>
    have al:∀i j,i<n->j<n->le lt (g p i) (g p j):=λi j hi z=>O.trans _ _ _ (R i (n-1) (by lia) (by lia)) (O.trans _ _ _ X (R 0 j (by lia) z))
    have Y:∀k,g (kas_rev p 0 n) k=if 0<=k/\k<n then g p (0+n-1-k) else g p k:=bD6 (by lia)
    have ds:Dsc lt (kas_rev p 0 n) (n+1):=by
     refine aB9 O M (λi j U z=>?_) ?_
     .rw[Y,Y,Ac (by lia),Ac (by lia)]
      exact al _ _ (by lia) (by lia)
     .rw[Y,Y,Ab (by lia),Ac (by lia)]
      exact O.trans _ _ _ (O.of_lt hd) (al _ _ (by lia) (by lia))
    have hP':∀j,j<N->P (g (kas_rev p 0 n) j):=λj z=>by
     rw[Y];split
     .exact w _ (by lia)
     .exact w j z
    obtain⟨m,p',Q,D,F,B,b4,b5,b6⟩:=aQ6 O (P:=P) (p:=kas_rev p 0 n) (n:=n) (N:=N) M (by lia) (by unfold kas_rev;rw[mirror_size];exact hz) hP' ds
    refine⟨m,p',?_,D.trans (mirror_perm _ _ _ _),F,B,b4,b5,w 0 (by lia),w (n-1) (by lia),?_⟩
    .show ev lt (if lt (g p 0) (g p (n-1))=true then _ else _)=_
     rw[X];exact Q
    .show Q3 lt P (if lt (g p 0) (g p (n-1))=true then _ else _)
     rw[X];exact b6
  .rw[Ab h2];have n1:n=1:=by lia
   subst n1;exact aQ6 O (Aa7 _) (by lia) hz w (aB9 O (Aa7 _) (λi j U z=>by
    have:i=j:=by lia
    subst this;exact O.refl _) (O.of_lt hd))
theorem aV6 (O:Ord lt)(X:k<N)(w:∀j,j<N->P (g p j))(U:Srt lt p k):∀(f l r:Nat),l<=r->r<=k->r-l<=f->(∀i,i<l->le lt (g p i) (g p k))->(∀i,r<=i->i<k->lt (g p k) (g p i)=true) ->
  ∃m,ev lt (kas_place p k f l r)=m/\m<=k/\(∀i,i<m->le lt (g p i) (g p k))/\(∀i,m<=i->i<k->lt (g p k) (g p i)=true)/\Q3 lt P (kas_place p k f l r)
 | 0,l,r,h1,h2,h3,h4,h5=>⟨l,rfl,by lia,h4,λi a b=>h5 i (by lia) b,trivial⟩
 | f+1,l,r,h1,h2,h3,h4,h5=>by
  unfold kas_place;by_cases Y:l≥r
  .rw[Ac Y];exact⟨l,rfl,by lia,h4,λi a b=>h5 i (by lia) b,trivial⟩
  .rw[Ab Y];cases z:lt (g p k) (g p ((l+r) / 2)) with
   | true=>
    obtain⟨m,J,M,R,Q,D⟩:=aV6 O X w U f l ((l+r) / 2) (by lia) (by lia) (by lia) h4 (λi F B=>by
     cases e:lt (g p k) (g p i) with
     | true=>rfl
     | false=>
      have:lt (g p k) (g p ((l+r) / 2))=false:=O.trans _ _ _ (U _ _ F B) e
      rw[z]at this;cases this)
    refine⟨m,?_,M,R,Q,w k X,w _ (by lia),?_⟩
    .show ev lt (if lt (g p k) (g p ((l+r) / 2))=true then _ else _)=_
     rw[z];exact J
    .show Q3 lt P (if lt (g p k) (g p ((l+r) / 2))=true then _ else _)
     rw[z];exact D
   | false=>
    obtain⟨m,J,M,R,Q,D⟩:=aV6 O X w U f ((l+r) / 2+1) r (by lia) (by lia) (by lia) (λi F=>O.trans _ _ _ (U i ((l+r) / 2) (by lia) (by lia)) z) h5
    refine⟨m,?_,M,R,Q,w k X,w _ (by lia),?_⟩
    .show ev lt (if lt (g p k) (g p ((l+r) / 2))=true then _ else _)=_
     rw[z];exact J
    .show Q3 lt P (if lt (g p k) (g p ((l+r) / 2))=true then _ else _)
     rw[z];exact D
theorem cJ3 (O:Ord lt):∀(f:Nat) (p:Array Nat) (k:Nat),k+f=N->N<=p.size->(∀j,j<N->P (g p j))->Srt lt p k ->
  ∃p',ev lt (kas_bin f p k)=p'/\p'.Perm p/\Srt lt p' N/\Q3 lt P (kas_bin f p k)
 | 0,p,k,hN,hz,hP,h=>⟨p,rfl,Array.Perm.refl _,(show k=N from hN)▸h,trivial⟩
 | f+1,p,k,hN,hz,hP,h=>by
  obtain⟨l,X,R,Q,D,F⟩:=aV6 O (k:=k) (N:=N) (by lia) hP h k 0 k (by lia) (by lia) (by lia) (λi z=>absurd z (Nat.not_lt_zero _)) (λi a b=>by lia)
  have e:∀i,g (bubble p k (k-l)) i=if i=l then g p k else if l<i/\i<=k then g p (i-1) else g p i:=dS9 (by lia) R
  have s':Srt lt (bubble p k (k-l)) (k+1):=λi j Y hj=>by
   rw[e,e];by_cases M:i=l
   .rw[Ac M];by_cases w:j=l
    .rw[Ac w];exact O.refl _
    .rw[Ab w,Ac (by lia)]
     exact O.of_lt (D _ (by lia) (by lia))
   .rw[Ab M];by_cases w:j=l
    .rw[Ac w,Ab (by lia)]
     exact Q i (by lia)
    .rw[Ab w];by_cases U:l<i/\i<=k
     .rw[Ac U,Ac (by lia)]
      exact h _ _ (by lia) (by lia)
     .rw[Ab U];by_cases J:l<j/\j<=k
      .rw[Ac J];exact h _ _ (by lia) (by lia)
      .rw[Ab J];exact h _ _ Y (by lia)
  have m:∀j,j<N->P (g (bubble p k (k-l)) j):=λj hj=>by
   rw[e]
   repeat' split
   all_goals exact hP _ (by lia)
  obtain⟨p',B,b1,b2,b3⟩:=cJ3 O (P:=P) (N:=N) f (bubble p k (k-l)) (k+1) (by lia) (by rw[bubble_size];exact hz) m s'
  refine⟨p',?_,b1.trans (bubble_perm _ _ _),b2,?_⟩
  .show ev lt ((kas_place p k k 0 k).bind λl=>kas_bin f (bubble p k (k-l)) (k+1))=p'
   rw[Z6,X];exact B
  .show Q3 lt P ((kas_place p k k 0 k).bind λl=>kas_bin f (bubble p k (k-l)) (k+1))
   exact R6 F (by rw[X];exact b3)
theorem cC6 (O:Ord lt)(h1:1<=N):∃p',ev lt (kas_sort N)=p'/\p'.Perm (List.toArray (List.range N))/\Srt lt p' N/\Q3 lt (λi=>i<N) (kas_sort N):=by
 have hg:∀j,j<N->g (List.toArray (List.range N)) j<N:=λj hj=>by
  rw[aR4];simp[hj]
 obtain⟨m,X,w,Y,a2,a3,U,R,J⟩:=cN0 O (P:=λi=>i<N) (p:=List.toArray (List.range N)) (N:=N) h1 (by simp) hg
 have z1:N<=X.size:=by rw[Y.size_eq];simp
 unfold kas_sort;by_cases z:m<N
 .have M:max m 1=m:=by lia
  obtain⟨p',Q,D,F,B⟩:=cJ3 O (P:=λi=>i<N) (N:=N) (N-m) X m (by lia) z1 R U
  refine⟨p',?_,D.trans Y,F,R6 J ?_⟩
  .rw[Z6,w];dsimp only;rw[Ac z,M];exact Q
  .rw[w];dsimp only;rw[Ac z,M];exact B
 .have:m=N:=by lia
  refine⟨X,?_,Y,this▸U,R6 J ?_⟩
  .rw[Z6,w];dsimp only;rw[Ab z];rfl
  .rw[w];dsimp only;rw[Ab z];exact trivial
end
end LS
namespace LV
open PySem PySem.Spec PyProof.Rows L2 PySem.W Att
section
variable {P:Program}{w:World}{A:Around}{s:Shared}{Q:Bool->Shared->Prop}
theorem aM2 (a b:Int)(as bs:AD):HT.Y4 (a::as) (b::bs)=if a=b then HT.Y4 as bs else decide (a<b):=rfl
theorem aB3:∀{xs ys:AG} {as bs:AD} (i:Nat),IntsAre xs as->IntsAre ys bs->Q (HT.Y4 as bs) s->KatLex P w A true (decide (as.length<bs.length)) Q (xs.zip ys) i s
 | _,_,_,_,i,.nil,.nil,h=>h
 | _,_,_,_,i,.nil,@IntsAre.cons n t vs ns r,h=>by
  have e:decide (([]:AD).length<(n::ns).length)=true:=by simp
  show Q (decide (([]:AD).length<(n::ns).length)) s
  rw[e];exact h
 | _,_,_,_,i,@IntsAre.cons n t vs ns r,.nil,h=>by
  have e:decide ((n::ns).length<([]:AD).length)=false:=by simp
  show Q (decide ((n::ns).length<([]:AD).length)) s
  rw[e];exact h
 | _,_,_,_,i,@IntsAre.cons a t xs as ra,@IntsAre.cons b u ys bs rb,h=>by
  rw[aM2]at h;refine kat_cons ?_;refine SeqAt.EqAt.int_int a t b u P w _ _ ?_;by_cases e:a=b
  .subst e;rw[Ac rfl]at h
   have:(a==a)=true:=by simp
   rw[this];refine kat_yes ?_;have e2:decide ((a::as).length<(a::bs).length)=decide (as.length<bs.length):=by simp
   rw[e2];exact aB3 (i+1) ra rb h
  .rw[Ab e]at h
   have:(a==b)=false:=by simpa using e
   rw[this];refine kat_no ?_;cases hb:(true&&i==0) with
   | true=>exact oneLt_int h
   | false=>exact kat_one _ _ (lt_int h)
theorem aX4:∀a b:AD,HT.Y4 a b=true->HT.Y4 b a=false
 | [],[],h=>by cases h
 | [],_::_,_=>rfl
 | _::_,[],h=>by cases h
 | x::xs,y::ys,h=>by
  rw[aM2]at h ⊢;by_cases e:x=y
  .subst e;rw[Ac rfl]at h ⊢;exact aX4 xs ys h
  .rw[Ab e]at h;rw[Ab (λz=>e z.symm)]
   have:=An h
   exact Ak (by lia)
def G9 (a b:AD):Prop:=HT.Y4 b a=false
theorem aC7:∀a b c:AD,G9 a b->G9 b c->G9 a c
 | [],_,[],_,_=>rfl
 | [],_,_::_,_,_=>rfl
 | _::_,[],_,h,_=>by cases h
 | _::_,_::_,[],_,h=>by cases h
 | x::xs,y::ys,z::zs,h1,j=>by
  unfold G9 at *;rw[aM2]at *;by_cases e1:y=x
  .subst e1;rw[Ac rfl]at h1;by_cases e2:z=y
   .subst e2;rw[Ac rfl]at j ⊢;exact aC7 xs ys zs h1 j
   .rw[Ab e2]at j ⊢;exact j
  .rw[Ab e1]at h1;have h1:=Bm h1;by_cases e2:z=y
   .subst e2;rw[Ab e1];exact Ak h1
   .rw[Ab e2]at j;have j:=Bm j;rw[Ab (by lia)]
    exact Ak (by lia)
theorem aJ3:∀a b:AD,G9 a b->G9 b a->a=b
 | [],[],_,_=>rfl
 | [],_::_,_,h=>by cases h
 | _::_,[],h,_=>by cases h
 | x::xs,y::ys,h1,j=>by
  unfold G9 at *;rw[aM2]at *;by_cases e:x=y
  .subst e;rw[Ac rfl]at h1 j;rw[aJ3 xs ys h1 j]
  .rw[Ab (λz=>e z.symm)]at h1
   rw[Ab e]at j;have h1:=Bm h1;have j:=Bm j
   lia
theorem bC9 (a b:AD):G9 a b\/G9 b a:=by
 unfold G9;cases h:HT.Y4 b a with
 | false=>exact .inl rfl
 | true=>exact .inr (aX4 b a h)
theorem cD0 (ts:Nat->AD):LS.Ord λi j=>HT.Y4 (ts i) (ts j):=
 ⟨λa b h=>aX4 _ _ h,λa b c h1 z=>aC7 _ _ _ h1 z⟩
def TupsAt (h:Heap):AG->AB->Prop
 | [],[]=>True
 | v::vs,t::ts=>(∃a its,v=.ref a/\IsTup h a its/\IntsAre its.toList t/\t≠[])/\TupsAt h vs ts
 | _,_=>False
theorem TupsAt.length {h:Heap}:∀{vs:AG} {ts:AB},TupsAt h vs ts->vs.length=ts.length
 | [],[],_=>rfl
 | _::_,_::_,r=>by simp[TupsAt.length r.2]
 | [],_::_,r=>r.elim
 | _::_,[],r=>r.elim
theorem TupsAt.get:∀{vs:AG} {ts:AB} {i:Nat},TupsAt h vs ts->i<ts.length->∃a its,vs.getD i .none=.ref a/\IsTup h a its/\IntsAre its.toList (ts.getD i [])
 | v::vs,t::ts,0,⟨⟨a,its,e,h1,h2,_⟩,_⟩,_=>⟨a,its,e,h1,h2⟩
 | v::vs,t::ts,i+1,⟨_,r⟩,hi=>TupsAt.get (i:=i) r (by simpa using hi)
 | [],[],_,_,hi=>by simp at hi
 | [],_::_,_,r,_=>r.elim
 | _::_,[],_,r,_=>r.elim
theorem TupsAt.keep:∀{vs:AG} {ts:AB},TupsAt h vs ts->(∀a its,Value.ref a∈vs->IsTup h a its->IsTup h' a its)->TupsAt h' vs ts
 | [],[],_,_=>trivial
 | v::vs,t::ts,⟨⟨a,its,e,h1,h2,h3⟩,r⟩,k=>⟨⟨a,its,e,k a its (by rw[e];simp) h1,h2,h3⟩,r.keep λa its ha=>k a its (Ad4 _ ha)⟩
 | [],_::_,r,_=>r.elim
 | _::_,[],r,_=>r.elim
theorem TupsAt.kat:∀{vs:AG} {ts:AB},TupsAt h vs ts->∃fs,KatTups h vs fs/\fs.length=vs.length/\∀f∈fs,∃i t,f=Value.int i t
 | [],[],_=>⟨[],.nil,rfl,by simp⟩
 | v::vs,t::ts,⟨⟨a,its,e,⟨o,ho,hc,n,hd⟩,h2,h3⟩,r⟩=>by
  obtain⟨fs,k1,k2,k3⟩:=r.kat;subst e;obtain⟨l⟩:=its;cases h2 with
  | nil=>exact absurd rfl h3
  | cons i u r'=>
   refine⟨.int i u::fs,.cons ho hc hd (by simp) k1,by simp[k2],λf hf=>?_⟩
   rcases Aa1.mp hf with rfl | hf
   .exact⟨_,_,rfl⟩
   .exact k3 f hf
 | [],_::_,r=>r.elim
 | _::_,[],r=>r.elim
end
section
variable {P:Program}{w:World}{A:Around}{s:Shared}{E:Ec}
theorem bM7 (hL:s.heap.Ns L m)(hl:s.heap.IsList l vs.toArray)(ht:TupsAt s.heap vs ts)(J:∀a,Value.ref a∈vs->a≠L)(h2:2<=vs.length)(h64:vs.length<64)
  (h:∀h' D (p:AC) c,h'.Ns L m->(∀b o,b≠L->s.heap.get? b=some o->h'.get? b=some o)->s.heap.get? D=none->h'.get? D=some {cls:=.type "list",data:=.seq (p.map λi=>vs.getD i .none).toArray c}->p.Perm (List.range vs.length)->(p.map λi=>ts.getD i []).Pairwise G9->Q (.ref D) {s with heap:=h'}) :
  wpAny (model P w) A (call (.builtin "sorted") [.ref l]) Q E s:=by
 have hlen:=ht.length
 refine kat_sorted (cK5 hL) bN9 hl h2 h64 λD e1 h' F' N' hD=>?_
 have kp:∀b o,b≠L->s.heap.get? b=some o->h'.get? b=some o:=λb o hb e=>(N' (b,o) (Ad4 _ (Q9 hb (Q2 _ _) e))).1
 have DL:D≠L:=(N' _ Bl).2.1
 have hDs:s.heap.get? D=none:=by
  cases e:s.heap.get? D with
  | none=>rfl
  | some o=>exact absurd (hD (D,o) (Q9 DL (Q2 _ _) e)) (Ad9 _)
 have Y:TupsAt h' vs ts:=ht.keep λa its ha ⟨o,e,r⟩=>⟨o,kp a o (J a ha) e,r⟩
 obtain⟨fs,k1,k2,k3⟩:=Y.kat;refine kat_kind (s:={s with heap:=h'}) k1 (by lia) (T:=.type "int") (λv hv=>?_) (by decide) ?_
 .obtain⟨i,t,rfl⟩:=k3 v hv;exact λA Q E s _ q=>wpAny_of_eq (show typeOf (Value.int i t)=pure (.type "int") from rfl) q
 have et:(Value.type "int" != Value.type "tuple")=true:=by decide
 rw[et];obtain⟨F,e0,hp,hs,ha⟩:=LS.cC6 (cD0 λi=>ts.getD i []) (N:=vs.length) (by lia)
 refine LS.cQ6 (P:=λi=>i<vs.length) (lt:=λi j=>HT.Y4 (ts.getD i []) (ts.getD j [])) (λi j C hi hj hC=>?_) _ ha ?_
 .obtain⟨a,its,e,⟨o,h1,c1,n1,d1⟩,r1⟩:=Y.get (i:=i) (by lia)
  obtain⟨a',R,e',⟨o',h1',c1',n1',d1'⟩,B⟩:=Y.get (i:=j) (by lia)
  unfold kas_ask;rw[e,e'];refine kat_lt (s:={s with heap:=h'}) h1 d1 h1' d1' ?_
  have el:decide (its.size<R.size)=decide ((ts.getD i []).length<(ts.getD j []).length):=by
   have a1:=r1.length;have a2:=B.length
   simp only[Ax]at a1 a2;rw[a1,a2]
  rw[el];exact aB3 0 r1 B hC
 .rw[e0];refine KasFin.intro F' N' (.head λp hp z=>?_) λU c F'' X=>?_
  .have:=hD p hp
   rw[z]at this;exact absurd this (Ad9 _)
  .have kp2:∀b o,b≠L->s.heap.get? b=some o->U.get? b=some o:=λb o hb e=>(X (b,o) (Ad4 _ (Q9 hb (Q2 _ _) e))).1
   have M:F.toList.Perm (List.range vs.length):=by simpa using(Array.perm_iff_toList_perm.mp hp)
   refine h U D F.toList c F''.ns kp2 hDs (X _ Bl).1 M ?_;rw[Ae0,List.pairwise_iff_getElem];intro i j hi hj hij;have hz:F.toList.length=vs.length:=by rw[M.length_eq];simp
   have:=hs i j (Cp hij) (by lia)
   unfold LS.le at this;rw[LS.aR4,LS.aR4]at this;have hi':i<F.size:=by simpa using hi
   have hj':j<F.size:=by simpa using hj
   simp only[Bf hi',Bf hj',Option.getD_some]at this;unfold G9;simpa using this
theorem aR5 (ho:s.heap.get? a=some (seqObj "list" vs.toArray n))(X:vs.length<2)
  (h:P' (.done (.ret .none)) {s with heap:=sortedHeap s.heap a vs vs.toArray}):wpAny (model P w) A (Builtin.«list.sort» ⟨[.ref a],[]⟩) P' E s:=by
 rw[list_sort_plain];have U:a<s.heap.objs.size:=Ab3 ho;refine Aa (listItems_at ho rfl ?_);refine Aa (listUpdate_at ho rfl ?_);obtain⟨e1,z⟩:∃e1,(s.heap.update a (Obj.mapSeq λ_ => #[])).get? a=some (seqObj "list" #[] e1):=⟨_,get?_update_seq ho (λ_ => #[])⟩
 refine Aa (seqEpoch_at z rfl ?_);refine Aa (wpAny_newTuple ?_);refine Aa (wpAny_newList ?_);refine Bx ?_;have j:(((s.heap.update a (Obj.mapSeq λ_ => #[])).push (seqObj "tuple" vs.toArray 0)).push (seqObj "list" #[] 0)).get? a=some (seqObj "list" #[] e1):=by
  rw[Heap.get?_push_ne _ _ _ (by rw[size_push',Heap.size_update];exact Ab9 (Dm U)),Heap.get?_push_ne _ _ _ (by rw[Heap.size_update];exact Ab9 U)]
  exact z
 show wpAny (model P w) A _ P' E {s with heap:=((s.heap.update a (Obj.mapSeq λ_ => #[])).push (seqObj "tuple" vs.toArray 0)).push (seqObj "list" #[] 0)}
 dsimp only
 have m:vs.toArray.size<2:=by simpa using X
 rw[Ac m,Ac m];refine Aa (Ae ?_);rw[StateT.run_pure];refine Aa (Ae ?_);dsimp only;refine Aa (seqEpoch_at j rfl ?_);refine Aa (listUpdate_at j rfl ?_ (hsz2:=by rw[Array.size_map];show(pairsOf vs).size<=_;rw[pairsOf_size,Du];lia))
 simp only[bne_self_eq_false,Dj,if_false];refine Ae ?_;have e:(arrOf (SortSt.mk' general' (vs.toArray.zip vs.toArray) #[] 7 none)).map (·.2)=vs.toArray:=by
  show(vs.toArray.zip vs.toArray).map (·.2)=vs.toArray
  refine Array.ext (by simp) λi h1 X=>by simp
 have Y:=h
 unfold sortedHeap at Y;rw[e];exact Y
theorem bE8 (X:s.heap.IsList l vs.toArray)(Y:vs.length<2)
  (h:Q (.ref (s.heap.objs.size+1)) {s with heap:=sortedAll s.heap vs vs.toArray}):wpAny (model P w) A (call (.builtin "sorted") [.ref l]) Q E s:=by
 refine Calls.call_function_entry kind_sorted plain_sorted entry_sorted (args_sorted1 _) ?_;unfold Builtin.«sorted»;refine Aa (m:=checkCount "sorted" 1 1 _) (Ae ?_);refine Aa (collect_list X ?_ (by rw[Du];lia))
 refine Aa (wpAny_newList ?_ (by rw[Du];lia))
 have j:((s.heap.push (seqObj "list" #[] 0)).update s.heap.objs.size (Obj.mapSeq (· ++ vs.toArray))).objs.size=s.heap.objs.size+1:=by
  rw[Heap.size_update,size_push']
 have z:(((s.heap.push (seqObj "list" #[] 0)).update s.heap.objs.size (Obj.mapSeq (· ++ vs.toArray))).push (seqObj "list" vs.toArray 0)).get? (s.heap.objs.size+1)=some (seqObj "list" vs.toArray 0):=by
  rw[<- j];exact Ac3 _ rfl
 show wpAny _ _ _ _ _ {s with heap:=((s.heap.push (seqObj "list" #[] 0)).update s.heap.objs.size (Obj.mapSeq (· ++ vs.toArray))).push (seqObj "list" vs.toArray 0)}
 rw[j];refine Aa (Bx (Cf slot_list_sort ⟨_,z,rfl⟩ entry_list_sort (aR5 z Y ⟨_,rfl,?_⟩) (args_list_sort _)));exact Ae ⟨_,rfl,h⟩
end
section
theorem bK4:∀(o:HO),ObjOk P w H h a o->∃u,h.get? a=some u
 | .lst _,⟨_,its,n,_,e⟩=>⟨_,e⟩
 | .tup _,⟨_,its,_,o,e,_⟩=>⟨_,e⟩
 | .dK _,⟨_,_,vs,_,o,j,n,e,_⟩=>⟨_,e⟩
 | .dT _,⟨_,_,xs,_,o,j,m,e,_⟩=>⟨_,e⟩
 | .set _ _,⟨o,j,m,t,e,_⟩=>⟨_,e⟩
 | .ins _ _ _,⟨_,_,_,e,_⟩=>⟨_,e⟩
 | .own _,e=>e
 | .xd _,⟨Y,⟨o,h1⟩,_⟩=>by
  first
  | exact⟨_,h1.1⟩
  | (obtain⟨_,_,z,_⟩:=h1;exact⟨_,z⟩)
  | (obtain⟨_,z,_⟩:=h1;exact⟨_,z⟩)
 | .met _ _,e=>⟨_,e⟩
 | .rng _ _,⟨_,_,_,e⟩=>⟨_,e⟩
 | .frz _ _,⟨e,_⟩=>⟨_,e⟩
 | .tbl _,e=>⟨_,e⟩
 | .ext _,⟨_,e,_⟩=>e
theorem aV0 {aA:Ed}{σ:L2.St}{H:Hp}{s:Shared}{h':Heap}{m:Str->Option Value}{D:Addr}{ys:List V}{its:AG}{c:Nat}(I:Inv X aA σ H s)(B:s.heap.Ns X.env.locals m)(U:h'.Ns X.env.locals m)(kp:∀b o,b≠X.env.locals->s.heap.get? b=some o->h'.get? b=some o)
  (Q:s.heap.get? D=none) (e:h'.get? D=some {cls:=.type "list",data:=.seq its.toArray c}) (rv:Vals ys its) (hz:ys.length<=sizeLine):H D=none/\Inv X aA σ (upd H D (.lst ys)) {s with heap:=h'}:=by
 have R:H D=none:=by
  cases q:H D with
  | none=>rfl
  | some o=>obtain⟨u,F⟩:=bK4 o (I.hok D o q);rw[Q]at F;cases F
 have nD:∀b o,s.heap.get? b=some o->b≠D:=λb o q z=>by rw[z,Q]at q;cases q
 have J:∀b o,H b=some o->b≠D:=λb o q z=>by rw[z,R]at q;cases q
 refine⟨R,?_⟩;refine I.step (g':=s.gens) (d':=s.drawn) (t':=s.toks) (ch:=[]) (by simp) (λb o w _ _ q _=>kp b o w q) (λb o w _ _ q _=>⟨o.slots,kp b o w q⟩) (λb o _ q n=>by rw[B9 (nD b o q)];exact n) (λb o _ q=>?_)
  (λb xs q=>by rw[B9 (J b _ q)];exact q) (λb o u q=>by rw[B9 (J b _ q)];exact q) (λb ps q=>⟨#[],by rw[B9 (J b _ q)];simpa using q⟩) (λm' M=>?_) (λb o q=>?_) I.bare
 .by_cases w:b=X.env.locals
  .subst w;obtain⟨o',_,_,N,_⟩:=U;exact⟨o',N⟩
  .exact⟨o,kp b o w q⟩
 .rw[M.eq_nsMap,<- B.eq_nsMap];exact U
 .by_cases w:b=D
  .subst w;rw[C5]at q;cases q;exact⟨hz,its,c,rv,e⟩
  .rw[B9 w]at q;refine(I.hok b o q).stay (λY v P j=>kp Y v ?_ j) (λY j=>by rw[B9 (J Y _ j)];exact j) λY xs j=>by rw[B9 (J Y _ j)];exact j
   rcases P with z | z
   .rw[z];exact F1 q I.free
   .exact F1 z I.free
end
def TupsV (K:Frag)(H:Hp):List V->AB->Prop
 | [],[]=>True
 | v::vs,t::ts=>(∃a,v=.ref a/\SqT K H a (t.map V.int)/\t≠[])/\TupsV K H vs ts
 | _,_=>False
theorem TupsV.length {K:Frag}{H:Hp}:∀{vs:List V} {ts:AB},TupsV K H vs ts->vs.length=ts.length
 | [],[],_=>rfl
 | _::_,_::_,r=>by simp[TupsV.length r.2]
 | [],_::_,r=>r.elim
 | _::_,[],r=>r.elim
section
theorem cV5 (I:Inv X aA σ H s)(h:SqT X.K H a xs):a≠X.env.locals:=by
 rcases h with (h | ⟨o,h⟩) | ⟨o,its,n,w,_⟩
 .exact F1 h I.free
 .exact F1 h I.free
 .have:=Ab3 (I.mod.kin a o w)
  exact Ab9 (Ab8 this (Bd I.ok.bsz I.ok.above))
theorem bH5 (I:Inv X aA σ H s):∀{vs:List V} {ts:AB} {us:AG},TupsV X.K H vs ts->Vals vs us->TupsAt s.heap us ts/\∀a,Value.ref a∈us->a≠X.env.locals
 | [],[],_,_,r=>by cases r;exact⟨trivial,λa h=>by simp at h⟩
 | v::vs,t::ts,_,⟨⟨a,e,sq,ne⟩,h⟩,r=>by
  subst e;cases r with
  | cons z j=>
   cases z
   obtain⟨h1,w⟩:=bH5 I h j;obtain⟨its,m,p,_⟩:=I.tuple sq;refine⟨⟨⟨a,its.toArray,rfl,p,by simpa using O7 m,ne⟩,h1⟩,λb hb=>?_⟩
   rcases Aa1.mp hb with e | hb
   .cases e;exact cV5 I sq
   .exact w b hb
 | [],_::_,_,h,_=>h.elim
 | _::_,[],_,h,_=>h.elim
theorem aN9 (r:Vals vs us):∀{q:AC},(∀i∈q,i<vs.length)->Vals (q.map λi=>vs.getD i .non) (q.map λi=>us.getD i .none)
 | [],_=>.nil
 | i::q,h=>by
  have hi:=h i (by simp)
  obtain⟨u,h1,w⟩:=r.get (i:=i) (x:=vs[i]) (Aa2 hi);refine .cons ?_ (aN9 r λj z=>h j (by simp[z]))
  have e1:vs.getD i .non=vs[i]:=by simp[List.getD,hi]
  have e2:us.getD i .none=u:=by simp[List.getD,h1]
  show RelV (vs.getD i .non) (us.getD i .none)
  rw[e1,e2];exact w
end
section
theorem O2 (K:Frag)(h:X.K=K:=by rfl):V2 X (.builtin "sorted") (λxs H Q=>∃(p:Addr) (ys:List V) (ts:AB),xs=[.ref p]/\SqL K H p ys/\TupsV K H ys ts/\ys.length<64 /\
  ∀a (q:AC),H a=none->q.Perm (List.range ys.length)->(q.map λi=>ts.getD i []).Pairwise G9->Q (.ref a) (upd H a (.lst (q.map λi=>ys.getD i .non)))):=by
 subst h;intro aA s σ H xs us Q I r ⟨p,ys,ts,e,hq,F,h64,q⟩;subst e;obtain⟨u,rfl,rx⟩:=X4 r;cases rx;obtain⟨its,Y,B,hz⟩:=I.list hq;have z:=Y.length;have htl:=F.length;by_cases j:its.length<2
 .refine bE8 B.isList j ?_;obtain⟨e,he⟩:=sortedAll_at s.heap its its.toArray;have fin:=q (s.heap.objs.size+1) (List.range ys.length) (I.hok.fresh (Nat.le_succ _)) (.refl _) (by
   rw[z]
   match its.length,j with
   | 0,_=>simp
   | 1,_=>simp[Ce])
  have U:((List.range ys.length).map λi=>ys.getD i .non)=ys:=by
   refine List.ext_getElem (by simp) λi h1 j=>?_
   simp[List.getD,j]
  rw[U]at fin;exact⟨.ref _,_,I.laid (t':=s.toks) (λb o e=>sortedAll_old e) (Nat.le_succ _) (show ObjOk X.prog X.w _ _ _ (.lst ys) from⟨hz,its,e,Y,he⟩),rfl,fin⟩
 .obtain⟨m,R,_⟩:=I.loc;obtain⟨ta,tl⟩:=bH5 I F Y;refine bM7 R B.isList ta tl (by lia) (by lia) λh' D P c J kp hD U hp hs=>?_
  have M:∀i∈P,i<ys.length:=λi hi=>by have:=Ab5.mp (hp.mem_iff.mp hi);lia
  have N:=aN9 Y M
  obtain⟨HD,I'⟩:=aV0 I R J kp hD U N (by rw[Aa3,hp.length_eq,Cr];lia)
  exact⟨.ref D,_,I',rfl,q D P HD (by rw[z];exact hp) hs⟩
end
end LV
namespace LV
open PySem L2
section
abbrev lI (l:AD):PyData:=.list (l.map .int)
abbrev tI (l:AD):PyData:=.tuple (l.map .int)
theorem T4:∀l:AD,K6 (l.map .int)=true
 | []=>rfl
 | _::l=>by simp[K6,imm,T4 l]
theorem U9 {α:Type}{f:α->PyData}(h:∀a,imm (f a)=true):∀l:List α,K6 (l.map f)=true
 | []=>rfl
 | a::l=>by simp[K6,h a,U9 h l]
theorem aN7 (l:AD):imm (tI l)=true:=by simp[imm,T4 l]
theorem bG1:∀{l:AF},(∀d∈l,imm d=true)->K6 l=true
 | [],_=>rfl
 | a::l,h=>by simp[K6,h a (by simp),bG1 (l:=l) λd hd=>h d (by simp[hd])]
theorem bZ7 (i:Int):Fit (.int i):=⟨rfl,by simp[PyData.depth]⟩
def FitN (n:Nat)(d:PyData):Prop:=d.canLay0=true/\d.depth<=n
theorem cK4 (n:Nat)(i:Int):FitN n (.int i):=⟨rfl,by simp[PyData.depth]⟩
theorem aU3:∀{l:AF},(∀d∈l,FitN n d)->PyData.canLayAll0 l=true/\PyData.depthAll l<=n
 | [],_=>⟨rfl,by simp[PyData.depthAll]⟩
 | a::l,h=>by
  obtain⟨h1,h2⟩:=h a (by simp)
  obtain⟨h3,h4⟩:=aU3 (l:=l) λd w=>h d (by simp[w])
  exact⟨by simp[PyData.canLayAll0,h1,h3],by simp only[PyData.depthAll];lia⟩
theorem bL5 (h:∀d∈l,FitN n d):FitN (n+1) (.tuple l):=by
 obtain⟨a,b⟩:=aU3 h;exact⟨by simpa[PyData.canLay0]using a,by simp only[PyData.depth];lia⟩
theorem aC2 (h:∀d∈l,FitN n d):FitN (n+1) (.list l):=by
 obtain⟨a,b⟩:=aU3 h;exact⟨by simpa[PyData.canLay0]using a,by simp only[PyData.depth];lia⟩
theorem FitN.fit (h:FitN n d)(w:n<=32:=by decide):Fit d:=⟨h.1,Bd h.2 w⟩
theorem bN5 (l:AD):∀d∈l.map PyData.int,FitN 0 d:=λd w=>by
 obtain⟨i,_,rfl⟩:=Aa8.mp w;exact cK4 0 i
theorem S4 (l:AD):FitN 1 (tI l):=bL5 (bN5 l)
theorem bZ9 (z:E K false ta ρ d)(j:E K false tb ρ d')(h1:Fit d)(w:Fit d'):E K m (tOp (bS9 K false) ta tb) ρ (.bool (PyData.eqv d d')):=
 bR3 false false z j λS H x y Q _ Y X q=>⟨d,d',Y,X,h1,w,q _ H (L2.Same.rf _) (.bl _)⟩
theorem dB6 (z:E K false ta ρ d)(j:E K false tb ρ d')(h1:Fit d)(w:Fit d'):E K m (tOp (bS9 K true) ta tb) ρ (.bool (!PyData.eqv d d')):=
 bR3 false false z j λS H x y Q _ Y X q=>⟨d,d',Y,X,h1,w,q _ H (L2.Same.rf _) (.bl _)⟩
theorem aY3 (j:E K false ta ρ d)(Y:E K false tb ρ d')(X:sq d'=some ds)(h1:Fit d)(w:Fit d'):E K m (tOp (bI4 K false) ta tb) ρ (.bool (ds.any λz=>PyData.eqv z d)):=
 bR3 false false j Y λS H x y Q _ U J q=>⟨d,d',ds,U,J,X,h1,w,q _ H (L2.Same.rf _) (.bl _)⟩
theorem S6 (j:E K false ta ρ d)(Y:E K false tb ρ d')(X:sq d'=some ds)(h1:Fit d)(w:Fit d'):E K m (tOp (bI4 K true) ta tb) ρ (.bool (!ds.any λz=>PyData.eqv z d)):=
 bR3 false false j Y λS H x y Q _ U J q=>⟨d,d',ds,U,J,X,h1,w,q _ H (L2.Same.rf _) (.bl _)⟩
theorem Y9 [DecidableEq α](h:∀a b,PyData.eqv (f a) (f b)=decide (a=b)):∀l l':List α,PyData.eqvAll (l.map f) (l'.map f)=decide (l=l')
 | [],[]=>by simp[PyData.eqvAll]
 | [],_::_=>by simp[PyData.eqvAll]
 | _::_,[]=>by simp[PyData.eqvAll]
 | a::l,b::l'=>by
  simp only[Ac7,PyData.eqvAll,h,Y9 h l l',Bj];by_cases e:a=b <;> simp[e]
theorem bI5 (a b:Int):PyData.eqv (.int a) (.int b)=decide (a=b):=by
 simp only[PyData.eqv];by_cases h:a=b <;> simp[h]
theorem o4 (l l':AD):PyData.eqv (tI l) (tI l')=decide (l=l'):=by
 simp only[PyData.eqv];exact Y9 bI5 l l'
theorem bE0 (r:Rep K H p (lI l)):∃a,p=.ref a/\SqL K H a (l.map V.int):=by
 cases r with
 | lst s r=>rw[<- r.ints];exact⟨_,rfl,s⟩
theorem dR2 {t:TA}{l:AD}{M:Int}(Y:A K false t ρ [lI l])(w:M∈l/\∀a∈l,M<=a):E K m (tCB (λxs H Q=>∃(p:Addr) (l:AD),xs=[.ref p]/\SqL K H p (l.map V.int)/\l≠[]/\∀M,M∈l->(∀a∈l,M<=a)->Q (.int M) H) t) ρ (.int M):=cE8 Y λH vs Q r q=>by
 cases r with
 | cons a b=>
  cases b
  obtain⟨p,rfl,s⟩:=bE0 a;refine⟨p,l,rfl,s,List.ne_nil_of_mem w.1,λz h1 j=>?_⟩
  have:z=M:=Int.le_antisymm (j M w.1) (w.2 z h1)
  rw[this];exact q _ λ_=>.int _
abbrev lB (l:List Bool):PyData:=.list (l.map .bool)
theorem Reps.bools:∀{l:List Bool} {vs:List V},Reps K H vs (l.map PyData.bool)->vs=l.map V.bl
 | [],_,r=>by cases r;rfl
 | i::l,_,r=>by
  cases r with
  | cons a b=>cases a;rw[Reps.bools b];rfl
theorem cL9 {t:TA}{l:List Bool}(w:A K false t ρ [lB l]):E K m (tCB (λxs H Q=>∃(p:Addr) (l:List Bool),xs=[.ref p]/\SqL K H p (l.map V.bl)/\Q (.bl (l.all id)) H) t) ρ (.bool (l.all id)):=cE8 w λH vs Q r q=>by
 cases r with
 | cons a b=>
  cases b
  cases a with
  | lst s r=>rw[r.bools]at s;exact⟨_,l,rfl,s,q _ λ_=>.bl _⟩
theorem cR2 (Y:E K false ta ρ (lI l))(X:E K false tb ρ (.int k))(U:k∈l) :
  E K m (tBM K "list" (λx xs H Q=>∃(p:Addr) (l:AD) (k:Int),x=.ref p/\xs=[.int k]/\SqL K H p (l.map V.int)/\k∈l/\Q (.int (l.idxOf k)) H) ta (C9 tb O1)) ρ (.int (l.idxOf k)):=E.bor (E.imm (m:=false) λS B σ H o I Q q=>Y S B σ H o I _ λv H1 w r=>by
 obtain⟨p,rfl,s⟩:=bE0 r;refine⟨.inl ⟨rfl,_,s⟩,?_⟩;refine X S B σ H1 o (I.grow w) _ λu j z J=>?_
 cases J
 exact⟨p,l,k,rfl,rfl,H9 z s,U,q _ j (L2.Same.tr w z) (.int _)⟩)
theorem j5 {S:Addr->Prop}{H1:Hp}{p:Addr}{xs:List V}(w:∀b,S b->∃u:HM,H1 b=some u.ho)(hp:H1 p=none)(r:Reps K H1 xs ds)(hi:K6 ds=true):Reps K (hid (λb=>S b\/b=p) (upd H1 p (.lst xs))) xs ds:=
 aT5 (λa Y q=>u9 (λb z=>by
  rcases z with z | z
  .obtain⟨m,e⟩:=w b z;exact⟨m,by rw[B9 (λj=>by rw[j,hp]at e;cases e)];exact e⟩
  .exact⟨.l xs,by rw[z];exact C5⟩) (Z8 (D8 hp) q)) ds hi r
theorem dC7 {r:List V->Hp->VK->Prop}{t:TA}(z:A K false t ρ ds)(hi:K6 es=true)(j:∀(H:Hp) (vs:List V) (Q:VK),Reps K H vs ds->(∀p xs,H p=none->Reps K H xs es->Q (.ref p) (upd H p (.lst xs)))->r vs H Q):EF K (tCB r t) ρ es:=λS B σ H o I Q q=>
 z S B σ H o I _ λvs H1 w rs=>j H1 vs Q rs λp xs hp m=>q p xs _ (L2.Same.tr w (D8 hp)) (T2 w hp) C5 (j5 (I.grow w).lists hp m hi)
theorem W6 {t:TA}(z:A K false t ρ [.list ds])(hi:K6 ds=true):E K m (tCB (λxs H Q=>∃p ys,xs=[.ref p]/\((SqL K H p ys/\∀l,H l=none->Q (.ref l) (upd H l (.tup ys)))\/(SqT K H p ys/\Q (.ref p) H))) t) ρ (.tuple ds):=E.bor (E.imm (m:=false) (λS B σ H o I Q q=>z S B σ H o I _ λvs H1 j r=>by
 cases r with
 | cons a b=>
  cases b
  cases a with
  | lst s r=>exact⟨_,_,rfl,.inl ⟨s,λl w=>q _ _ (L2.Same.tr j (D8 w)) (.tup (SqT.of C5) (r.mono (D8 w)))⟩⟩) (by simp[imm,hi]))
theorem dJ6 {t:TA}{i j:Int}(X:A K false t ρ [.int i,.int j])(U : -(2^62)<=i/\i<2^62 /\ -(2^62)<=j/\j<2^62/\j-i<=1000000) :
  EF K (tCB (λxs H Q=>∃(r:Addr) (i j:Int),xs=[.ref r]/\H r=some (.rng i j)/\(-(2^62)<=i/\i<2^62 /\ -(2^62)<=j/\j<2^62/\j-i<=1000000)/\∀l,H l=none->Q (.ref l) (upd H l (.lst (aF2 i (j-i).toNat)))) (C9 (dC1 t) O1)) ρ (U4 i (j-i).toNat):=λS B σ H o I Q q=>
 X S B σ H o I _ λvs H1 m r=>by
  cases r with
  | cons a b=>
   cases a
   cases b with
   | cons a b=>
    cases a;cases b
    refine⟨i,j,rfl,λp hp=>⟨p,i,j,rfl,C5,U,λl z=>?_⟩⟩
    have w:=D8 (o:=.rng i j) hp
    have Y:=D8 (o:=.lst (aF2 i (j-i).toNat)) z
    refine q l _ _ (L2.Same.tr m (L2.Same.tr w Y)) (T2 (L2.Same.tr m w) z) C5 ?_;have e1:aF2 i (j-i).toNat=((List.range (j-i).toNat).map λ(k:Nat)=>i+(k:Int)).map V.int:=by simp[aF2]
    have e2:U4 i (j-i).toNat=((List.range (j-i).toNat).map λ(k:Nat)=>i+(k:Int)).map PyData.int:=by simp[U4]
    rw[e1,e2];exact R5 _
theorem dK2 (Y:E K false ta ρ (.list ds))(hi:K6 ds=true):EF K (bW8 K ta) ρ ds.reverse:=λS B σ H o I Q q=>
 Y S B σ H o I _ λv H1 m r=>by
  cases r with
  | lst s r=>
   refine⟨_,_,rfl,s,λl j=>q l _ _ (L2.Same.tr m (D8 j)) (T2 m j) C5 (j5 (I.grow m).lists j r.reverse ?_)⟩
   refine bG1 λd w=>?_
   have:∀{l:AF},K6 l=true->∀d∈l,imm d=true:=λ{l}=>by
    induction l with
    | nil=>simp
    | cons a l X=>intro h d w;simp[K6]at h;rcases Aa1.mp w with rfl | z;exact h.1;exact X h.2 d z
   exact this hi d (Bi.mp w)
end
def OT.kids:OT->List OT
 | .leaf _ | .dic _=>[]
 | .tup ts=>ts
 | .lst ts=>ts
def OT.at:AC->OT->Option OT
 | [],t=>some t
 | k::π,t=>(t.kids[k]?).bind (OT.at π)
def OT.put (t:OT)(π:AC)(u:OT):OT:=match π with
 | []=>u
 | k::π=>match t with
  | .lst ts=>.lst (ts.modify k λt=>OT.put t π u)
  | .tup ts=>.tup (ts.modify k λt=>OT.put t π u)
  | .leaf d=>.leaf d
  | .dic d=>.dic d
theorem OT.put_nil {t u:OT}:t.put [] u=u:=by rw[OT.put]
theorem OT.put_lst:(OT.lst ts).put (k::π) u=.lst (ts.modify k λt=>OT.put t π u):=by rw[OT.put]
theorem OT.put_tup:(OT.tup ts).put (k::π) u=.tup (ts.modify k λt=>OT.put t π u):=by rw[OT.put]
section
theorem R4:∀{l:List α} {k:Nat} {a:α},l[k]? = some a->l.modify k f=l.set k (f a)
 | [],k,a,h=>by simp at h
 | b::l,0,a,h=>by simp at h;subst h;rfl
 | b::l,k+1,a,h=>by
  have:=R4 (f:=f) (l:=l) (k:=k) (a:=a) (by simpa using h)
  simpa using this
theorem bS4:∀{ts:List OT} {xs:List V} {L:AL} {k:Nat} {t:OT},Dps K Z H xs ts L->ts[k]? = some t->∃v L1 L2 L3,xs[k]? = some v/\Dp K Z H v t L2/\L=L1++L2++L3 /\
  ∀(Z' H':Hp) (t':OT) (L2':AL),Same Z Z'->(∀a xs,Rd H a (.tup xs)->Rd H' a (.tup xs))->(∀b,b∈L1\/b∈L3->H' b=H b)->Dp K Z' H' v t' L2'->Dps K Z' H' xs (ts.set k t') (L1++L2'++L3)
 | [],_,_,_,_,r,h=>by simp at h
 | t::ts,_,_,0,_,r,h=>by
  simp at h;subst h
  cases r with
  | @cons v _ vs _ La Lb a b=>
   refine⟨v,[],La,Lb,rfl,a,rfl,λZ' H' t' L2' hz ht hl r=>?_⟩
   simpa using Dps.cons r (j3 hz ht ts (λb hb=>hl b (.inr hb)) b)
 | t::ts,_,_,k+1,t1,r,h=>by
  cases r with
  | @cons v _ vs _ La Lb a b=>
   obtain⟨w,L1,L2,L3,h1,h2,h3,h4⟩:=bS4 (k:=k) (t:=t1) b (by simpa using h)
   refine⟨w,La++L1,L2,L3,by simpa using h1,h2,by rw[h3];simp,λZ' H' t' L2' hz ht hl r=>?_⟩
   have:=Dps.cons (aD1 hz ht t (λb hb=>hl b (.inl (by simp[hb]))) a) (h4 Z' H' t' L2' hz ht (λb hb=>hl b (by rcases hb with hb | hb <;> simp[hb])) r)
   simpa using this
theorem cY7 {t:OT}{v:V}{L:AL}{k:Nat}{t1:OT}(r:Dp K Z H v t L)(h:t.kids[k]? = some t1):(∃a xs ts M,v=.ref a/\t=.tup ts/\SqT K H a xs/\Dps K Z H xs ts L/\ts[k]? = some t1/\M=L)\/∃a xs ts M,v=.ref a/\t=.lst ts/\H a=some (.lst xs)/\Dps K Z H xs ts M/\ts[k]? = some t1/\L=a::M:=by
 cases r with
 | leaf r=>simp[OT.kids]at h
 | dic _ _ _ _=>simp[OT.kids]at h
 | tup s r=>exact .inl ⟨_,_,_,_,rfl,rfl,s,r,h,rfl⟩
 | lst s r=>exact .inr ⟨_,_,_,_,rfl,rfl,s,r,h,rfl⟩
def Foc (K:Frag)(Z H:Hp)(v0:V)(t0:OT)(L0:AL)(π:AC)(v:V)(t:OT):Prop:=
 ∃L A C,Dp K Z H v t L/\L0=A++L++C/\∀(Z' H':Hp) (t':OT) (L':AL),Same Z Z'->(∀a xs,Rd H a (.tup xs)->Rd H' a (.tup xs))->(∀b,b∈A\/b∈C->H' b=H b)->Dp K Z' H' v t' L'->Dp K Z' H' v0 (t0.put π t') (A++L'++C)
theorem Foc.root (r:Dp K Z H v0 t0 L0):Foc K Z H v0 t0 L0 [] v0 t0:=
 ⟨L0,[],[],r,by simp,λj z m L' _ _ _ w=>by rw[OT.put_nil];simpa using w⟩
theorem Foc.mono (f:Foc K Z H v0 t0 L0 π v t)(J:Same Z Z')(U:∀a xs,Rd H a (.tup xs)->Rd H' a (.tup xs))(X:∀b∈L0,H' b=H b):Foc K Z' H' v0 t0 L0 π v t:=by
 obtain⟨L,A,C,h1,w,R⟩:=f;refine⟨L,A,C,aD1 J U t (λb hb=>X b (by rw[w];simp[hb])) h1,w,λN M D L' Y m j Q=>R N M D L' (L2.Same.tr J Y) (λa xs z=>m a xs (U a xs z)) (λb hb=>?_) Q⟩
 rw[j b hb];exact X b (by rw[w];rcases hb with hb | hb <;> simp[hb])
theorem aM5 {u t1:OT}{k:Nat}:∀{π:AC} {t0 t:OT},t0.at π=some t->t0.put π (t.put [k] u)=t0.put (π++[k]) u
 | [],t0,t,h=>by cases h;rw[OT.put_nil];rfl
 | j::π,t0,t,h=>by
  unfold OT.at at h;cases w:t0.kids[j]? with
  | none=>rw[w]at h;cases h
  | some t1=>
   rw[w]at h;have h:t1.at π=some t:=h;cases t0 with
   | leaf d=>simp[OT.kids]at w
   | dic d=>simp[OT.kids]at w
   | lst ts=>
    have w:ts[j]? = some t1:=w
    rw[Ab6,OT.put_lst,OT.put_lst,R4 w,R4 w,aM5 (t1:=t1) h]
   | tup ts=>
    have w:ts[j]? = some t1:=w
    rw[Ab6,OT.put_tup,OT.put_tup,R4 w,R4 w,aM5 (t1:=t1) h]
theorem aK5 {k:Nat}:∀{π:AC} {t0 t:OT},t0.at π=some t->t0.at (π++[k])=t.kids[k]?
 | [],t0,t,h=>by
  cases h
  show(t0.kids[k]?).bind (OT.at [])=_
  cases t0.kids[k]? <;> rfl
 | j::π,t0,t,h=>by
  unfold OT.at at h;rw[Ab6];show(t0.kids[j]?).bind (OT.at (π++[k]))=_;cases w:t0.kids[j]? with
  | none=>rw[w]at h;cases h
  | some z=>
   rw[w]at h;exact aK5 (π := π) (t0:=z) h
theorem Foc.down {v0 v:V}{t0 t t1:OT}{L0:AL}{π:AC}{k:Nat}(f:Foc K Z H v0 t0 L0 π v t)(ha:t0.at π=some t)(h:t.kids[k]? = some t1) :
  ∃a xs u,v=.ref a/\(SqL K H a xs\/SqT K H a xs)/\xs[k]? = some u/\Foc K Z H v0 t0 L0 (π++[k]) u t1:=by
 obtain⟨L,A,C,h1,h2,h3⟩:=f;rcases cY7 h1 h with⟨a,xs,P,M,rfl,rfl,s,F,e,rfl⟩ | ⟨a,xs,P,M,rfl,rfl,s,F,e,rfl⟩
 .obtain⟨u,X,L2,U,J,N,R,Q⟩:=bS4 F e;refine⟨a,xs,u,rfl,.inr s,J,L2,A++X,U++C,N,by rw[h2,R];simp,λm j B L' Y z w D=>?_⟩
  have:=h3 m j _ _ Y z (λb hb=>w b (by rcases hb with hb | hb <;> simp[hb])) (Dp.tup (s.imp (z _ _) id) (Q m j B L' Y z (λb hb=>w b (by rcases hb with hb | hb <;> simp[hb])) D))
  rw[<- aM5 (t1:=t1) ha,OT.put_tup,R4 e,OT.put_nil];simpa using this
 .obtain⟨u,X,L2,U,J,N,R,Q⟩:=bS4 F e;refine⟨a,xs,u,rfl,.inl (SqL.of s),J,L2,A++a::X,U++C,N,by rw[h2,R];simp,λm j B L' Y z w D=>?_⟩
  have:=h3 m j _ _ Y z (λb hb=>w b (by rcases hb with hb | hb <;> simp[hb])) (Dp.lst (by rw[w a (by simp)];exact s) (Q m j B L' Y z (λb hb=>w b (by rcases hb with hb | hb <;> simp[hb])) D))
  rw[<- aM5 (t1:=t1) ha,OT.put_lst,R4 e,OT.put_nil];simpa using this
end
section
def EFT (K:Frag)(t:TE)(ρ:List Sl)(u:OT):Prop:=
 ∀(S:Addr->Prop) (B:Hp) (σ:St) (H:Hp) (o:Nat->AL),Env K S B H σ ρ o->∀Q:VK,
  (∀v L H',Same H H'->(∀b∈L,H b=none)->L.Nodup->Dp K (hid (λb=>E3 ρ o S b\/b∈L) H') H' v u L->Q v H')->t σ H Q
def AFT (K:Frag)(t:TA)(ρ:List Sl)(us:List OT):Prop:=
 ∀(S:Addr->Prop) (B:Hp) (σ:St) (H:Hp) (o:Nat->AL),Env K S B H σ ρ o->∀Q:List V->Hp->Prop,
  (∀vs L H',Same H H'->(∀b∈L,H b=none)->L.Nodup->Dps K (hid (λb=>E3 ρ o S b\/b∈L) H') H' vs us L->Q vs H')->t σ H Q
theorem bJ0:Same (hid S H) (hid (λb=>S b\/b∈([]:AL)) H):=E2 (L2.Same.rf _) λb z _=>z.elim id λz=>nomatch z
theorem bC7 (h:E K true t ρ d):EFT K t ρ (.leaf d):=λS B σ H o I Q q=>h S B σ H o I _ λv w s r=>
 q v [] w s (λ_ z=>nomatch z) .nil (.leaf (r.mono bJ0))
theorem aS0:∀{us:List OT} {vs:List V} {L:AL},Dps K Z H vs us L->vs.length=us.length
 | [],_,_,r=>by cases r;rfl
 | u::us,_,_,r=>by cases r with | cons a b=>simp[aS0 b]
theorem J9:AFT K O1 ρ []:=λS B σ H o I Q q=>q [] [] H (L2.Same.rf _) (λ_ z=>nomatch z) .nil .nil
theorem Dps.mono (r:Dps K Z H vs us L)(z:Same Z Z')(h:Same H H'):Dps K Z' H' vs us L:=
 j3 z (λ_ _=>Z8 h) us (λb w=>by obtain⟨xs,e⟩:=k8 us r b w;rw[e];exact h _ _ e) r
theorem Env.hide {S:Addr->Prop}{B H H1:Hp}{σ:St}{o:Nat->AL}{L:AL}(I:Env K S B H σ ρ o)(s:Same H H1)(n:∀b∈L,H b=none)(l:∀b∈L,∃u:HM,H1 b=some u.ho) :
  Env K (λb=>S b\/b∈L) (hid (cL5 ρ o) H1) H1 σ ρ o:=by
 obtain⟨J,U⟩:=(I.grow s).rebase;have g:Same (hid (E3 ρ o S) H) (hid (E3 ρ o λb=>S b\/b∈L) H1):=E2 s λb z k=>by
  rcases z with (z | z) | z
  .exact .inl z
  .exact absurd (n b z) k
  .exact .inr z
 refine⟨I.len,P5,λb z=>?_,J.new,I.inj,λi ds h=>?_,λi d h=>?_,λi d h=>?_,λi t h=>?_⟩
 .rcases z with z | z
  .exact J.sl b z
  .obtain⟨xs,e⟩:=l b z;refine⟨xs,hid_some.mpr ⟨λpz=>?_,e⟩⟩
   obtain⟨i,x,h,X,Y⟩:=pz;obtain⟨M,e'⟩:=I.lists b (.inr ⟨i,x,h,X,Y⟩);rw[n b z]at e';cases e'
 .obtain⟨p,h1,w,xs,j,m⟩:=I.own i ds h;exact⟨p,h1,w,xs,s _ _ j,m.mono g⟩
 .obtain⟨v,h1,w⟩:=I.val i d h;exact⟨v,h1,w.mono g⟩
 .obtain⟨v,h1,w⟩:=I.bor i d h;exact⟨v,h1,w.mono s⟩
 .obtain⟨nd,v,h1,w⟩:=I.tr i t h;exact⟨nd,v,h1,w.mono g s⟩
theorem cU7 {o:Nat->AL}{S:Addr->Prop}{L:AL}{b:Addr}:E3 ρ o (λb=>S b\/b∈L) b↔E3 ρ o S b\/b∈L:=by
 constructor
 .rintro ((z | z) | z)
  .exact .inl (.inl z)
  .exact .inr z
  .exact .inl (.inr z)
 .rintro ((z | z) | z)
  .exact .inl (.inl z)
  .exact .inr z
  .exact .inl (.inr z)
theorem G4 (w:EFT K ta ρ u)(F:AFT K tr ρ us):AFT K (C9 ta tr) ρ (u::us):=λS B σ H o I Q q=>
 w S B σ H o I _ λx M H1 Y U R m=>F _ _ σ H1 o (I.hide Y U (aB0 u m)) _ λxs N J X j D r2=>by
  have P:=aB0 u m
  refine q (x::xs) (M++N) J (L2.Same.tr Y X) (λb hb=>?_) ?_ (.cons (m.mono ?_ X) (r2.mono ?_ (L2.Same.rf _)))
  .rcases Aa0.mp hb with hb | hb
   .exact U b hb
   .exact T2 Y (j b hb)
  .refine Aa4.mpr ⟨R,D,λa w b hb e=>?_⟩
   subst e;obtain⟨xs,e⟩:=P a w;rw[j a hb]at e;cases e
  .refine E2 X λb z k=>?_
   rcases z with z | z
   .exact .inl z
   .rcases Aa0.mp z with z | z
    .exact .inr z
    .exact absurd (j b z) k
  .refine E2 (L2.Same.rf _) λb z _=>?_
   rw[cU7];rcases z with z | z
   .exact .inl (.inl z)
   .rcases Aa0.mp z with z | z
    .exact .inl (.inr z)
    .exact .inr z
theorem aS7 {t:TA}(h:AFT K t ρ us)(w:us.length<=sizeLine:=by first | decide | (unfold sizeLine;simp)):EFT K (aL8 t) ρ (.tup us):=λS B σ H o I Q q=>h S B σ H o I _ λxs L H1 z n d r=>
 ⟨by rw[aS0 r];exact w,λp hp=>by
  have g:=D8 (o:=.tup xs) hp
  exact q _ L _ (L2.Same.tr z g) n d (.tup (SqT.of C5) (r.mono (K5 g) g))⟩
theorem N6 {t:TA}(h:AFT K t ρ us)(j:us.length<=sizeLine:=by first | decide | (unfold sizeLine;simp)):EFT K (dL7 t) ρ (.lst us):=λS B σ H o I Q q=>h S B σ H o I _ λxs L H1 w n d r=>
 ⟨by rw[aS0 r];exact j,λp hp=>by
  have g:=D8 (o:=.lst xs) hp
  refine q _ (p::L) _ (L2.Same.tr w g) (λb hb=>?_) (Aa5.mpr ⟨λz=>?_,d⟩) (.lst C5 (r.mono ?_ g))
  .rcases Aa1.mp hb with rfl | hb
   .exact T2 w hp
   .exact n b hb
  .obtain⟨m,e⟩:=k8 us r p z;rw[hp]at e;cases e
  .refine E2 g λb z k=>?_
   rcases z with z | z
   .exact .inl z
   .rcases Aa1.mp z with rfl | z
    .exact absurd hp k
    .exact .inr z⟩
theorem aW1 (h:EFT K t ρ u)(j:R.nx (ρ.set i (.tr u)))(hi:i<ρ.length:=by first | decide | (simp;done) | (simp[LV.sl0];done)):W K (aP5 t (F5 i)) ρ R:=λS B D σ H o I s=>
 h S B σ H o I _ λv L w m n d r=>s.nx _ _ w _ (I.put i hi (λ_=>False) (λ_ z=>z.elim) (λb y q _=>m b y q) (λb z=>.inr (n b z)) (.inr ⟨u,rfl,d,r⟩) (.inl λ_ z=>z)) j
def AtP (K:Frag)(t:TE)(ρ:List Sl)(i:Nat)(π:AC):Prop:=
 ∀(S:Addr->Prop) (B:Hp) (σ:St) (H:Hp) (o:Nat->AL),Env K S B H σ ρ o->∀(u0 u:OT),ρ[i]? = some (.tr u0)->u0.at π=some u->∀Q:VK,
  (∀v0 v H',Same H H'->σ[i]? = some (some v0)->Foc K (hid (E3 ρ o S) H') H' v0 u0 (o i) π v u->Q v H')->t σ H Q
theorem aG8:AtP K (C4 i) ρ i []:=λS B σ H o I z u h w Q q=>by
 cases w
 obtain⟨_,v,a,b⟩:=I.tr i z h;exact⟨v,a,q v v H (L2.Same.rf _) a (Foc.root b)⟩
theorem Foc.grow {Z Z' H H':Hp}{v0 v:V}{L0:AL}{π:AC}(f:Foc K Z H v0 u0 L0 π v u)(l:∀b∈L0,∃u:HM,H b=some u.ho)(z:Same Z Z')(h:Same H H'):Foc K Z' H' v0 u0 L0 π v u:=
 f.mono z (λ_ _=>Z8 h) λb w=>by obtain⟨xs,e⟩:=l b w;rw[e];exact h _ _ e
theorem Env.trL {S:Addr->Prop}{B H:Hp}{σ:St}{o:Nat->AL}{i:Nat}(I:Env K S B H σ ρ o)(h:ρ[i]? = some (.tr u0)):∀b∈o i,∃u:HM,H b=some u.ho:=λb w=>I.lists b (.inr ⟨i,_,h,rfl,w⟩)
theorem aK9 {i:Nat}{π:AC}{k:Int}(n:Nat)(hp:AtP K ta ρ i π)(U:E K false tb ρ (.int k))(M:k=n)(J:∀u0,ρ[i]? = some (.tr u0)->∃u,u0.at π=some u):AtP K (tOp (rIx K) ta tb) ρ i (π++[n]):=λS B σ H o I u0 R h X Q q=>by
 obtain⟨u,z⟩:=J u0 h;rw[aK5 z]at X;refine hp S B σ H o I u0 u h z _ λv0 v H1 j a f=>?_
 refine U S B σ H1 o (I.grow j) _ λw Y m r=>?_
 cases r
 have f2:=f.grow ((I.grow j).trL h) (K5 m) m
 obtain⟨p,xs,x,rfl,hs,N,f3⟩:=f2.down z X;have e:=U1 n M N;rcases hs with hs | hs
 .exact .inl ⟨p,xs,k,x,rfl,rfl,hs,e,q v0 x Y (L2.Same.tr j m) a f3⟩
 .exact .inr (.inl ⟨p,xs,k,x,rfl,rfl,hs,e,q v0 x Y (L2.Same.tr j m) a f3⟩)
end
section
theorem aT0 (I:Env K S B H σ ρ o)(hi:ρ[i]? = some (.tr u0))(hv:σ[i]? = some (some v0))
  (f:Foc K (hid (E3 ρ o S) H) H v0 u0 (o i) π (.ref p) (.lst us)) (s:Same H H2) (hN:∀b∈Lx,H b=none) (dx:Lx.Nodup) (rx:Dp K (hid (λb=>E3 ρ o S b\/b∈Lx) H2) H2 x u Lx)
  (nb:∀(j:Nat) (d:PyData),ρ[j]?≠some (Sl.bor d)) (Y:List V->List V) (w:List OT)
  (hc:∀(xs:List V) (M:AL) (Z' H':Hp),Dps K Z' H' xs us M->Dp K Z' H' x u Lx->∃M',Dps K Z' H' (Y xs) w M'/\((M++Lx).Nodup->M'.Nodup)/\∀b∈M',b∈M++Lx) :
  ∃xs,H2 p=some (.lst xs)/\xs.length=us.length/\∃o',Env K S B (upd H2 p (.lst (Y xs))) σ (ρ.set i (.tr (u0.put π (.lst w)))) o':=by
 obtain⟨nd,v0',hv',r0⟩:=I.tr i u0 hi;obtain⟨L,A,C,h1,Q,h3⟩:=f;cases h1 with
 | @lst _ xs _ M hp r=>
 have F:i<ρ.length:=(Ab0.mp hi).1
 have oi:∀b∈o i,cE0 ρ o i b:=λb hb=>⟨_,hi,rfl,hb⟩
 have os:∀b∈o i,E3 ρ o S b:=λb hb=>.inr ⟨i,_,hi,rfl,hb⟩
 have U:p∈o i:=by rw[Q];simp
 have sub:∀b,(b∈A\/b∈M\/b∈C)->b∈o i/\b≠p:=λb hb=>by
  rw[Q]at nd ⊢;refine⟨by rcases hb with hb | hb | hb <;> simp[hb],λe=>?_⟩
  subst e;simp only[Aa4,Aa5,Ab6,Aa0,Aa1,Ad7]at nd;grind
 have lst:=I.trL hi
 have up:∀b,b∈o i->b≠p->upd H2 p (.lst (Y xs)) b=H b:=λb hb P=>by
  rw[B9 P];obtain⟨m,e⟩:=lst b hb;rw[e];exact s _ _ e
 have tk:∀a m,Rd H2 a (.tup m)->Rd (upd H2 p (.lst (Y xs))) a (.tup m):=λa m q=>by
  have n:a≠p:=λe=>by
   subst e
   have:=s _ _ hp
   rcases q with q | ⟨o,q⟩ <;> rw[this]at q <;> cases q
  rcases q with q | ⟨o,q⟩
  .exact .inl (by rw[B9 n];exact q)
  .exact .inr ⟨o,by rw[B9 n];exact q⟩
 have z1:Same (hid (E3 ρ o S) H) (hid (λb=>E3 ρ o S b\/b∈Lx) (upd H2 p (.lst (Y xs)))):=λb y q=>by
  obtain⟨N,R⟩:=hid_some.mp q;refine hid_some.mpr ⟨λz=>z.elim N λz=>(by rw[hN b z]at R;cases R),?_⟩
  rw[B9 (λe=>N (os b (by rw[e];exact U)))]
  exact s _ _ R
 have z2:Same (hid (λb=>E3 ρ o S b\/b∈Lx) H2) (hid (λb=>E3 ρ o S b\/b∈Lx) (upd H2 p (.lst (Y xs)))):=λb y q=>by
  obtain⟨N,R⟩:=hid_some.mp q;refine hid_some.mpr ⟨N,?_⟩;rw[B9 (λe=>N (.inl (os b (by rw[e];exact U))))]
  exact R
 have pN:p∉Lx:=λz=>by rw[hN p z]at hp;cases hp
 obtain⟨M',c1,c2,c3⟩:=hc xs M _ _ (j3 z1 (λa m q=>tk a m (Z8 s q)) us (λb hb=>up b (sub b (.inr (.inl hb))).1 (sub b (.inr (.inl hb))).2) r)
  (aD1 z2 tk u (λb hb=>by rw[B9 (λe=>pN (by rw[<- e];exact hb))]) rx)
 have fin:=h3 _ _ (.lst w) (p::M') z1 (λa m q=>tk a m (Z8 s q)) (λb hb=>up b (sub b (by rcases hb with hb | hb <;> simp[hb])).1 (sub b (by rcases hb with hb | hb <;> simp[hb])).2) (.lst C5 c1)
 have J:∀b∈Lx,b∉o i:=λb hb D=>by
  obtain⟨m,e⟩:=lst b D;rw[hN b hb]at e;cases e
 have mem:∀b∈A++p::M'++C,b∈o i\/b∈Lx:=λb hb=>by
  rw[Q]
  have:=c3 b
  simp only[Aa0,Aa1]at hb this ⊢;grind
 have X:(A++p::M'++C).Nodup:=by
  rw[Q]at nd J;simp only[Aa4,Aa5,Ab6,Aa0,Aa1,Ad7]at nd J c2 c3 ⊢;grind
 refine⟨xs,s _ _ hp,aS0 r,bI3 o i (A++p::M'++C),?_⟩
 have:=I.put (H':=upd H2 p (.lst (Y xs))) (v:=v0) (x:=.tr (u0.put π (.lst w))) (L:=A++p::M'++C) i F (λb=>b=p) (λb z=>by rw[z];exact oi p U) (λb y q z=>by rw[B9 z];exact s _ _ q)
  (λb hb=>(mem b hb).imp (oi b) (hN b))
  (.inr ⟨_,rfl,X,fin.mono (E2 (L2.Same.rf _) λb z _=>z.elim .inl λz=>(mem b z).elim (λz=>.inl (os b z)) .inr) (L2.Same.rf _)⟩) (.inr nb)
 rw[aT2 hv]at this;exact this
theorem aV8:∀{us:List OT} {xs:List V} {M:AL},Dps K Z H xs us M->Dp K Z H x u Lx->Dps K Z H (xs++[x]) (us++[u]) (M++Lx)
 | [],_,_,r,h=>by cases r;simpa using Dps.cons h .nil
 | a::us,_,_,r,h=>by
  cases r with
  | @cons v _ vs _ La Lb r1 r2=>
   have:=Dps.cons r1 (aV8 r2 h)
   simpa using this
theorem j7 {i:Nat}{π:AC}{R:AE}(hp:AtP K ta ρ i π)(hi:ρ[i]? = some (.tr u0))(U:u0.at π=some (.lst us))(m:EFT K tb ρ u)(Y:us.length<sizeLine)(X:R.nx (ρ.set i (.tr (u0.put π (.lst (us++[u]))))))(nb:O0 ρ=true:=by rfl) :
  W K (aZ1 (tBM K "list" aM7 ta (C9 tb O1))) ρ R:=λS B D σ H o I s=>by
 refine hp S B σ H o I u0 _ hi U _ λv0 v H1 w a f=>?_
 have ⟨L,A,C,f1,f2,f3⟩:=f
 cases f1 with
 | @lst p xs _ M hpp r=>
 refine⟨.inl ⟨rfl,_,SqL.of hpp⟩,?_⟩;refine m S B σ H1 o (I.grow w) _ λx z H2 s2 n d P=>?_
 obtain⟨ys,e1,e2,N,J⟩:=aT0 (I.grow w) hi a f s2 n d P (J4 nb) (λxs=>xs++[x]) (us++[u]) λxs M Z' H' Q F=>⟨M++z,aV8 Q F,λh=>h,λb j=>j⟩
 exact⟨p,ys,x,rfl,rfl,e1,by rw[e2];exact Y,s.nx _ σ _ N J X⟩
theorem cC2:∀{us:List OT} {xs:List V} {M:AL} {n:Nat},Dps K Z H xs us M->Dp K Z H x u []->∃M',Dps K Z H (xs.set n x) (us.set n u) M'/\(M.Nodup->M'.Nodup)/\∀b∈M',b∈M
 | [],_,_,n,r,h=>by cases r;exact⟨[],.nil,id,λ_ z=>z⟩
 | a::us,_,_,0,r,h=>by
  cases r with
  | @cons v _ vs _ La Lb r1 r2=>exact⟨Lb,by simpa using Dps.cons h r2,λz=>(Aa4.mp z).2.1,λb hb=>by simp[hb]⟩
 | a::us,_,_,n+1,r,h=>by
  cases r with
  | @cons v _ vs _ La Lb r1 r2=>
   obtain⟨M',h1,h2,h3⟩:=cC2 (n:=n) r2 h;refine⟨La++M',Dps.cons r1 h1,λz=>?_,λb hb=>?_⟩
   .obtain⟨j,m,Y⟩:=Aa4.mp z;exact Aa4.mpr ⟨j,h2 m,λa w b hb=>Y a w b (h3 b hb)⟩
   .rcases Aa0.mp hb with hb | hb
    .simp[hb]
    .simp[h3 b hb]
theorem dN0 (n:Nat)(he:E K true t ρ d)(hp:AtP K ta ρ i π)(hk:E K false tb ρ (.int k))(j:k=n)(hn':n<us.length)(hi:ρ[i]? = some (.tr u0))(hu:u0.at π=some (.lst us))(hn:R.nx (ρ.set i (.tr (u0.put π (.lst (us.set n (.leaf d)))))))(nb:O0 ρ=true:=by rfl) :
  W K (aP5 t (dH7 ta tb cO6)) ρ R:=λS B D σ H o I s=>by
 refine he S B σ H o I _ λx N Y rx=>?_
 refine hp S B σ N o (I.grow Y) u0 _ hi hu _ λv0 v H1 X a f=>?_
 have ⟨L,A,C,f1,f2,f3⟩:=f
 cases f1 with
 | @lst p xs _ M hpp r=>
 refine hk S B σ H1 o ((I.grow Y).grow X) _ λw H2 U m=>?_
 cases m
 obtain⟨ys,e1,e2,o',J⟩:=aT0 (x:=x) (u:=.leaf d) (Lx:=[]) ((I.grow Y).grow X) hi a f U (λb z=>nomatch z) .nil (.leaf (rx.mono (L2.Same.tr (K5 (L2.Same.tr X U)) bJ0))) (J4 nb) (λxs=>xs.set n x) (us.set n (.leaf d)) λxs M Z' H' r1 r2=>by
  obtain⟨Q,F,P,g3⟩:=cC2 (n:=n) r1 r2;exact⟨Q,F,λh=>P (by simpa using h),λb hb=>by simpa using g3 b hb⟩
 exact⟨p,ys,k,n,rfl,rfl,e1,by unfold ixN;rw[Ac (by lia),Ac (by lia)];simp[j],s.nx _ σ _ o' J hn⟩
def EX (K:Frag)(t:TE)(ρ:List Sl)(j:Nat)(d:PyData)(ρ':List Sl):Prop:=
 ∀(S:Addr->Prop) (B:Hp) (σ:St) (H:Hp) (o:Nat->AL),Env K S B H σ ρ o->∀Q:VK,(∀v H' o',Env K S B H' σ ρ' o'->(∀k,k≠j->o' k=o k)->(∀b y,H b=some y->b∉o j->H' b=some y)->(∀b∈o j,∃u:HM,H b=some u.ho) ->
  Same (hid (E3 ρ o S) H) (hid (E3 ρ' o' S) H')->Rep K (hid (E3 ρ' o' S) H') v d->Q v H')->t σ H Q
theorem bF5 (w:ρ[j]? = some (.own (ds++[d])))(nb:O0 ρ=true:=by rfl):EX K (cY6 K "list" dB5 (C4 j)) ρ j d (ρ.set j (.own ds)):=λS B σ H o I Q q=>by
 obtain⟨p,hp,a,xs,b,c⟩:=I.own j _ w;have N:=c.length;obtain⟨y,h1,U⟩:=c.get' (i:=ds.length) (d:=d) (by simp)
 refine⟨_,a,.inl ⟨rfl,xs,SqL.of b⟩,_,xs,y,rfl,rfl,b,by rw[N];simpa using h1,?_⟩
 have Y:=c.dropLast
 rw[List.dropLast_concat]at Y;have X:=I.upd w hp Y (J4 nb);have g:=bG6 (S:=S) (H:=H) (xs:=xs.dropLast) (es:=ds) w hp;exact q y _ _ X (λk M=>S9 (Ne.symm M)) (λm x e n=>by rw[B9 (λz=>n (by rw[hp,z];simp))];exact e) (λm J=>I.lists m (.inr ⟨j,_,w,rfl,J⟩)) g (U.mono g)
theorem cM9 (n:Nat)(U:ρ[j]? = some (.own ds))(J:E K false tb ρ (.int k))(M:k=n)(hn:ds[n]? = some d)(D:n<2^63)(nb:O0 ρ=true:=by rfl):EX K (tBM K "list" cO1 (C4 j) (C9 tb O1)) ρ j d (ρ.set j (.own (ds.eraseIdx n))):=λS B σ F o X Q q=>by
 obtain⟨p,hp,a,xs,R,c0⟩:=X.own j _ U;refine⟨_,a,.inl ⟨rfl,xs,SqL.of R⟩,?_⟩;refine J S B σ F o X _ λw H Y r=>?_
 cases r
 have I:=X.grow Y
 have b:=Y _ _ R
 have c:=c0.mono (K5 Y)
 obtain⟨y,h1,h2⟩:=c.get' hn;have hl:=(Ab0.mp h1).1;refine⟨_,xs,k,n,y,rfl,rfl,b,by lia,by lia,(bF0 (by unfold ixN;rw[Ac (by lia),Ac (by lia)];simp[M])).1,h1,?_⟩
 have P:=I.upd U hp (c.eraseIdx n) (J4 nb)
 have g:=bG6 (S:=S) (H:=H) (xs:=xs.eraseIdx n) (es:=ds.eraseIdx n) U hp
 exact q y _ _ P (λk J=>S9 (Ne.symm J)) (λN x e m=>by rw[B9 (λz=>m (by rw[hp,z];simp))];exact Y _ _ e) (λN D=>X.lists N (.inr ⟨j,_,U,rfl,D⟩)) (L2.Same.tr (K5 Y) g) (h2.mono g)
theorem aP4 (Q:EX K t ρ j d ρ')(hi:ρ[i]? = some (.own ds))(w:ρ'[i]? = some (.own ds))(M:ds.length<sizeLine)(N:R.nx (ρ'.set i (.own (ds++[d]))))(nb:O0 ρ'=true:=by rfl) :
  W K (aZ1 (tBM K "list" aM7 (C4 i) (C9 t O1))) ρ R:=λS B D σ H o I s=>by
 obtain⟨p,hp,a,xs,b,c⟩:=I.own i ds hi;refine⟨_,a,.inl ⟨rfl,xs,SqL.of b⟩,?_⟩;refine Q S B σ H o I _ λv F P Y _ _ _ _ r=>?_
 obtain⟨p',z,X,m,J,U⟩:=Y.own i ds w;rw[a]at X;cases X;refine⟨_,m,v,rfl,rfl,J,by rw[U.length];exact M,?_⟩
 exact s.nx _ σ _ _ (Y.upd w z (U.append (.cons r .nil)) (J4 nb)) N
theorem bS7 {i j:Nat}{π:AC}{R:AE}(hp:AtP K ta ρ i π)(hx:EX K t ρ j d ρ')(w:i≠j)(hj:∃x,ρ[j]? = some x/\x.os=true)(hi:ρ[i]? = some (.tr u0))(Y:ρ'[i]? = some (.tr u0))(hu:u0.at π=some (.lst us))(hl:us.length<sizeLine)(hn:R.nx (ρ'.set i (.tr (u0.put π (.lst (us++[.leaf d]))))))(nb:O0 ρ'=true:=by rfl) :
  W K (aZ1 (tBM K "list" aM7 ta (C9 t O1))) ρ R:=λS B D σ H o I s=>by
 refine hp S B σ H o I u0 _ hi hu _ λv0 v H1 P a f=>?_
 have ⟨L,A,C,f1,f2,f3⟩:=f
 cases f1 with
 | @lst p xs _ M hpp r=>
 refine⟨.inl ⟨rfl,_,SqL.of hpp⟩,?_⟩;refine hx S B σ H1 o (I.grow P) _ λx H2 o' I' ho X U hz rx=>?_
 obtain⟨y,N,Q⟩:=hj;have F:=f.mono hz (H':=H2) (λa ys q=>by
  have n:a∉o j:=λz=>by
   obtain⟨zs,e⟩:=U a z;rcases q with q | ⟨o,q⟩ <;> rw[e]at q <;> replace q:=Ab4 q
   .exact HM.nt q
   .exact HM.nf q
  rcases q with q | ⟨o,q⟩
  .exact .inl (X _ _ q n)
  .exact .inr ⟨o,X _ _ q n⟩) λb m=>by
   obtain⟨zs,e⟩:=(I.grow P).trL hi b m;rw[e];exact X _ _ e λz=>w (I.inj i j _ y hi N rfl Q b m z)
 rw[<- ho i w]at F;obtain⟨ys,e1,e2,o2,J⟩:=aT0 (x:=x) (u:=.leaf d) (Lx:=[]) I' Y a F (L2.Same.rf _) (λb z=>nomatch z) .nil (.leaf (rx.mono bJ0)) (J4 nb) (λxs=>xs++[x]) (us++[.leaf d]) λxs M Z' H' r1 r2=>⟨M++[],aV8 r1 r2,λh=>h,λb m=>m⟩
 exact⟨p,ys,x,rfl,rfl,e1,by rw[e2];exact hl,s.nx _ σ _ o2 J hn⟩
theorem Env.frz {S:Addr->Prop}{B H:Hp}{σ:St}{o:Nat->AL}{i:Nat}{x:Sl}(I:Env K S B H σ ρ o)(hi:ρ[i]? = some x)(Q:x=.own ds/\d=.list ds\/∃u,x=.tr u/\d=u.data):Env K S B H σ (ρ.set i (.val d)) o:=by
 have m:x.os=true:=by rcases Q with⟨rfl,_⟩ | ⟨u,rfl,_⟩ <;> rfl
 have M:i<ρ.length:=(Ab0.mp hi).1
 have at_:∀{j:Nat} {y:Sl},y≠.val d->(ρ.set i (.val d))[j]? = some y->i≠j/\ρ[j]? = some y:=λ{j y} w h=>by
  rw[List.getElem?_set]at h;by_cases c:i=j
  .rw[Ac c,Ac (by lia)]at h
   exact absurd (Ab4 h).symm w
  .rw[Ab c]at h;exact⟨c,h⟩
 have nd:∀{y:Sl},y.os=true->y≠.val d:=λ{y} h e=>by rw[e]at h;cases h
 have g:Same (hid (E3 ρ o S) H) (hid (E3 (ρ.set i (.val d)) o S) H):=E2 (L2.Same.rf _) λb z _=>aS3 rfl z
 have Y:∀b∈o i,hid (E3 (ρ.set i (.val d)) o S) H b=H b:=λb U=>by
  obtain⟨xs,e⟩:=I.lists b (.inr ⟨i,x,hi,m,U⟩);rw[e];refine hid_some.mpr ⟨λz=>?_,e⟩
  rcases z with z | ⟨j,y,h,w,J⟩
  .obtain⟨ys,e'⟩:=I.sl b z;rw[I.new i x hi m b U]at e';cases e'
  .obtain⟨c,h⟩:=at_ (nd w) h;exact c (I.inj i j x y hi h m w b U J)
 have lists:∀b,E3 (ρ.set i (.val d)) o S b->∃u:HM,H b=some u.ho:=λb z=>I.lists b (aS3 rfl z)
 refine⟨by simp[I.len],I.base,I.sl,λj y h w=>I.new j y (at_ (nd w) h).2 w,λj k y z h P w D=>I.inj j k y z (at_ (nd w) h).2 (at_ (nd D) P).2 w D,λj F h=>?_,λj X h=>?_,λj X h=>?_,λj t h=>?_⟩
 .obtain⟨c,h⟩:=at_ (nd rfl) h;obtain⟨p,N,a,xs,b,R⟩:=I.own j F h;exact⟨p,N,a,xs,b,R.mono g⟩
 .by_cases c:i=j
  .subst c;rw[Bc M]at h;cases h;rcases Q with⟨rfl,rfl⟩ | ⟨u,rfl,rfl⟩
   .obtain⟨p,N,a,xs,b,R⟩:=I.own i ds hi;exact⟨_,a,.lst (SqL.of (by rw[Y p (by rw[N];simp)];exact b)) (R.mono g)⟩
   .obtain⟨_,v,a,b⟩:=I.tr i u hi;exact⟨v,a,bF7 P5 (λ_ _ q=>u9 lists q) g u Y b⟩
  .rw[Ad0 c]at h;obtain⟨v,a,b⟩:=I.val j X h;exact⟨v,a,b.mono g⟩
 .obtain⟨c,h⟩:=at_ (by simp) h
  exact I.bor j X h
 .obtain⟨c,h⟩:=at_ (nd rfl) h;obtain⟨n,v,a,b⟩:=I.tr j t h;exact⟨n,v,a,b.mono g (L2.Same.rf _)⟩
theorem bK6 {i:Nat}{t:TS}{R:AE}(hi:ρ[i]? = some (.own ds))(h:W K t (ρ.set i (.val (.list ds))) R):W K t ρ R:=λS B D σ H o I s=>h S B D σ H o (I.frz hi (.inl ⟨rfl,rfl⟩)) s
theorem bK0 {i:Nat}{t:TS}{R:AE}(hi:ρ[i]? = some (.tr u))(h:W K t (ρ.set i (.val u.data)) R):W K t ρ R:=λS B D σ H o I s=>h S B D σ H o (I.frz (ds:=[]) hi (.inr ⟨u,rfl,rfl⟩)) s
theorem aC9 {α:Type}{f:α->OT}{g:α->PyData}(h:∀a,(f a).data=g a):∀l:List α,OT.datas (l.map f)=l.map g
 | []=>rfl
 | a::l=>by simp[OT.datas,h a,aC9 h l]
end
end LV
namespace LV
open PySem PySem.Spec PyProof.Rows L2
def cR0 (K:Frag):R2:=λx y H Q=>∃l b xs zs,x=.ref l/\y=.ref b/\SqL K H l xs/\SqL K H b zs/\xs.length+zs.length<=sizeLine/\∀p,H p=none->Q (.ref p) (upd H p (.lst (xs++zs)))
theorem L5 (K:Frag)(h:X.K=K:=by rfl):OpR X (binaryOp .Add) (cR0 K):=by
 subst h;intro aA s σ H x y v u Q I rx ry h;obtain⟨l,b,xs,zs,rfl,rfl,hH,hB,hz,q⟩:=h;cases rx;cases ry;obtain⟨its,r,⟨⟨P,dd,data,sl⟩,n,ho,N,hdd,R⟩,_⟩:=I.list hH;obtain⟨w,B,⟨⟨M,U,Y,J⟩,n2,m,z,D,j⟩,_⟩:=I.list hB;simp only at N R z j;subst N R z j;have e:its.toArray++w.toArray=(its++w).toArray:=by simp
 have hl:=r.length
 have hl2:=B.length
 refine concat_meets ⟨_,ho,rfl⟩ ⟨_,m,rfl⟩ noFill_list_add seq_list_add PySem.F.slot_list_add PySem.F.entry_list_add (PySem.F.args_list_add_2 _ _) (list_addW l b its.toArray w.toArray n n2 dd U sl J (by simp;lia)) ⟨ho,m,?_⟩
 rw[e];exact⟨.ref _,_,I.lnew (t':=s.toks) (r.append B) (by rw[Ab7];lia),rfl,q _ I.fresh⟩
end LV
namespace LV
open PySem L2
section
theorem aB6:∀{l l':AF},K6 (l++l')=(K6 l&&K6 l')
 | [],l'=>by simp[K6]
 | a::l,l'=>by simp[K6,aB6 (l:=l),Bool.and_assoc]
theorem bN1:∀{l:AF},K6 l=true->∀d∈l,imm d=true
 | [],_,d,hd=>by simp at hd
 | a::l,h,d,hd=>by
  simp[K6]at h
  rcases Aa1.mp hd with rfl | z
  .exact h.1
  .exact bN1 h.2 d z
theorem aG9 (Y:E K false ta ρ (.list ds))(X:E K false tb ρ (.list es))(hi:K6 ds=true)(j:K6 es=true)(U:ds.length+es.length<=sizeLine:=by first | decide | (unfold sizeLine;simp;done)):EF K (tOp (cR0 K) ta tb) ρ (ds++es):=λS B σ H o I Q q=>
 Y S B σ H o I _ λx H1 z J=>X S B σ H1 o (I.grow z) _ λy N w M=>by
  cases J with
  | @lst a xs _ sa ra=>
  cases M with
  | @lst b ys _ sb rb=>
  have m:=ra.mono w
  refine⟨a,b,xs,ys,rfl,rfl,H9 w sa,sb,by rw[ra.length,rb.length];exact U,λp hp=>q p _ _ (L2.Same.tr z (L2.Same.tr w (D8 hp))) (T2 (L2.Same.tr z w) hp) C5 (j5 ((I.grow z).grow w).lists hp (m.append rb) ?_)⟩
  rw[aB6,hi,j];rfl
def O (K:Frag)(t:TO)(ρ:List Sl)(i:Option Int):Prop:=
 ∀(S:Addr->Prop) (B:Hp) (σ:St) (H:Hp) (o:Nat->AL),Env K S B H σ ρ o->∀Q,(∀H',Same H H'->Q i H')->t σ H Q
def aO6 (xs:AF)(lo hi:Option Int):AF:=List.take (HT.sIx xs.length xs.length hi-HT.sIx xs.length 0 lo) (List.drop (HT.sIx xs.length 0 lo) xs)
theorem Reps.cut (r:Reps K H xs ds)(lo hi:Option Int):Reps K H (bJ1 xs lo hi) (aO6 ds lo hi):=by
 unfold bJ1 aO6;rw[r.length];exact(r.drop _).take _
theorem U5 (lo hi:Option Int)(h:K6 ds=true):K6 (aO6 ds lo hi)=true:=by
 refine bG1 λd w=>?_
 have:d∈ds:=Cq (Bh w)
 exact bN1 h d this
theorem bJ4:O K bV6 ρ none:=λS B σ H o I Q q=>q H (L2.Same.rf _)
theorem e7 (h:E K false t ρ (.int i)):O K (dD0 t) ρ (some i):=λS B σ H o I Q q=>h S B σ H o I _ λv w s r=>by
 cases r
 exact⟨i,rfl,q w s⟩
theorem aY9 {n:Nat}(h:n<=ds.length):aO6 ds (some (n:Int)) none=ds.drop n:=by
 unfold aO6 HT.sIx;simp only[];rw[Ab (by lia),Ac8,Nat.min_eq_left h]
 exact Dr (by simp)
theorem bF4 {n:Nat}(h:n<=ds.length):aO6 ds none (some (n:Int))=ds.take n:=by
 unfold aO6 HT.sIx;simp only[];rw[Ab (by lia),Ac8,Nat.min_eq_left h]
 simp
theorem bO3 (X:E K false ta ρ (.list ds))(J:O K tl ρ lo)(U:O K th ρ hi)(j:K6 ds=true):EF K (tSl (dL9 K) ta tl th) ρ (aO6 ds lo hi):=λS B σ H o I Q q=>
 X S B σ H o I _ λx H1 z M=>J S B σ H1 o (I.grow z) _ λY m=>U S B σ Y o ((I.grow z).grow m) _ λR N=>by
  cases M with
  | @lst a xs _ sa ra=>
  have w:=L2.Same.tr m N
  exact⟨a,xs,rfl,H9 w sa,λp hp=>q p _ _ (L2.Same.tr z (L2.Same.tr w (D8 hp))) (T2 (L2.Same.tr z w) hp) C5 (j5 (I.grow (L2.Same.tr z w)).lists hp ((ra.mono w).cut lo hi) (U5 lo hi j))⟩
end
end LV
namespace L2
open PySem
def dB4:Expr->Bool
 | .Starred ..=>false
 | _=>true
theorem aB7 (h:dB4 e=true):starEach (e::es) env=(false,eval e env)::starEach es env:=by
 cases e <;> first | rfl | cases h
theorem A0 (w:PE X e te)(z:PA X es t)(h:dB4 e=true:=by rfl):PA X (e::es) (C9 te t):=cX4 w z (aB7 h)
theorem aX5 (K:Frag)(U:X.calm=true)(w:Gl X "list")(j:X.mg "list" = none)(z:Gl X "reversed")(m:X.mg "reversed" = none)(J:PE X e te)(Y:X.K=K:=by rfl)(h:dB4 e=true:=by rfl) :
  PE X (.Call (.Name "list" p1) [.Call (.Name "reversed" p2) [e] [] pos2] [] pos1) (LV.bW8 K te):=
 LV.bK7 K U w j z m J Y (aB7 h) (aB7 rfl)
end L2
namespace TT
def lin:AC->Nat->Nat->Prop
 | c::d::l,a,b=>(a=c/\b=d)\/lin (d::l) a b
 | _,_,_=>False
theorem cB5 (a b:Nat):lin [] a b↔False:=Iff.rfl
theorem aC4 (c a b:Nat):lin [c] a b↔False:=Iff.rfl
theorem C7 (c d:Nat)(l:AC)(a b:Nat):lin (c::d::l) a b↔(a=c/\b=d)\/lin (d::l) a b:=Iff.rfl
theorem D9 (c:Nat)(w:AC)(a b:Nat):∀u:AC,lin (u++c::w) a b↔lin (u++[c]) a b\/lin (c::w) a b
 | []=>by simp[aC4]
 | [d]=>by simp[C7,aC4]
 | d::e::u=>by
  have z:=D9 c w a b (e::u)
  simp only[Ab6,C7]at z ⊢;rw[z];grind
theorem S3:∀{u:AC},lin (u++[c]) a b->a∈u
 | [],h=>h.elim
 | [d],h=>by
  rcases (C7 ..).mp h with⟨rfl,rfl⟩ | h
  .simp
  .exact h.elim
 | d::e::u,h=>by
  rcases (C7 ..).mp h with⟨rfl,rfl⟩ | h
  .simp
  .exact Ad4 _ (S3 (u:=e::u) h)
theorem W9 (h:lin (c::u) a b):b∈u:=by
 induction u generalizing c with
 | nil=>exact h.elim
 | cons d u w=>
  rcases (C7 ..).mp h with⟨rfl,rfl⟩ | h
  .simp
  .exact Ad4 _ (w h)
theorem aC8 (h:lin l a b):a∈l/\b∈l:=by
 induction l with
 | nil=>exact h.elim
 | cons c l w=>
  refine⟨?_,Ad4 _ (W9 h)⟩;cases l with
  | nil=>exact h.elim
  | cons d l=>
   rcases (C7 ..).mp h with⟨rfl,rfl⟩ | h
   .simp
   .exact Ad4 _ (w h).1
def adj (l:AC)(a b:Nat):Prop:=lin (l++l.take 1) a b
structure Edit (row row':Nat->AC)(v x y:Nat)(L C R:AC):Prop where
 nd:∀q,(row q).Nodup
 self:∀q,q∉row q
 tri:∀q a b,adj (row q) a b->adj (row a) b q
 v2:v≠2
 fresh:∀q,v∉row q
 two:row 2=L++x::(C++y::R)
 newv:row' v=x::(C++[y,2])
 oldv:row v=[]
 new2:row' 2=L++x::v::y::R
 rx:∃u z w,row x=u++z::2::w/\row' x=u++z::v::2::w
 ry:∃u w,row y=u++2::w/\row' y=u++2::v::w
 rc:∀c∈C,∃u z w,row c=u++z::2::w/\row' c=u++z::v::w
 rest:∀q,q≠2->q≠v->q≠x->q≠y->q∉C->row' q=row q
section
def EE (x y:Nat)(C:AC)(a b:Nat):Prop:=lin (x::(C++[y])) a b
def W (x y:Nat)(C:AC)(q a b:Nat):Prop:=(q=2/\EE x y C a b)\/(b=2/\EE x y C q a)\/(a=2/\EE x y C b q)
def W' (v x y:Nat)(C:AC)(q a b:Nat):Prop:=(q=v/\EE x y C a b)\/(b=v/\EE x y C q a)\/(a=v/\EE x y C b q) \/
 (q=2/\a=x/\b=v)\/(q=x/\a=v/\b=2)\/(q=v/\a=2/\b=x)\/(q=2/\a=v/\b=y)\/(q=v/\a=y/\b=2)\/(q=y/\a=2/\b=v)
theorem aA1 (h:EE x y C a b):(a=x\/a∈C)/\(b∈C\/b=y):=by
 have h1:=S3 (u:=x::C) h
 have w:=W9 h
 exact⟨by simpa using h1,by simpa using w⟩
theorem Edit.facts (E:Edit row row' v x y L C R):(x≠y/\x≠2/\y≠2/\x≠v/\y≠v)/\(∀c∈C,c≠x/\c≠y/\c≠2/\c≠v)/\(L++x::(C++y::R)).Nodup:=by
 have h:=E.nd 2
 have w:=E.self 2
 have z:=E.fresh 2
 rw[E.two]at h w z;refine⟨?_,?_,h⟩
 .grind
 .intro c hc;grind
theorem dX2 (E:Edit row row' v x y L C R)(a b:Nat):adj (row' 2) a b↔(adj (row 2) a b/\¬W x y C 2 a b)\/W' v x y C 2 a b:=by
 obtain⟨⟨f1,f2,f3,F,B⟩,P,nd⟩:=E.facts;unfold adj;rw[E.two,E.new2];have N:(L++x::(C++y::R)).take 1=(L++[x]).take 1:=by cases L <;> simp
 have Q:(L++x::v::y::R).take 1=(L++[x]).take 1:=by cases L <;> simp
 rw[N,Q];generalize Y:(L++[x]).take 1=t;have J:∀c∈t,c∈L++[x]:=λc m=>by rw[<- Y]at m;exact Bh m
 have e1:L++x::(C++y::R)++t=L++x::(C++y::(R++t)):=by simp
 have e2:L++x::v::y::R++t=L++x::v::y::(R++t):=by simp
 have e3:x::(C++y::(R++t))=(x::C)++y::(R++t):=by simp
 rw[e1,e2,D9 x (v::y::(R++t)) a b L,D9 x (C++y::(R++t)) a b L,e3,D9 y _ a b (x::C),C7 x v,C7 v y];have U:lin ((x::C)++[y]) a b↔EE x y C a b:=Iff.rfl;rw[U];have w := @aA1 x y C;have g1:lin (L++[x]) a b->¬EE x y C a b:=λh q=>by
  have:=(aC8 h).2
  have:=(w q).2
  grind
 have g2:lin (y::(R++t)) a b->¬EE x y C a b:=λh q=>by
  have h2:=(w q).1
  have h3:a∈y::R:=by
   match t,Y with
   | [],_=>
    rcases Ac5 R with e | ⟨X,z,e⟩
    .subst e;exact h.elim
    .subst e
     have:=S3 (u:=y::X) (by simpa using h)
     simp at this ⊢;try grind
   | [z],_=>exact S3 (u:=y::R) h
   | z::z'::t',e=>
    have:=congrArg List.length e
    simp at this
  grind
 have D:W x y C 2 a b↔EE x y C a b:=by
  unfold W;constructor
  .rintro (⟨_,h⟩ | ⟨_,h⟩ | ⟨_,h⟩)
   .exact h
   .have:=(w h).1;grind
   .have:=(w h).2;grind
  .exact λh=>.inl ⟨rfl,h⟩
 have j:W' v x y C 2 a b↔(a=x/\b=v)\/(a=v/\b=y):=by
  unfold W';have M:=E.v2;constructor
  .rintro (⟨h,_⟩ | ⟨_,h⟩ | ⟨_,h⟩ | h | h | h | h | h | h)
   .exact absurd h.symm M
   .have:=(w h).1;grind
   .have:=(w h).2;grind
   all_goals grind
  .grind
 rw[D,j];grind
theorem tk1 (h:l≠[]):∃c,l.take 1=[c]/\c∈l:=by
 cases l with
 | nil=>exact absurd rfl h
 | cons c l=>exact⟨c,by simp,by simp⟩
theorem bI6 (E:Edit row row' v x y L C R)(a b:Nat):∃t,(∀c∈t,c∈L++[x])/\t.length=1/\(adj (row 2) a b↔lin (L++[x]) a b\/EE x y C a b\/lin (y::(R++t)) a b):=by
 refine⟨(L++[x]).take 1,λc w=>Bh w,by simp,?_⟩
 unfold adj;rw[E.two];have z:(L++x::(C++y::R)).take 1=(L++[x]).take 1:=by cases L <;> simp
 rw[z];generalize (L++[x]).take 1=t;have e1:L++x::(C++y::R)++t=L++x::(C++y::(R++t)):=by simp
 have e3:x::(C++y::(R++t))=(x::C)++y::(R++t):=by simp
 rw[e1,D9 x (C++y::(R++t)) a b L,e3,D9 y _ a b (x::C)];exact Iff.rfl
theorem p9 (E:Edit row row' v x y L C R)(h:EE x y C a b):adj (row 2) a b:=by
 obtain⟨t,_,_,e⟩:=bI6 E a b;exact e.mpr (.inr (.inl h))
theorem cB8 (E:Edit row row' v x y L C R)(h:adj (row 2) a b)(j:a=x\/a∈C):EE x y C a b:=by
 obtain⟨_,_,nd⟩:=E.facts;obtain⟨t,m,w,e⟩:=bI6 E a b;rcases e.mp h with h | h | h
 .have:=S3 h;grind
 .exact h
 .obtain⟨z,rfl⟩:∃z,t=[z]:=List.length_eq_one_iff.mp w
  have:=S3 (u:=y::R) h
  grind
theorem bM2 (E:Edit row row' v x y L C R)(h:adj (row 2) a b)(w:b∈C\/b=y):EE x y C a b:=by
 obtain⟨_,_,nd⟩:=E.facts;obtain⟨t,j,z,e⟩:=bI6 E a b;rcases e.mp h with h | h | h
 .have:=(aC8 h).2;grind
 .exact h
 .have:=W9 h
  grind
theorem dT1 (E:Edit row row' v x y L C R):adj (row 2) a b↔adj (row a) b 2:=⟨E.tri _ _ _,λh=>E.tri _ _ _ (E.tri _ _ _ h)⟩
theorem cW9 (E:Edit row row' v x y L C R):adj (row 2) a b↔adj (row b) 2 a:=⟨λh=>E.tri _ _ _ (E.tri _ _ _ h),λh=>E.tri _ _ _ h⟩
theorem dW5 (E:Edit row row' v x y L C R)(a b:Nat):adj (row' v) a b↔(adj (row v) a b/\¬W x y C v a b)\/W' v x y C v a b:=by
 obtain⟨⟨f1,f2,f3,m,Y⟩,X,nd⟩:=E.facts;have U:=E.v2;unfold adj;rw[E.newv,E.oldv];have e:x::(C++[y,2])++(x::(C++[y,2])).take 1=(x::C)++y::[2,x]:=by simp
 rw[e,D9 y [2,x] a b (x::C),C7,C7];have z:lin ((x::C)++[y]) a b↔EE x y C a b:=Iff.rfl;rw[z];have w := @aA1 x y C;have h1:∀c,¬EE x y C v c:=λc h=>by have:=(w h).1;grind
 have j:∀c,¬EE x y C c v:=λc h=>by have:=(w h).2;grind
 unfold W'
 simp[cB5,aC4,h1,j]
 grind
theorem dV8 (E:Edit row row' v x y L C R)(a b:Nat):adj (row' x) a b↔(adj (row x) a b/\¬W x y C x a b)\/W' v x y C x a b:=by
 obtain⟨⟨f1,f2,f3,X,f5⟩,fc,nd⟩:=E.facts;have hv:=E.v2;obtain⟨u,z,w,o,n⟩:=E.rx;have m:=E.nd x;have j:∀c,EE x y C x c↔adj (row x) c 2:=λc=>⟨λh=>E.tri _ _ _ (p9 E h),λh=>cB8 E ((dT1 E).mpr h) (.inl rfl)⟩
 have J := @aA1 x y C
 have Y:∀c,¬EE x y C c x:=λc h=>by have:=(J h).2;grind
 have B:W x y C x a b↔(b=2/\adj (row x) a 2):=by unfold W;simp[f2,Y,j]
 have P:W' v x y C x a b↔(b=v/\adj (row x) a 2)\/(a=v/\b=2):=by unfold W';simp[f2,X,f1,Y,j]
 rw[B,P];unfold adj;rw[o]at m;rw[o,n];have D:(u++z::2::w).take 1=(u++[z]).take 1:=by cases u <;> simp
 have F:(u++z::v::2::w).take 1=(u++[z]).take 1:=by cases u <;> simp
 rw[D,F];have M:∀c∈(u++[z]).take 1,c∈u++[z]:=λc U=>Bh U
 generalize (u++[z]).take 1=t at M;have e1:u++z::2::w++t=u++z::2::(w++t):=by simp
 have e2:u++z::v::2::w++t=u++z::v::2::(w++t):=by simp
 rw[e1,e2,D9 z (2::(w++t)) a b u,D9 z (v::2::(w++t)) a b u,D9 z (2::(w++t)) a 2 u,C7,C7,C7,C7];have N:¬lin (u++[z]) a 2:=λh=>by have:=(aC8 h).2;grind
 have Q:¬lin (2::(w++t)) a 2:=λh=>by have:=W9 h;grind
 have n3:lin (u++[z]) a b->b≠2:=λh e=>N (e▸h)
 have n4:lin (2::(w++t)) a b->b≠2:=λh e=>Q (e▸h)
 grind
theorem dX1 (E:Edit row row' v x y L C R)(a b:Nat):adj (row' y) a b↔(adj (row y) a b/\¬W x y C y a b)\/W' v x y C y a b:=by
 obtain⟨⟨f1,f2,f3,f4,N⟩,fc,nd⟩:=E.facts;have hv:=E.v2;obtain⟨u,w,o,n⟩:=E.ry;have Y:=E.nd y;have m:∀c,EE x y C c y↔adj (row y) 2 c:=λc=>⟨λh=>(cW9 E).mp (p9 E h),λh=>bM2 E ((cW9 E).mpr h) (.inr rfl)⟩
 have Q := @aA1 x y C
 have U:∀c,¬EE x y C y c:=λc h=>by have:=(Q h).1;grind
 have P:W x y C y a b↔(a=2/\adj (row y) 2 b):=by unfold W;simp[f3,U,m]
 have w2:W' v x y C y a b↔(a=v/\adj (row y) 2 b)\/(a=2/\b=v):=by unfold W';simp[f3,N,Ne.symm f1,U,m]
 rw[P,w2];unfold adj;rw[o]at Y;rw[o,n];have F:(u++2::w).take 1=(u++[2]).take 1:=by cases u <;> simp
 have B:(u++2::v::w).take 1=(u++[2]).take 1:=by cases u <;> simp
 rw[F,B];obtain⟨h,D,hh⟩:=tk1 (l:=u++[2]) (by simp)
 rw[D];have e1:u++2::w++[h]=u++2::(w++[h]):=by simp
 have e2:u++2::v::w++[h]=u++2::v::(w++[h]):=by simp
 rw[e1,e2];obtain⟨z,j,X⟩:∃z j,w++[h]=z::j:=by cases w with
  | nil=>exact⟨h,[],rfl⟩
  | cons c w=>exact⟨c,w++[h],rfl⟩
 have M:∀b,¬lin (z::j) 2 b:=λb q=>by rw[<- X]at q;have:=S3 q;grind
 have J:∀b,¬lin (u++[2]) 2 b:=λb q=>by have:=S3 q;grind
 rw[X,D9 2 (z::j) a b u,D9 2 (v::z::j) a b u,D9 2 (z::j) 2 b u,C7,C7,C7,C7];have n3:lin (u++[2]) a b->a≠2:=λh e=>J b (e▸h)
 have n4:lin (z::j) a b->a≠2:=λh e=>M b (e▸h)
 have:=J b
 have:=M b
 grind
theorem dW8 (E:Edit row row' v x y L C R)(X:c∈C)(a b:Nat):adj (row' c) a b↔(adj (row c) a b/\¬W x y C c a b)\/W' v x y C c a b:=by
 obtain⟨⟨f1,f2,f3,f4,f5⟩,D,nd⟩:=E.facts;obtain⟨B,P,N,g4⟩:=D c X;have hv:=E.v2;obtain⟨u,z,w,o,n⟩:=E.rc c X;have M:=E.nd c;have j:∀d,EE x y C c d↔adj (row c) d 2:=λd=>⟨λh=>E.tri _ _ _ (p9 E h),λh=>cB8 E ((dT1 E).mpr h) (.inr X)⟩
 have m:∀d,EE x y C d c↔adj (row c) 2 d:=λd=>⟨λh=>(cW9 E).mp (p9 E h),λh=>bM2 E ((cW9 E).mpr h) (.inl X)⟩
 have w1:W x y C c a b↔(b=2/\adj (row c) a 2)\/(a=2/\adj (row c) 2 b):=by unfold W;simp[N,j,m]
 have w2:W' v x y C c a b↔(b=v/\adj (row c) a 2)\/(a=v/\adj (row c) 2 b):=by unfold W';simp[B,P,N,g4,j,m]
 rw[w1,w2];have F:v∉row c:=E.fresh c;unfold adj;rw[o]at M F;rw[o,n];have t1:(u++z::2::w).take 1=(u++[z]).take 1:=by cases u <;> simp
 have t2:(u++z::v::w).take 1=(u++[z]).take 1:=by cases u <;> simp
 rw[t1,t2];obtain⟨h,ht,hh⟩:=tk1 (l:=u++[z]) (by simp)
 rw[ht];have e1:u++z::2::w++[h]=u++z::2::(w++[h]):=by simp
 have e2:u++z::v::w++[h]=u++z::v::(w++[h]):=by simp
 rw[e1,e2];obtain⟨k,Y,Q⟩:∃k Y,w++[h]=k::Y:=by cases w with
  | nil=>exact⟨h,[],rfl⟩
  | cons c w=>exact⟨c,w++[h],rfl⟩
 have no2:2∉w++[h]:=by grind
 rw[Q]at no2 ⊢;have U:∀p q,lin (u++[z]) p q->p≠2/\q≠2:=λp q h=>by have:=aC8 h;grind
 have J:∀p q,lin (k::Y) p q->p≠2/\q≠2:=λp q h=>by have:=aC8 h;grind
 have fl:∀p q r,lin (u++z::r::k::Y) p q↔lin (u++[z]) p q\/(p=z/\q=r)\/(p=r/\q=k)\/lin (k::Y) p q:=λp q r=>by
  rw[D9 z (r::k::Y) p q u,C7,C7]
 rw[fl,fl,fl,fl]
 have:=U a b
 have:=J a b
 have:=U a 2
 have:=J a 2
 have:=U 2 b
 have:=J 2 b
 grind
theorem dW4 (E:Edit row row' v x y L C R)(w:q≠2)(j:q≠v)(m:q≠x)(Y:q≠y)(J:q∉C)(a b:Nat):adj (row' q) a b↔(adj (row q) a b/\¬W x y C q a b)\/W' v x y C q a b:=by
 rw[E.rest q w j m Y J];have z := @aA1 x y C;have X:∀c,¬EE x y C q c:=λc h=>by have:=(z h).1;grind
 have U:∀c,¬EE x y C c q:=λc h=>by have:=(z h).2;grind
 unfold W W'
 simp[w,j,m,Y,X,U]
theorem bR5 (E:Edit row row' v x y L C R)(q a b:Nat):adj (row' q) a b↔(adj (row q) a b/\¬W x y C q a b)\/W' v x y C q a b:=by
 by_cases w:q=2
 .subst w;exact dX2 E a b
 by_cases j:q=v
 .subst j;exact dW5 E a b
 by_cases m:q=x
 .subst m;exact dV8 E a b
 by_cases Y:q=y
 .subst Y;exact dX1 E a b
 by_cases z:q∈C
 .exact dW8 E z a b
 .exact dW4 E w j m Y z a b
theorem Edit.tri' (E:Edit row row' v x y L C R)(q a b:Nat)(h:adj (row' q) a b):adj (row' a) b q:=by
 rw[bR5 E]at h ⊢;rcases h with⟨h,n⟩ | h
 .refine .inl ⟨E.tri _ _ _ h,?_⟩;unfold W at n ⊢;grind
 .right
  unfold W' at h ⊢;rcases h with h | h | h | h | h | h | h | h | h
  all_goals obtain⟨e,h⟩:=h
  all_goals simp[e,h]
theorem Edit.nd' (E:Edit row row' v x y L C R)(q:Nat):(row' q).Nodup:=by
 obtain⟨⟨f1,f2,f3,M,N⟩,Q,nd⟩:=E.facts;have D:=E.v2;by_cases m:q=2
 .subst m;rw[E.new2]
  have:=E.fresh 2
  rw[E.two]at this;grind
 by_cases X:q=v
 .subst X;rw[E.newv];grind
 by_cases U:q=x
 .subst U;obtain⟨u,z,w,o,n⟩:=E.rx;have h1:=E.nd q;have j:=E.fresh q;rw[o]at h1 j;rw[n];grind
 by_cases J:q=y
 .subst J;obtain⟨u,w,o,n⟩:=E.ry;have h1:=E.nd q;have j:=E.fresh q;rw[o]at h1 j;rw[n];grind
 by_cases Y:q∈C
 .obtain⟨u,z,w,o,n⟩:=E.rc q Y;have h1:=E.nd q;have j:=E.fresh q;rw[o]at h1 j;rw[n];grind
 .rw[E.rest q m X U J Y];exact E.nd q
theorem Edit.self' (E:Edit row row' v x y L C R)(q:Nat):q∉row' q:=by
 obtain⟨⟨f1,f2,f3,M,N⟩,Q,nd⟩:=E.facts;have D:=E.v2;have j:=E.self q;by_cases m:q=2
 .subst m;rw[E.two]at j;rw[E.new2];grind
 by_cases X:q=v
 .subst X;rw[E.newv];grind
 by_cases U:q=x
 .subst U;obtain⟨u,z,w,o,n⟩:=E.rx;rw[o]at j;rw[n];grind
 by_cases J:q=y
 .subst J;obtain⟨u,w,o,n⟩:=E.ry;rw[o]at j;rw[n];grind
 by_cases Y:q∈C
 .obtain⟨u,z,w,o,n⟩:=E.rc q Y;rw[o]at j;rw[n];grind
 .rw[E.rest q m X U J Y];exact j
end
structure S where
 k:Nat
 path:AC
 heap:AC
 i0:Nat->AC
 i1:Nat->AC
 i2:Nat->AC
 o0:Nat->Nat
 o1:Nat->Nat
 o2:Nat->Nat
def put {α:Type}(f:Nat->α)(a:Nat)(x:α):Nat->α:=λb=>if b=a then x else f b
theorem B8:put f a x a=x:=by simp[put]
theorem C1 (h:b≠a):put f a x b=f b:=by simp[put,h]
def S.row (s:S)(q:Nat):AC:=
 if q=0 then 1::(s.i0 0++[2]) else if q=1 then 2::((s.i1 1).reverse++[0]) else if q=2 then s.path.reverse++s.heap
 else if q<s.k+3 then s.o0 q::(s.i2 q++s.o1 q::(s.i0 q++s.o2 q::(s.i1 q).reverse)) else []
def S.first:S:={k:=0,path:=[0],heap:=[1],i0:=λ_=>[],i1:=λ_=>[],i2:=λ_=>[],o0:=λ_=>2,o1:=λ_=>2,o2:=λ_=>2}
def S.h1 (s:S)(a:Nat):AC:=(s.path.take a).reverse++s.heap
def S.step (s:S)(a b:Nat):S where
 k:=s.k+1
 path:=(s.k+3)::s.path.drop a
 heap:=(s.h1 a).drop b
 i0:=put s.i0 ((s.path.drop a).headD 0) (s.i0 ((s.path.drop a).headD 0)++[s.k+3])
 i1:=put s.i1 (((s.h1 a).drop b).headD 0) (s.i1 (((s.h1 a).drop b).headD 0)++[s.k+3])
 i2:=put s.i2 (s.k+3) ((s.h1 a).take b)
 o0:=put s.o0 (s.k+3) ((s.path.drop a).headD 0)
 o1:=put s.o1 (s.k+3) (((s.h1 a).drop b).headD 0)
 o2:=λq=>if q=s.k+3 then 2 else if q∈(s.h1 a).take b then s.k+3 else s.o2 q
structure bH9 (s:S):Prop where
 nd:∀q,(s.row q).Nodup
 self:∀q,q∉s.row q
 tri:∀q a b,adj (s.row q) a b->adj (s.row a) b q
 lt:∀q,∀p∈s.row q,p<s.k+3
 pe:∃p,s.path=p++[0]
 he:∃h,s.heap=h++[1]
 bd:∀q,(q∈s.path\/q∈s.heap)->q≠2/\(3<=q->s.o2 q=2)
 emp:∀q,s.k+3<=q->s.i0 q=[]/\s.i1 q=[]
theorem aU0 {s:S}{q:Nat}(h:s.k+3<=q):s.row q=[]:=by
 unfold S.row;rw[Ab (by lia),Ab (by lia),Ab (by lia),Ab (by lia)]
theorem O6 {s:S}{q:Nat}(h:3<=q)(h':q<s.k+3):s.row q=s.o0 q::(s.i2 q++s.o1 q::(s.i0 q++s.o2 q::(s.i1 q).reverse)):=by
 unfold S.row;rw[Ab (by lia),Ab (by lia),Ab (by lia),Ac h']
theorem aK6 {s:S}:s.row 2=s.path.reverse++s.heap:=by simp[S.row]
theorem aJ2 {s:S}:s.row 0=1::(s.i0 0++[2]):=by simp[S.row]
theorem aW2 {s:S}:s.row 1=2::((s.i1 1).reverse++[0]):=by simp[S.row]
theorem bU9:bH9 S.first where
 nd:=λq=>by
  unfold S.row S.first;dsimp only
  repeat' split
  all_goals simp
  lia
 self:=λq=>by
  unfold S.row S.first;dsimp only
  repeat' split
  all_goals simp
  all_goals lia
 tri:=λq a b h=>by
  have e:∀q a b,adj (S.first.row q) a b↔(q=0/\((a=1/\b=2)\/(a=2/\b=1)))\/(q=1/\((a=2/\b=0)\/(a=0/\b=2)))\/(q=2/\((a=0/\b=1)\/(a=1/\b=0))):=λq a b=>by
   unfold S.row S.first adj;dsimp only
   repeat' split
   all_goals (simp_all[lin])
   all_goals lia
  rw[e]at h ⊢;rcases h with⟨rfl,⟨rfl,rfl⟩ | ⟨rfl,rfl⟩⟩ | ⟨rfl,⟨rfl,rfl⟩ | ⟨rfl,rfl⟩⟩ | ⟨rfl,⟨rfl,rfl⟩ | ⟨rfl,rfl⟩⟩ <;> decide
 lt:=λq p=>by
  unfold S.row S.first;dsimp only
  repeat' split
  all_goals (simp <;> lia)
 pe:=⟨[],rfl⟩
 he:=⟨[],rfl⟩
 bd:=λq h=>by
  simp only[S.first,Ad8]at h
  lia
 emp:=λq _=>⟨rfl,rfl⟩
theorem bH4 (I:bH9 s)(ha:a<s.path.length)(hb:b<a+s.heap.length) :
  ∃x px y hy,s.path.drop a=x::px/\(s.h1 a).drop b=y::hy/\Edit s.row (s.step a b).row (s.k+3) x y px.reverse ((s.h1 a).take b) hy/\bH9 (s.step a b):=by
 obtain⟨p0,J⟩:=I.pe;obtain⟨h0,D⟩:=I.he;obtain⟨x,px,ex⟩:∃x px,s.path.drop a=x::px:=by
  cases e:s.path.drop a with
  | nil=>have:=List.drop_eq_nil_iff.mp e;lia
  | cons x px=>exact⟨x,px,rfl⟩
 have hl:(s.h1 a).length=a+s.heap.length:=by
  unfold S.h1;simp;lia
 obtain⟨y,hy,j⟩:∃y hy,(s.h1 a).drop b=y::hy:=by
  cases e:(s.h1 a).drop b with
  | nil=>have:=List.drop_eq_nil_iff.mp e;lia
  | cons y hy=>exact⟨y,hy,rfl⟩
 have two:s.row 2=px.reverse++x::((s.h1 a).take b++y::hy):=by
  rw[aK6,<- j,Ad3]
  have:s.path=s.path.take a++x::px:=by rw[<- ex,Ad3]
  conv=>lhs;rw[this]
  unfold S.h1
  simp
 have nd2:=I.nd 2
 have M:=I.self 2
 have m:=I.lt 2
 rw[two]at nd2 M m;have pl:∃p1,x::px=p1++[0]:=by
  rw[<- ex,J];rw[J]at ha;simp at ha;rw[List.drop_append_of_le_length (by lia)]
  exact⟨_,rfl⟩
 have F:∃h1,y::hy=h1++[1]:=by
  rw[<- j];unfold S.h1;rw[D,<- Ad7]
  have:(p0.length:Nat)+1=s.path.length:=by rw[J];simp
  have l1:((s.path.take a).reverse++h0).length=a+h0.length:=by simp;lia
  have l2:s.heap.length=h0.length+1:=by rw[D];simp
  rw[List.drop_append_of_le_length (by lia)]
  exact⟨_,rfl⟩
 have one_mem:1∈y::hy:=by obtain⟨h1,e⟩:=F;rw[e];simp
 have R:0∈x::px:=by obtain⟨h1,e⟩:=pl;rw[e];simp
 generalize N:(s.h1 a).take b=C at *;have Q:∀c∈C,c≠0/\c≠1/\c≠2/\c<s.k+3:=by
  intro c X;refine⟨?_,?_,?_,m c (by simp[X])⟩
  .rintro rfl;grind
  .rintro rfl;grind
  .rintro rfl;grind
 have hx:x≠1/\x≠2/\x<s.k+3:=⟨by rintro rfl;grind,by rintro rfl;grind,m x (by simp)⟩
 have hyy:y≠0/\y≠2/\y<s.k+3:=⟨by rintro rfl;grind,by rintro rfl;grind,m y (by simp)⟩
 have U:∀q,q∈s.row 2->3<=q->s.o2 q=2:=λq Y h3=>by
  rw[aK6]at Y;simp at Y;exact(I.bd q Y).2 h3
 have B:3<=x->s.o2 x=2:=U x (by rw[two];simp)
 have P:3<=y->s.o2 y=2:=U y (by rw[two];simp)
 have o2c:∀c∈C,s.o2 c=2:=λc X=>by
  have:=Q c X
  exact U c (by rw[two];simp[X]) (by lia)
 have xy:x≠y:=by rintro rfl;grind
 have xC:x∉C:=by grind
 have yC:y∉C:=by grind
 have E:Edit s.row (s.step a b).row (s.k+3) x y px.reverse C hy:=by
  refine⟨I.nd,I.self,I.tri,by lia,λq Y=>?_,two,?_,aU0 (Aa7 _),?_,?_,?_,?_,?_⟩
  .have:=I.lt q _ Y;lia
  .rw[O6 (by lia) (by simp[S.step])]
   have e1:=I.emp (s.k+3) (Aa7 _)
   simp only[S.step,ex,j,N,Bw,B8,if_true];rw[C1 (by lia),C1 (by lia),e1.1,e1.2]
   simp
  .rw[aK6];simp only[S.step,ex,j]
   simp
  .by_cases x0:x=0
   .subst x0;rcases Ac5 (1::s.i0 0) with e | ⟨u,z,e⟩
    .cases e
    .refine⟨u,z,[],?_,?_⟩
     .rw[aJ2,<- Ab6,e];simp
     .rw[aJ2];simp only[S.step,ex,Bw,B8];rw[Ad7,<- Ab6,e];simp
   .have x3:3<=x:=by lia
    rcases Ac5 (s.o0 x::(s.i2 x++s.o1 x::s.i0 x)) with e | ⟨u,z,e⟩
    .cases e
    .refine⟨u,z,(s.i1 x).reverse,?_,?_⟩
     .rw[O6 x3 hx.2.2,B x3]
      have:s.o0 x::(s.i2 x++s.o1 x::(s.i0 x++2::(s.i1 x).reverse))=(s.o0 x::(s.i2 x++s.o1 x::s.i0 x))++2::(s.i1 x).reverse:=by simp
      rw[this,e];simp
     .rw[O6 x3 (by simp[S.step];lia)]
      simp only[S.step,ex,j,N,Bw,B8];rw[C1 (by lia),C1 (by lia),C1 (by lia),C1 xy,Ab (by lia),Ab xC,B x3]
      have:s.o0 x::(s.i2 x++s.o1 x::(s.i0 x++[s.k+3]++2::(s.i1 x).reverse))=(s.o0 x::(s.i2 x++s.o1 x::s.i0 x))++(s.k+3)::2::(s.i1 x).reverse:=by simp
      rw[this,e];simp
  .by_cases y1:y=1
   .subst y1;refine⟨[],(s.i1 1).reverse++[0],?_,?_⟩
    .rw[aW2];simp
    .rw[aW2];simp only[S.step,j,Bw,B8]
     simp
   .have y3:3<=y:=by lia
    refine⟨s.o0 y::(s.i2 y++s.o1 y::s.i0 y),(s.i1 y).reverse,?_,?_⟩
    .rw[O6 y3 hyy.2.2,P y3];simp
    .rw[O6 y3 (by simp[S.step];lia)]
     simp only[S.step,ex,j,N,Bw,B8];rw[C1 (by lia),C1 (by lia),C1 (by lia),C1 (Ne.symm xy),Ab (by lia),Ab yC,P y3]
     simp
  .intro c X;obtain⟨c0,c1,c2,ck⟩:=Q c X;have c3:3<=c:=by lia
   have cx:c≠x:=λe=>xC (e▸X)
   have cy:c≠y:=λe=>yC (e▸X)
   rcases Ac5 (s.o0 c::(s.i2 c++s.o1 c::s.i0 c)) with e | ⟨u,z,e⟩
   .cases e
   .refine⟨u,z,(s.i1 c).reverse,?_,?_⟩
    .rw[O6 c3 ck,o2c c X]
     have:s.o0 c::(s.i2 c++s.o1 c::(s.i0 c++2::(s.i1 c).reverse))=(s.o0 c::(s.i2 c++s.o1 c::s.i0 c))++2::(s.i1 c).reverse:=by simp
     rw[this,e];simp
    .rw[O6 c3 (by simp[S.step];lia)]
     simp only[S.step,ex,j,N,Bw];rw[C1 (by lia),C1 (by lia),C1 (by lia),C1 cx,C1 cy,Ab (by lia),Ac X]
     have:s.o0 c::(s.i2 c++s.o1 c::(s.i0 c++(s.k+3)::(s.i1 c).reverse))=(s.o0 c::(s.i2 c++s.o1 c::s.i0 c))++(s.k+3)::(s.i1 c).reverse:=by simp
     rw[this,e];simp
  .intro q q2 qv qx qy qC;by_cases q0:q=0
   .subst q0;rw[aJ2,aJ2];simp only[S.step,ex,Bw];rw[C1 qx]
   by_cases q1:q=1
   .subst q1;rw[aW2,aW2];simp only[S.step,j,Bw];rw[C1 qy]
   by_cases qk:q<s.k+3
   .rw[O6 (by lia) qk,O6 (by lia) (by simp[S.step];lia)]
    simp only[S.step,ex,j,N,Bw];rw[C1 qv,C1 qv,C1 qv,C1 qx,C1 qy,Ab qv,Ab qC]
   .rw[aU0 (s:=s.step a b) (by show s.k+1+3<=q;lia),aU0 (s:=s) (by lia)]
 refine⟨x,px,y,hy,ex,j,E,⟨E.nd',E.self',E.tri',λq p hp=>?_,?_,?_,λq Y=>?_,λq Y=>?_⟩⟩
 .show p<s.k+1+3
  by_cases h2:q=2
  .subst h2;rw[E.new2]at hp
   have:=m p
   grind
  by_cases hv:q=s.k+3
  .subst hv;rw[E.newv]at hp
   have:=m p
   grind
  by_cases qx:q=x
  .subst qx;obtain⟨u,z,w,o,n⟩:=E.rx
   have:=I.lt q p
   rw[o]at this;rw[n]at hp;grind
  by_cases qy:q=y
  .subst qy;obtain⟨u,w,o,n⟩:=E.ry
   have:=I.lt q p
   rw[o]at this;rw[n]at hp;grind
  by_cases qC:q∈C
  .obtain⟨u,z,w,o,n⟩:=E.rc q qC
   have:=I.lt q p
   rw[o]at this;rw[n]at hp;grind
  .rw[E.rest q h2 hv qx qy qC]at hp
   have:=I.lt q p hp
   lia
 .obtain⟨p1,e⟩:=pl;exact⟨(s.k+3)::p1,by simp only[S.step,ex,e];simp⟩
 .obtain⟨h1,e⟩:=F;exact⟨h1,by simp only[S.step,j,e]⟩
 .have hq':q=s.k+3\/q∈x::px\/q∈y::hy:=by
   simp only[S.step,ex,j]at Y;simp at Y ⊢;grind
  rcases hq' with rfl | hq'
  .exact⟨by lia,λ_=>by simp[S.step]⟩
  .have hm:q∈s.row 2:=by rw[two];grind
   have hnC:q∉C:=by grind
   refine⟨by rintro rfl;exact I.self 2 hm,λh3=>?_⟩
   simp only[S.step,N];rw[Ab (by have:=I.lt 2 q hm;lia),Ab hnC]
   exact U q hm h3
 .have Y:s.k+1+3<=q:=Y
  have:=I.emp q (by lia)
  simp only[S.step,ex,j,Bw];rw[C1 (by lia),C1 (by lia)]
  exact this
theorem bL3 (l:AC)(x y:Nat):lin (l.map f) x y↔∃a b,x=f a/\y=f b/\lin l a b:=by
 induction l with
 | nil=>simp[cB5]
 | cons c l w=>
  cases l with
  | nil=>simp[aC4]
  | cons d l=>
   simp only[Ac7,C7];simp only[Ac7]at w;rw[w];constructor
   .rintro (⟨rfl,rfl⟩ | ⟨a,b,e1,e2,h⟩)
    .exact⟨c,d,rfl,rfl,.inl ⟨rfl,rfl⟩⟩
    .exact⟨a,b,e1,e2,.inr h⟩
   .rintro⟨a,b,rfl,rfl,⟨rfl,rfl⟩ | h⟩
    .exact .inl ⟨rfl,rfl⟩
    .exact .inr ⟨a,b,rfl,rfl,h⟩
theorem bZ3 (l:AC)(x y:Nat):adj (l.map f) x y↔∃a b,x=f a/\y=f b/\adj l a b:=by
 unfold adj;rw[<- bL3]
 simp
theorem p7 (u w:AC)(x y:Nat):adj (w++u) x y↔adj (u++w) x y:=by
 cases u with
 | nil=>simp
 | cons a u=>
  cases w with
  | nil=>simp
  | cons b w=>
   unfold adj;have e1:b::w++a::u++(b::w++a::u).take 1=(b::w)++a::(u++[b]):=by simp
   have e2:a::u++b::w++(a::u++b::w).take 1=(a::u)++b::(w++[a]):=by simp
   rw[e1,e2,D9 a (u++[b]) x y (b::w),D9 b (w++[a]) x y (a::u)];simp only[Ab6];exact Or.comm
theorem C6 (h:adj l a b):a∈l/\b∈l:=by
 have:=aC8 h
 simp only[Aa0]at this;exact⟨this.1.elim id Bh,this.2.elim id Bh⟩
theorem aI1 (h:a∈l):∃b,adj l a b:=by
 obtain⟨u,w,rfl⟩:=Ad5 h;obtain⟨b,r,e⟩:∃b r,(w++(u++[a]).take 1)=b::r:=by
  cases w with
  | nil=>cases u with
   | nil=>exact⟨a,[],rfl⟩
   | cons c u=>exact⟨c,[],rfl⟩
  | cons c w=>exact⟨c,_,rfl⟩
 refine⟨b,?_⟩;unfold adj;have t:(u++a::w).take 1=(u++[a]).take 1:=by cases u <;> simp
 rw[t,Ad7,Ab6,e,D9,C7];exact .inr (.inl ⟨rfl,rfl⟩)
theorem bO8 (h:b∈l):∃a,adj l a b:=by
 obtain⟨u,w,rfl⟩:=Ad5 h;rw[show u++b::w=u++(b::w) from rfl]
 rcases Ac5 (b::w++u) with e | ⟨r,a,e⟩
 .cases e
 .refine⟨a,(p7 u (b::w) a b).mp ?_⟩;cases r with
  | nil=>
   have:b::w++u=[a]:=by simpa using e
   have z:b=a:=by simpa using congrArg List.head? this
   subst z;rw[this];exact .inl ⟨rfl,rfl⟩
  | cons c r=>
   have j:b=c:=by simpa using congrArg List.head? e
   subst j;rw[e];unfold adj
   have:((b::r).concat a)++((b::r).concat a).take 1=(b::r)++a::[b]:=by simp
   rw[this,D9,C7];exact .inr (.inl ⟨rfl,rfl⟩)
theorem aM9 (nd:l.Nodup)(h1:adj l a b)(J:adj l a c):b=c:=by
 have M:=(C6 h1).1
 obtain⟨u,w,rfl⟩:=Ad5 M;have m:=(p7 u (a::w) a b).mpr h1;have Y:=(p7 u (a::w) a c).mpr J;have nd':(a::w++u).Nodup:=by grind
 unfold adj at m Y;generalize w++u=v at *;have e:a::w++u=a::(w++u):=rfl;cases X:w++u with
 | nil=>
  rw[e,X]at m Y
  simp[lin]at m Y
  lia
 | cons d j=>
  rw[e,X]at m Y nd';have q:∀z,lin (a::d::j++List.take 1 (a::d::j)) a z->z=d:=λz U=>by
   have e2:a::d::j++List.take 1 (a::d::j)=a::d::(j++[a]):=by simp
   rw[e2,C7]at U;rcases U with h | h
   .exact h.2
   .have:=S3 (u:=d::j) (c:=a) (by simpa using h)
    grind
  rw[q b m,q c Y]
theorem bP5 (nd:l.Nodup)(h1:adj l a c)(J:adj l b c):a=b:=by
 have M:=(C6 h1).2
 obtain⟨u,w,rfl⟩:=Ad5 M;have m:=(p7 u (c::w) a c).mpr h1;have Y:=(p7 u (c::w) b c).mpr J;have nd':(c::(w++u)).Nodup:=by grind
 have e:c::w++u=c::(w++u):=rfl
 rw[e]at m Y;generalize w++u=v at *;unfold adj at m Y;rcases Ac5 v with X | ⟨j,d,X⟩
 .subst X
  simp[lin]at m Y
  lia
 .subst X;have q:∀z,lin (c::j.concat d++List.take 1 (c::j.concat d)) z c->z=d:=λz U=>by
   have e2:c::j.concat d++List.take 1 (c::j.concat d)=(c::j)++d::[c]:=by simp
   rw[e2,D9,C7]at U;rcases U with h | h | h
   .have:=W9 (c:=c) (u:=j++[d]) h
    simp at nd'
    grind
   .exact h.1
   .exact h.elim
  rw[q a m,q b Y]
def mn (l:AC):Nat:=l.min?.getD 0
theorem cB7 (h:l≠[]):mn l∈l/\∀a∈l,mn l<=a:=by
 unfold mn;cases e:l.min? with
 | none=>exact absurd (List.min?_eq_none_iff.mp e) h
 | some m=>exact List.min?_eq_some_iff.mp e
def T1 (l:AC):AC:=l.drop (l.idxOf (mn l))++l.take (l.idxOf (mn l))
theorem t9 (l:AC):(T1 l).Perm l:=by
 unfold T1;exact(Cw).trans (by rw[Ad3])
theorem bB7 (l:AC)(a b:Nat):adj (T1 l) a b↔adj l a b:=by
 unfold T1;rw[p7,Ad3]
theorem bG2 (l:AC):(T1 l).length=l.length:=(t9 l).length_eq
theorem begun_mem:a∈T1 l↔a∈l:=(t9 l).mem_iff
theorem bL1:(T1 l).Nodup↔l.Nodup:=(t9 l).nodup_iff
structure Good (n:Nat)(r:Nat->AC):Prop where
 nd:∀q,(r q).Nodup
 self:∀q,q∉r q
 tri:∀q a b,adj (r q) a b->adj (r a) b q
 lt:∀q,∀p∈r q,p<n
 hi:∀q,n<=q->r q=[]
 two:∀q,q<n->2<=(r q).length
 out:adj (r 2) 1 0
 conn:∀R:Nat->Prop,R 0->(∀a b,R a->b∈r a->R b)->∀q,q<n->R q
 sum:((List.range n).map λq=>(r q).length).sum+12=6*n
 three:3<=n
theorem Good.sym {n:Nat}{r:Nat->AC}(G:Good n r){p q:Nat}(h:q∈r p):p∈r q:=by
 obtain⟨b,w⟩:=aI1 h;exact(C6 (G.tri _ _ _ w)).2
structure bK5 (s:S):Prop where
 two:∀q,q<s.k+3->2<=(s.row q).length
 o0:∀q,3<=q->q<s.k+3->s.o0 q<q/\s.o0 q∈s.row q
 sum:((List.range (s.k+3)).map λq=>(s.row q).length).sum+12=6*(s.k+3)
theorem bR0:bK5 S.first where
 two:=λq h=>by
  have h:q<3:=h
  match q,h with
  | 0,_=>decide
  | 1,_=>decide
  | 2,_=>decide
 o0:=λq h w=>by
  have w:q<3:=w
  lia
 sum:=by decide
theorem bS5 {n:Nat}{f g:Nat->Nat}{l:AC}(nd:l.Nodup)(z:∀q∈l,q<n)(h:∀q,q<n->q∉l->f q=g q) :
  ((List.range n).map f).sum+(l.map g).sum=((List.range n).map g).sum+(l.map f).sum:=by
 induction l generalizing f with
 | nil=>
  have:(List.range n).map f=(List.range n).map g:=Bg λq w=>h q (Ab5.mp w) (by simp)
  simp[this]
 | cons c l Y=>
  have U:=z c (by simp)
  have nd':=Aa5.mp nd
  have m:∀(f:Nat->Nat) (x:Nat),((List.range n).map λq=>if q=c then x else f q).sum+f c=((List.range n).map f).sum+x:=by
   intro f x
   clear h Y z nd nd'
   induction n with
   | zero=>lia
   | succ n j=>
    rw[Ce,Ad2,Ad2,List.sum_append,List.sum_append];by_cases e:c=n
    .subst e
     have:(List.range c).map (λq=>if q=c then x else f q)=(List.range c).map f:=Bg λq w=>by
      have:=Ab5.mp w
      rw[Ab (by lia)]
     rw[this]
     simp
     lia
    .have:=j (by lia)
     simp only[Ac7,Cj,List.sum_cons,List.sum_nil];rw[Ab (Ne.symm e)]
     lia
  have J:=m f (g c)
  have:=Y (f:=λq=>if q=c then g c else f q) nd'.2 (λq w=>z q (by simp[w])) (λq w X=>by
   by_cases e:q=c
   .subst e;simp
   .simp only[Ab e];exact h q w (by simp[e,X]))
  have e2:(l.map λq=>if q=c then g c else f q)=l.map f:=Bg λq w=>by
   rw[Ab (by rintro rfl;exact nd'.1 w)]
  rw[e2]at this;simp only[Ac7,List.sum_cons]
  lia
theorem cD9 (I:bH9 s)(M:bK5 s)(ha:a<s.path.length)(hb:b<a+s.heap.length):bK5 (s.step a b):=by
 obtain⟨x,px,y,D,ex,ey,E,I'⟩:=bH4 I ha hb;obtain⟨⟨f1,f2,f3,f4,f5⟩,fc,nd⟩:=E.facts;have hx:x<s.k+3:=I.lt 2 x (by rw[E.two];simp)
 have hyl:y<s.k+3:=I.lt 2 y (by rw[E.two];simp)
 have P:((s.step a b).row x).length=(s.row x).length+1:=by
  obtain⟨u,z,w,o,n⟩:=E.rx;rw[o,n];simp;lia
 have ly:((s.step a b).row y).length=(s.row y).length+1:=by
  obtain⟨u,w,o,n⟩:=E.ry;rw[o,n];simp;lia
 have B:∀q,q≠2->q≠s.k+3->q≠x->q≠y->((s.step a b).row q).length=(s.row q).length:=λq J m X U=>by
  by_cases Q:q∈(s.h1 a).take b
  .obtain⟨u,z,w,o,n⟩:=E.rc q Q;rw[o,n];simp
  .rw[E.rest q J m X U Q]
 have F:((s.step a b).row 2).length=px.length+3+D.length:=by rw[E.new2];simp;lia
 have g2:(s.row 2).length=px.length+2+((s.h1 a).take b).length+D.length:=by rw[E.two];simp only[Ab7,Ay,Ae1];lia
 have lv:((s.step a b).row (s.k+3)).length=((s.h1 a).take b).length+3:=by rw[E.newv];simp only[Ab7,Ay,List.length_nil]
 have N:(s.row (s.k+3)).length=0:=by rw[E.oldv];rfl
 refine⟨λq j=>?_,λq R j=>?_,?_⟩
 .have j:q<s.k+1+3:=j
  by_cases J:q=2
  .rw[J,F];lia
  by_cases m:q=s.k+3
  .rw[m,lv];lia
  have:=M.two q (by lia)
  by_cases X:q=x
  .rw[X,P];rw[X]at this;lia
  by_cases U:q=y
  .rw[U,ly];rw[U]at this;lia
  rw[B q J m X U];exact this
 .have hq':q<s.k+1+3:=j
  refine⟨?_,by rw[O6 R j];simp⟩
  by_cases m:q=s.k+3
  .subst m;simp only[S.step,ex,Bw,B8];exact hx
  .simp only[S.step];rw[C1 m];exact(M.o0 q R (by lia)).1
 .show((List.range (s.k+1+3)).map λq=>((s.step a b).row q).length).sum+12=6*(s.k+1+3)
  have sc:=bS5 (n:=s.k+1+3) (f:=λq=>((s.step a b).row q).length) (g:=λq=>(s.row q).length) (l:=[2,s.k+3,x,y]) (by
   have:=E.v2
   simp only[Aa5,Aa1,Ac2,or_false,not_or,List.nodup_nil,not_false_eq_true,and_true];exact⟨⟨by lia,Ne.symm f2,Ne.symm f3⟩,⟨Ne.symm f4,Ne.symm f5⟩,f1⟩) (by
   intro q j;simp only[Aa1,Ac2,or_false]at j
   lia) (by
   intro q j Y;simp only[Aa1,Ac2,or_false,not_or]at Y;exact B q Y.1 Y.2.1 Y.2.2.1 Y.2.2.2)
  simp only[Ac7,Cj,List.sum_cons,List.sum_nil]at sc;have e:((List.range (s.k+1+3)).map λq=>(s.row q).length).sum=((List.range (s.k+3)).map λq=>(s.row q).length).sum:=by
   rw[show s.k+1+3=(s.k+3)+1 by lia,Ce,Ad2,List.sum_append]
   simp only[Ac7,Cj,List.sum_cons,List.sum_nil,N]
   lia
  have:=M.sum
  rw[F,lv,P,ly,g2,N,e]at sc
  lia
theorem cG7 (I:bH9 s)(M:bK5 s):Good (s.k+3) s.row where
 nd:=I.nd
 self:=I.self
 tri:=I.tri
 lt:=I.lt
 hi:=λq h=>aU0 h
 two:=M.two
 out:=by
  obtain⟨p,X⟩:=I.pe;obtain⟨h,Y⟩:=I.he;rw[aK6,X,Y];unfold adj
  have:(p++[0]).reverse++(h++[1])++((p++[0]).reverse++(h++[1])).take 1=(0::p.reverse++h)++1::[0]:=by simp
  rw[this,D9,C7];exact .inr (.inl ⟨rfl,rfl⟩)
 conn:=λR z j q N=>by
  have m:∀b∈s.row 0,R b:=λb w=>j 0 b z w
  have m1:(1:Nat)∈s.row 0:=by rw[aJ2];simp
  have m2:(2:Nat)∈s.row 0:=by rw[aJ2];simp
  have sym:∀p q,q∈s.row p->p∈s.row q:=λp q h=>by
   obtain⟨b,w⟩:=aI1 h;exact(C6 (I.tri _ _ _ w)).2
  induction q using Nat.strongRecOn with
  | _ q Q=>
   by_cases J:3<=q
   .obtain⟨h1,U⟩:=M.o0 q J N;exact j _ _ (Q _ h1 (by lia)) (sym _ _ U)
   .have:q=0\/q=1\/q=2:=by lia
    rcases this with rfl | rfl | rfl
    .exact z
    .exact m 1 m1
    .exact m 2 m2
 sum:=M.sum
 three:=by lia
structure Nm (n:Nat)(f:Nat->Nat):Prop where
 lt:∀v,v<n->f v<n
 inj:∀v w,v<n->w<n->f v=f w->v=w
 c0:f 0=0
 c1:f 1=1
 c2:f 2=2
theorem bC8 {l:AC}(nd:l.Nodup):∀{m:AC},(∀x∈l,x∈m)->l.length<=m.length:=by
 induction l with
 | nil=>intro m _;simp
 | cons a l j=>
  intro m h;have nd':=Aa5.mp nd;have w:a∈m:=h a (by simp)
  have:=j nd'.2 (m:=m.erase a) λx z=>(List.mem_erase_of_ne (by rintro rfl;exact nd'.1 z)).mpr (h x (by simp[z]))
  have Y:=Cz w
  have:=Dg w
  simp only[Ay]
  lia
theorem Nm.surj (h:Nm n f)(q:Nat)(M:q<n):∃v,v<n/\f v=q:=by
 have nd:((List.range n).map f).Nodup:=by
  rw[Ac6,Ae0];refine By ?_ (Ac6.mp Df);intro a b X U j e;exact j (h.inj a b (Ab5.mp X) (Ab5.mp U) e)
 have sub:(List.range n).map f ⊆ List.range n:=λx z=>by
  obtain⟨v,Y,rfl⟩:=Aa8.mp z;exact Ab5.mpr (h.lt v (Ab5.mp Y))
 have:q∈(List.range n).map f:=Classical.byContradiction λJ=>by
  have w:=Ab5.mpr M
  have:=bC8 nd (m:=(List.range n).erase q) λx z=>(List.mem_erase_of_ne (by rintro rfl;exact J z)).mpr (sub z)
  have N:=Cz w
  have:=Dg w
  simp only[Aa3,Cr]at *
  lia
 obtain⟨v,Y,e⟩:=Aa8.mp this;exact⟨v,Ab5.mp Y,e⟩
theorem Good.named (G:Good n r)(F:Nm n f)(h:∀v,v<n->r' (f v)=T1 ((r v).map f))(N:∀q,n<=q->r' q=[]):Good n r':=by
 have bR5:∀v,v<n->∀x y,adj (r' (f v)) x y↔∃a b,x=f a/\y=f b/\adj (r v) a b:=λv w x y=>by rw[h v w,bB7,bZ3]
 have j:∀v,v<n->∀x,x∈r' (f v)↔∃a,a∈r v/\x=f a:=λv w x=>by
  rw[h v w,begun_mem,Aa8];exact⟨λ⟨a,h1,D⟩=>⟨a,h1,D.symm⟩,λ⟨a,h1,D⟩=>⟨a,h1,D.symm⟩⟩
 have Q:∀q,n<=q\/∃v,v<n/\f v=q:=λq=>by
  by_cases z:n<=q
  .exact .inl z
  .exact .inr (F.surj q (by lia))
 have len:∀v,v<n->(r' (f v)).length=(r v).length:=λv w=>by rw[h v w,bG2,Aa3]
 refine⟨λq=>?_,λq=>?_,λq a b Y=>?_,λq p hp=>?_,N,λq z=>?_,?_,λR B P q z=>?_,?_,G.three⟩
 .rcases Q q with z | ⟨v,w,rfl⟩
  .rw[N q z];simp
  .rw[h v w,bL1,Ac6,Ae0];refine By ?_ (Ac6.mp (G.nd v));intro a b m X U e;exact U (F.inj a b (G.lt v a m) (G.lt v b X) e)
 .rcases Q q with z | ⟨v,w,rfl⟩
  .rw[N q z];simp
  .intro hm;obtain⟨a,m,e⟩:=(j v w _).mp hm;exact G.self v (F.inj v a w (G.lt v a m) e▸m)
 .rcases Q q with z | ⟨v,w,rfl⟩
  .rw[N q z]at Y;exact Y.elim
  .obtain⟨c,d,rfl,rfl,M⟩:=(bR5 v w _ _).mp Y;exact(bR5 c (G.lt v c (C6 M).1) _ _).mpr ⟨d,v,rfl,rfl,G.tri _ _ _ M⟩
 .rcases Q q with z | ⟨v,w,rfl⟩
  .rw[N q z]at hp;exact absurd hp (by simp)
  .obtain⟨a,m,rfl⟩:=(j v w _).mp hp;exact F.lt a (G.lt v a m)
 .obtain⟨v,w,rfl⟩:=F.surj q z;rw[len v w];exact G.two v w
 .have:=G.three
  have:=(bR5 2 (by lia) 1 0).mpr ⟨1,0,F.c1.symm,F.c0.symm,G.out⟩
  rwa [F.c2]at this
 .obtain⟨v,w,rfl⟩:=F.surj q z
  have:=G.three
  refine G.conn (λv=>v<n->R (f v)) (λ_=>by rw[F.c0];exact B) (λa b m X hbn=>?_) v w w
  by_cases J:a<n
  .exact P _ _ (m J) ((j a J _).mpr ⟨b,X,rfl⟩)
  .rw[G.hi a (by lia)]at X;exact absurd X (by simp)
 .have p:((List.range n).map f).Perm (List.range n):=by
   refine(List.perm_ext_iff_of_nodup ?_ Df).mpr λq=>?_
   .rw[Ac6,Ae0];refine By ?_ (Ac6.mp Df);intro a b m X U e;exact U (F.inj a b (Ab5.mp m) (Ab5.mp X) e)
   .constructor
    .intro z;obtain⟨v,w,rfl⟩:=Aa8.mp z;exact Ab5.mpr (F.lt v (Ab5.mp w))
    .intro z;obtain⟨v,w,rfl⟩:=F.surj q (Ab5.mp z);exact Aa8.mpr ⟨v,Ab5.mpr w,rfl⟩
  have e1:=(p.map λq=>(r' q).length).sum_nat
  have e2:((List.range n).map f).map (λq=>(r' q).length)=(List.range n).map λv=>(r v).length:=by
   rw[Ae2];exact Bg λv w=>len v (Ab5.mp w)
  rw[e2]at e1;rw[<- e1];exact G.sum
def pv (F:Nat->Nat):Nat->Nat
 | 0=>0
 | i+1=>F i
def gst (F G:Nat->Nat):Nat->S
 | 0=>S.first
 | i+1=>(gst F G i).step (F i-pv F i) (G i-pv G i)
structure Rws (F G:Nat->Nat)(m:Nat):Prop where
 f1:∀i,i<m->pv F i<=F i
 f2:∀i,i<m->F i<=i
 g1:∀i,i<m->pv G i<=G i
 g2:∀i,i<m->G i<=F i
structure dW7 (F G:Nat->Nat)(i:Nat):Prop where
 inv:bH9 (gst F G i)
 more:bK5 (gst F G i)
 k:(gst F G i).k=i
 p:(gst F G i).path.length+pv F i=1+i
 h:(gst F G i).heap.length+pv G i=1+pv F i
 le:pv F i<=i
 le2:pv G i<=pv F i
theorem P2 (R:Rws F G m):∀i,i<=m->dW7 F G i
 | 0,_=>⟨bU9,bR0,rfl,rfl,rfl,Aa7 _,Aa7 _⟩
 | i+1,hi=>by
  have I:=P2 R i (by lia)
  have f1:=R.f1 i (by lia)
  have f2:=R.f2 i (by lia)
  have U:=R.g1 i (by lia)
  have Y:=R.g2 i (by lia)
  have h1:=I.p
  have J:=I.h
  have w:F i-pv F i<(gst F G i).path.length:=by lia
  have z:G i-pv G i<(F i-pv F i)+(gst F G i).heap.length:=by lia
  obtain⟨x,N,y,M,ex,X,E,j⟩:=bH4 I.inv w z;refine⟨j,cD9 I.inv I.more w z,?_,?_,?_,?_,Y⟩
  .show(gst F G i).k+1=i+1
   rw[I.k]
  .show(((gst F G i).k+3)::(gst F G i).path.drop (F i-pv F i)).length+F i=1+(i+1)
   rw[Ay,Bs]
   lia
  .show(((gst F G i).h1 (F i-pv F i)).drop (G i-pv G i)).length+G i=1+F i
   rw[Bs];unfold S.h1;rw[Ab7,Ae1,Ad1]
   lia
  .show F i<=i+1
   lia
theorem bQ2 (R:Rws F G m):Good (m+3) (gst F G m).row:=by
 have I:=P2 R m (Aa7 _)
 have:=cG7 I.inv I.more
 rwa [I.k]at this
inductive Wy (o:Nat->Nat):Nat->AC->Prop where
 | corner {q:Nat}:q<3->Wy o q [q]
 | step {q:Nat} {l:AC}:3<=q->Wy o (o q) l->Wy o q (q::l)
theorem aQ3 (F G:Nat->Nat):∀i,(gst F G i).k=i
 | 0=>rfl
 | i+1=>by show(gst F G i).k+1=i+1;rw[aQ3 F G i]
def pa (F G:Nat->Nat)(v:Nat):AC:=(gst F G (v-2)).path.tail
def hp (F G:Nat->Nat)(v:Nat):AC:=(gst F G (v-2)).heap
theorem W8 (F G:Nat->Nat)(i:Nat):(gst F G (i+1)).path=(i+3)::pa F G (i+3):=by
 show((gst F G i).k+3)::(gst F G i).path.drop (F i-pv F i)=_
 rw[aQ3];rfl
theorem bV9 (F G:Nat->Nat)(i:Nat):pa F G (i+3)=(gst F G i).path.drop (F i-pv F i):=rfl
theorem dN7 (F G:Nat->Nat)(i:Nat):(gst F G (i+1)).o0 (i+3)=(pa F G (i+3)).headD 0:=by
 show put (gst F G i).o0 ((gst F G i).k+3) _ (i+3)=_
 rw[aQ3,B8];rfl
theorem dO2 (F G:Nat->Nat)(i:Nat):(gst F G (i+1)).o1 (i+3)=(hp F G (i+3)).headD 0:=by
 show put (gst F G i).o1 ((gst F G i).k+3) _ (i+3)=_
 rw[aQ3,B8];rfl
theorem dC0 (F G:Nat->Nat)(i:Nat):∀j,i<j->(gst F G j).o0 (i+3)=(pa F G (i+3)).headD 0
 | 0,h=>by lia
 | j+1,h=>by
  by_cases e:i=j
  .subst e;exact dN7 F G i
  .rw[<- dC0 F G i j (by lia)]
   show put (gst F G j).o0 ((gst F G j).k+3) _ (i+3)=_
   rw[aQ3,C1 (by lia)]
theorem dC2 (F G:Nat->Nat)(i:Nat):∀j,i<j->(gst F G j).o1 (i+3)=(hp F G (i+3)).headD 0
 | 0,h=>by lia
 | j+1,h=>by
  by_cases e:i=j
  .subst e;exact dO2 F G i
  .rw[<- dC2 F G i j (by lia)]
   show put (gst F G j).o1 ((gst F G j).k+3) _ (i+3)=_
   rw[aQ3,C1 (by lia)]
theorem dD5 (F G:Nat->Nat):∀j q,3<=q->q<j+3->(gst F G j).o2 q=2\/(q<(gst F G j).o2 q/\(gst F G j).o2 q<j+3)
 | 0,q,h,h'=>by lia
 | j+1,q,h,h'=>by
  have e:(gst F G (j+1)).o2 q=if q=(gst F G j).k+3 then 2 else if q∈((gst F G j).h1 (F j-pv F j)).take (G j-pv G j) then(gst F G j).k+3 else(gst F G j).o2 q:=rfl
  rw[e,aQ3];by_cases e1:q=j+3
  .simp[e1]
  .rw[Ab e1]
   have:=dD5 F G j q h (by lia)
   split
   .lia
   .lia
def Ch (F G:Nat->Nat)(l:AC):Prop:=∀u x r,l=u++x::r->3<=x->r=pa F G x
theorem Ch.drop (h:Ch F G l)(a:Nat):Ch F G (l.drop a):=λu x r e w=>by
 refine h (l.take a++u) x r ?_ w;rw[Ad7,<- e,Ad3]
theorem bZ2 (F G:Nat->Nat):∀i,Ch F G (gst F G i).path
 | 0=>by
  intro u x r e w;have e:[0]=u++x::r:=e;cases u with
  | nil=>simp at e;lia
  | cons y u=>simp at e
 | i+1=>by
  intro u x r e w;rw[W8]at e;cases u with
  | nil=>
   simp at e
   rw[<- e.1,<- e.2]
  | cons y u=>
   simp only[Ab6,Bj]at e;exact(bZ2 F G i).drop _ u x r (by rw[<- bV9];exact e.2) w
section
structure At (F G:Nat->Nat)(i:Nat):Prop where
 pe:∃p,pa F G (i+3)=p++[0]
 he:∃h,hp F G (i+3)=h++[1]
 nd:((i+3)::(pa F G (i+3)++hp F G (i+3))).Nodup
 lt:∀x,x∈pa F G (i+3)\/x∈hp F G (i+3)->x<i+3/\x≠2
theorem bD2 (R:Rws F G m)(hi:i<m):At F G i:=by
 have I:=P2 R (i+1) (by lia)
 have nd:=I.inv.nd 2
 rw[aK6,W8]at nd;have lt:=I.inv.lt 2;rw[aK6,W8,I.k]at lt;have j:=I.inv.bd;obtain⟨p,w⟩:=I.inv.pe;obtain⟨h,Y⟩:=I.inv.he;rw[W8]at w;have nd':((i+3)::(pa F G (i+3)++hp F G (i+3))).Nodup:=by
  have z:(((i+3)::pa F G (i+3)).reverse++(gst F G (i+1)).heap).Perm ((i+3)::(pa F G (i+3)++hp F G (i+3))):=by
   show(((i+3)::pa F G (i+3)).reverse++(gst F G (i+1)).heap).Perm (((i+3)::pa F G (i+3))++(gst F G (i+1)).heap)
   exact(List.reverse_perm _).append_right _
  exact z.nodup_iff.mp nd
 refine⟨?_,⟨h,Y⟩,nd',λx hx=>?_⟩
 .cases p with
  | nil=>simp at w
  | cons y p=>simp only[Ab6,Bj]at w;exact⟨p,w.2⟩
 .have h1:=lt x (by
   rcases hx with hx | hx
   .simp[hx]
   .exact Ac1 _ hx)
  have X:=(j x (by
   rcases hx with hx | hx
   .left;rw[W8];simp[hx]
   .right;exact hx)).1
  have U:x≠i+3:=by
   rintro rfl
   have:=(Aa5.mp nd').1
   exact this (Aa0.mpr hx)
  lia
theorem dS4 (R:Rws F G m)(hi:i<m):∃r,pa F G (i+3)=(gst F G m).o0 (i+3)::r:=by
 rw[dC0 F G i m hi];obtain⟨p,e⟩:=(bD2 R hi).pe;cases h:pa F G (i+3) with
 | nil=>rw[h]at e;simp at e
 | cons x r=>exact⟨r,rfl⟩
theorem dP0 (R:Rws F G m)(hi:i<m):∃r,hp F G (i+3)=(gst F G m).o1 (i+3)::r:=by
 rw[dC2 F G i m hi];obtain⟨p,e⟩:=(bD2 R hi).he;cases h:hp F G (i+3) with
 | nil=>rw[h]at e;simp at e
 | cons x r=>exact⟨r,rfl⟩
theorem dW1 (R:Rws F G m):∀v,3<=v->v<m+3->Wy (gst F G m).o0 v (v::pa F G v):=by
 intro v;induction v using Nat.strongRecOn with
 | ind v U=>
  intro Y J;obtain⟨i,rfl⟩:∃i,v=i+3:=⟨v-3,by lia⟩
  have hi:i<m:=by lia
  have A:=bD2 R hi
  obtain⟨r,e⟩:=dS4 R hi;generalize ex:(gst F G m).o0 (i+3)=x at e;refine .step Y ?_;rw[ex,e];have M:=A.lt x (.inl (by rw[e];simp))
  have nd:=A.nd
  obtain⟨p,w⟩:=A.pe;obtain⟨h,X⟩:=A.he;by_cases c:x<3
  .have:r=[]:=by
    have j:x=0:=by
     have:x≠1:=by
      rintro rfl;rw[e,X]at nd;simp at nd
     lia
    subst j;rw[e]at w nd;cases p with
    | nil=>simpa using w
    | cons y p=>
     simp only[Ab6,Bj]at w;rw[w.2]at nd;simp at nd
   rw[this];exact .corner c
  .have z:=(bZ2 F G i).drop (F i-pv F i)
   rw[<- bV9,e]at z;rw[z [] x r rfl (by lia)]
   exact U x (by lia) (by lia) (by lia)
theorem dV4 (R:Rws F G m):∀v,3<=v->v<m+3->∃t,Wy (gst F G m).o1 v (v::t)/\(v::t).Nodup/\(∀x∈t,x<v/\x≠2/\x∉pa F G v)/\∃p,v::t=p++[1]:=by
 intro v;induction v using Nat.strongRecOn with
 | ind v ih=>
  intro N hv;obtain⟨i,rfl⟩:∃i,v=i+3:=⟨v-3,by lia⟩
  have hi:i<m:=by lia
  have A:=bD2 R hi
  obtain⟨r,e⟩:=dP0 R hi;generalize ex:(gst F G m).o1 (i+3)=x at e;have J:=A.lt x (.inr (by rw[e];simp))
  have nd:=A.nd
  have M:x∉pa F G (i+3):=λX=>by
   rw[e]at nd
   have:=(Aa4.mp (Aa5.mp nd).2).2.2 x X x (by simp)
   exact this rfl
  obtain⟨p,pe⟩:=A.pe;by_cases c:x<3
  .have x1:x=1:=by
    have:x≠0:=by
     rintro rfl;exact M (by rw[pe];simp)
    lia
   subst x1;refine⟨[1],.step N (by rw[ex];exact .corner c),by simp,λx U=>?_,[i+3],rfl⟩
   simp at U;subst U
   exact⟨J.1,by lia,M⟩
  .obtain⟨t,w,nt,Q,q,hq⟩:=ih x (by lia) (by lia) (by lia)
   refine⟨x::t,.step N (by rw[ex];exact w),?_,λy Y=>?_,(i+3)::q,by rw[hq];rfl⟩
   .refine Aa5.mpr ⟨λX=>?_,nt⟩
    rcases Aa1.mp X with z | z
    .lia
    .have:=(Q _ z).1;lia
   .rcases Aa1.mp Y with z | z
    .subst z;exact⟨J.1,J.2,M⟩
    .obtain⟨D,B,P⟩:=Q y z;refine⟨by lia,B,λX=>P ?_⟩
     obtain⟨j,rfl⟩:∃j,x=j+3:=⟨x-3,by lia⟩
     exact sub (F:=F) (G:=G) (j:=j) (i:=i) (by lia) y (by rw[<- bV9];exact X) D
where
 sub {F G:Nat->Nat} {j:Nat}:∀{i:Nat},j<i->∀y,y∈(gst F G i).path.drop (F i-pv F i)->y<j+3->y∈pa F G (j+3)
  | 0,h,_,_,_=>by lia
  | i+1,h,y,Y,hl=>by
   have Y:=Cq Y
   rw[W8]at Y;rcases Aa1.mp Y with z | z
   .lia
   .by_cases e:j=i
    .subst e;exact z
    .exact sub (i:=i) (by lia) y (by rw[<- bV9];exact z) hl
theorem dW0 (R:Rws F G m):∀n v,m+3-v=n->3<=v->v<m+3->∃t,Wy (gst F G m).o2 v (v::t)/\(v::t).Nodup/\(∀x∈t,(v<x/\x<m+3)\/x=2)/\∃p,v::t=p++[2]:=by
 intro n;induction n using Nat.strongRecOn with
 | ind n D=>
  intro v B j M;rcases dD5 F G m v j M with e | ⟨h1,X⟩
  .refine⟨[2],.step j (by rw[e];exact .corner (by lia)),by simp;lia,λx N=>.inr (by simpa using N),[v],rfl⟩
  .obtain⟨t,w,nt,Y,q,J⟩:=D (m+3-(gst F G m).o2 v) (by lia) ((gst F G m).o2 v) rfl (by lia) X
   refine⟨(gst F G m).o2 v::t,.step j w,?_,λy Q=>?_,v::q,by rw[J];rfl⟩
   .refine Aa5.mpr ⟨λU=>?_,nt⟩
    rcases Aa1.mp U with z | z
    .lia
    .rcases Y _ z with a | a <;> lia
   .rcases Aa1.mp Q with z | z
    .exact .inl (by lia)
    .rcases Y _ z with a | a
     .exact .inl (by lia)
     .exact .inr a
theorem cW0 (R:Rws F G m)(X:3<=v)(U:v<m+3):∃t0 t1 t2:AC,Wy (gst F G m).o0 v (v::t0)/\Wy (gst F G m).o1 v (v::t1)/\Wy (gst F G m).o2 v (v::t2) /\
  (∃p,v::t0=p++[0])/\(∃p,v::t1=p++[1])/\(∃p,v::t2=p++[2])/\(v::(t0++(t1++t2))).Nodup/\∀x∈t0++(t1++t2),x<m+3:=by
 obtain⟨i,rfl⟩:∃i,v=i+3:=⟨v-3,by lia⟩
 have A:=bD2 R (i:=i) (by lia)
 have w0:=dW1 R _ X U
 obtain⟨t1,w1,D,j,e1⟩:=dV4 R _ X U;obtain⟨t2,w2,B,Y,e2⟩:=dW0 R _ _ rfl X U;obtain⟨p,P⟩:=A.pe;have Q:(pa F G (i+3)).Nodup:=(Aa4.mp (Aa5.mp A.nd).2).1;have M:∀x∈pa F G (i+3),x<i+3/\x≠2:=λx w=>A.lt x (.inl w)
 refine⟨_,t1,t2,w0,w1,w2,⟨(i+3)::p,by rw[P];rfl⟩,e1,e2,Aa5.mpr ⟨λN=>?_,Aa4.mpr ⟨Q,Aa4.mpr ⟨(Aa5.mp D).2,(Aa5.mp B).2,λx w y J=>?_⟩,λx w y J=>?_⟩⟩,λx w=>?_⟩
 .rcases Aa0.mp N with z | z
  .have:=M _ z;lia
  .rcases Aa0.mp z with z | z
   .have:=j _ z;lia
   .have:=Y _ z;lia
 .have b1:=j x w
  have b2:=Y y J
  lia
 .have b0:=M x w
  rcases Aa0.mp J with z | z
  .intro e;subst e;exact(j x z).2.2 w
  .have:=Y y z;lia
 .rcases Aa0.mp w with z | z
  .have:=M _ z;lia
  .rcases Aa0.mp z with z | z
   .have:=j _ z;lia
   .have:=Y _ z;lia
end
structure Bt (F G:Nat->Nat)(m:Nat)(f:Nat->Nat)(d t:AA):Prop where
 R:Rws F G m
 N:Nm (m+3) f
 dl:d.length=m+3
 dr:∀v,v<m+3->d[f v]? = some (T1 (((gst F G m).row v).map f))
 tl:t.length=m
 tr:∀v,3<=v->v<m+3->t[f v-3]? = some [f ((gst F G m).o0 v),f ((gst F G m).o1 v),f ((gst F G m).o2 v)]
def og (t:AA)(c q:Nat):Nat:=((t[q-3]?.getD []))[c]?.getD 0
theorem Nm.lo (N:Nm n f)(h:3<=n)(w:q<n):f q<3↔q<3:=by
 constructor
 .intro hl;have z:=N.c0;have j:=N.c1;have m:=N.c2;rcases (show f q=0\/f q=1\/f q=2 by lia) with e | e | e
  .have:=N.inj q 0 w (by lia) (by lia);lia
  .have:=N.inj q 1 w (by lia) (by lia);lia
  .have:=N.inj q 2 w (by lia) (by lia);lia
 .intro hl;have z:=N.c0;have j:=N.c1;have m:=N.c2;rcases (show q=0\/q=1\/q=2 by lia) with e | e | e <;> subst e <;> lia
theorem Wy.map {o o':Nat->Nat}{f:Nat->Nat}{n:Nat}(z:∀q,q<n->(f q<3↔q<3))(ho:∀q,3<=q->q<n->o' (f q)=f (o q)){q:Nat}{l:AC}(w:Wy o q l)(j:∀x∈l,x<n):Wy o' (f q) (l.map f):=by
 induction w with
 | @corner q h=>exact .corner ((z q (j q (by simp))).mpr h)
 | @step q l h w ih=>
  have m:=j q (by simp)
  refine .step ?_ ?_
  .have:=z q m;lia
  .rw[ho q h m];exact ih λx Y=>j x (by simp[Y])
theorem aM6 {f:Nat->Nat}{n:Nat}(inj:∀v w,v<n->w<n->f v=f w->v=w){l:AC}(nd:l.Nodup)(j:∀x∈l,x<n):(l.map f).Nodup:=by
 rw[Ac6,Ae0];exact By (λ{a b} m Y z e=>z (inj a b (j a m) (j b Y) e)) (Ac6.mp nd)
theorem Bt.ways (B:Bt F G m f d t)(h3:3<=q)(U:q<m+3):∃t0 t1 t2:AC,Wy (og t 0) q (q::t0)/\Wy (og t 1) q (q::t1)/\Wy (og t 2) q (q::t2) /\
  (∃p,q::t0=p++[0])/\(∃p,q::t1=p++[1])/\(∃p,q::t2=p++[2])/\(q::(t0++(t1++t2))).Nodup/\∀x∈t0++(t1++t2),x<m+3:=by
 obtain⟨v,Y,rfl⟩:=B.N.surj q U;have v3:3<=v:=by have:=B.N.lo (by lia) Y;lia
 obtain⟨t0,t1,t2,w0,w1,w2,⟨p0,D⟩,⟨p1,e1⟩,⟨p2,e2⟩,nd,lt⟩:=cW0 B.R v3 Y;have j:∀q,q<m+3->(f q<3↔q<3):=λq U=>B.N.lo (by lia) U
 have J:∀q,3<=q->q<m+3->og t 0 (f q)=f ((gst F G m).o0 q):=λq h X=>by unfold og;rw[B.tr q h X];rfl
 have M:∀q,3<=q->q<m+3->og t 1 (f q)=f ((gst F G m).o1 q):=λq h X=>by unfold og;rw[B.tr q h X];rfl
 have Q:∀q,3<=q->q<m+3->og t 2 (f q)=f ((gst F G m).o2 q):=λq h X=>by unfold og;rw[B.tr q h X];rfl
 have l0:∀x∈v::t0,x<m+3:=λx w=>by rcases Aa1.mp w with rfl | z;exact Y;exact lt x (by simp[z])
 have l1:∀x∈v::t1,x<m+3:=λx w=>by rcases Aa1.mp w with rfl | z;exact Y;exact lt x (by simp[z])
 have l2:∀x∈v::t2,x<m+3:=λx w=>by rcases Aa1.mp w with rfl | z;exact Y;exact lt x (by simp[z])
 have la:∀x∈v::(t0++(t1++t2)),x<m+3:=λx w=>by rcases Aa1.mp w with rfl | z;exact Y;exact lt x z
 refine⟨t0.map f,t1.map f,t2.map f,w0.map j J l0,w1.map j M l1,w2.map j Q l2,⟨p0.map f,?_⟩,⟨p1.map f,?_⟩,⟨p2.map f,?_⟩,?_,λx w=>?_⟩
 .rw[<- Ac7,D];simp[B.N.c0]
 .rw[<- Ac7,e1];simp[B.N.c1]
 .rw[<- Ac7,e2];simp[B.N.c2]
 .have:=aM6 B.N.inj nd la
  simpa using this
 .rw[<- Ad2,<- Ad2]at w;obtain⟨y,P,rfl⟩:=Aa8.mp w;exact B.N.lt y (lt y P)
section
def trn (d:AA)(q:Nat):AC:=d[q]?.getD []
theorem Bt.good (B:Bt F G m f d t):Good (m+3) (trn d):=by
 refine Good.named (bQ2 B.R) B.N (λv z=>?_) λq w=>?_
 .unfold trn;rw[B.dr v z];rfl
 .unfold trn;rw[Ad6 (by rw[B.dl];exact w)];rfl
def oc (s:S):Nat->Nat->Nat
 | 0=>s.o0
 | 1=>s.o1
 | _=>s.o2
theorem Bt.og (B:Bt F G m f d t)(j:c<3)(w:3<=v)(z:v<m+3):og t c (f v)=f (oc (gst F G m) c v):=by
 unfold TT.og;rw[B.tr v w z];rcases (show c=0\/c=1\/c=2 by lia) with e | e | e <;> subst e <;> rfl
theorem bF9 (j:c<3)(w:3<=v)(z:v<s.k+3):oc s c v∈s.row v:=by
 rw[O6 w z];rcases (show c=0\/c=1\/c=2 by lia) with e | e | e <;> subst e <;> simp[oc]
theorem Bt.out_mem (B:Bt F G m f d t)(z:c<3)(U:3<=q)(X:q<m+3):TT.og t c q∈trn d q/\TT.og t c q<m+3:=by
 obtain⟨v,w,rfl⟩:=B.N.surj q X;have v3:3<=v:=by have:=B.N.lo (by lia) w;lia
 have Y:(gst F G m).k=m:=aQ3 F G m
 have j:TT.og t c (f v)∈trn d (f v):=by
  unfold trn;rw[B.dr v w,B.og z v3 w];exact begun_mem.mpr (Aa8.mpr ⟨_,bF9 z v3 (by rw[Y];exact w),rfl⟩)
 exact⟨j,B.good.lt _ _ j⟩
end
theorem T9 {a b:AC}(h:(a++b).Nodup):∀x,x∈a->x∈b->False:=λx h1 w=>(Aa4.mp h).2.2 x h1 x w rfl
structure dU3 (F G:Nat->Nat)(i:Nat):Prop where
 k:(gst F G i).k=i
 a:F i-pv F i<(gst F G i).path.length
 b:G i-pv G i<((gst F G i).h1 (F i-pv F i)).length
 pl:(gst F G i).path.length<=i+1
 hl:((gst F G i).h1 (F i-pv F i)).length<=i+2
 lo:∀x∈((gst F G i).h1 (F i-pv F i)).take (G i-pv G i),3<=x/\x<i+3
 px:∃x r,(gst F G i).path.drop (F i-pv F i)=x::r/\x<i+3/\((gst F G i).i0 x).length<=i+3
 hy:∃y r,((gst F G i).h1 (F i-pv F i)).drop (G i-pv G i)=y::r/\y<i+3/\((gst F G i).i1 y).length<=i+3
 e0:(gst F G i).i0 (i+3)=[]
 e1:(gst F G i).i1 (i+3)=[]
theorem cQ9 {l:AC}{n:Nat}(nd:l.Nodup)(h:∀x∈l,x<n):l.length<=n:=by
 have:=bC8 nd (m:=List.range n) λx w=>Ab5.mpr (h x w)
 simpa using this
theorem row_len (I:bH9 s)(q:Nat):(s.row q).length<=s.k+3:=cQ9 (I.nd q) (I.lt q)
theorem dH6 (I:bH9 s)(h:q<s.k+3)(z:q≠2)(h1:q≠1):(s.i0 q).length<=s.k+3:=by
 have:=row_len I q
 by_cases w:q=0
 .subst w;rw[aJ2]at this;simp at this;lia
 .rw[O6 (by lia) h]at this;simp at this;lia
theorem dM6 (I:bH9 s)(h:q<s.k+3)(z:q≠2)(w:q≠0):(s.i1 q).length<=s.k+3:=by
 have:=row_len I q
 by_cases h1:q=1
 .subst h1;rw[aW2]at this;simp at this;lia
 .rw[O6 (by lia) h]at this;simp at this;lia
theorem bJ7 (R:Rws F G m)(hi:i<m):dU3 F G i:=by
 have I:=P2 R i (by lia)
 have A:=bD2 R hi
 have f1:=R.f1 i hi
 have f2:=R.f2 i hi
 have g1:=R.g1 i hi
 have g2:=R.g2 i hi
 have h1:=I.p
 have h2:=I.h
 have nd:=I.inv.nd 2
 have lt:=I.inv.lt 2
 rw[aK6]at nd lt;rw[I.k]at lt;have hx1:((gst F G i).h1 (F i-pv F i)).length=(F i-pv F i)+(gst F G i).heap.length:=by
  unfold S.h1;rw[Ab7,Ae1,Ad1];lia
 obtain⟨p,hp⟩:=A.pe;obtain⟨h,hh⟩:=A.he;have e1:(gst F G i).path.drop (F i-pv F i)=p++[0]:=by rw[<- hp];rfl
 have e2:((gst F G i).h1 (F i-pv F i)).drop (G i-pv G i)=h++[1]:=by rw[<- hh];rfl
 have X:∀x,x∈(gst F G i).path\/x∈(gst F G i).heap->x<i+3/\x≠2:=λx hx=>⟨lt x (by rcases hx with hx | hx <;> simp[hx]),(I.inv.bd x hx).1⟩
 have j:∀x∈(gst F G i).h1 (F i-pv F i),x∈(gst F G i).path.take (F i-pv F i)\/x∈(gst F G i).heap:=λx hx=>by
  unfold S.h1 at hx;simpa using hx
 have Y:∀x∈(gst F G i).h1 (F i-pv F i),x∈(gst F G i).path\/x∈(gst F G i).heap:=λx hx=>(j x hx).imp Bh id
 have M:((gst F G i).path.take (F i-pv F i)++(gst F G i).path.drop (F i-pv F i)).Nodup:=by
  rw[Ad3]
  have:=(Aa4.mp nd).1
  exact(List.reverse_perm _).nodup_iff.mp this
 have P:((gst F G i).h1 (F i-pv F i)).Nodup:=by
  unfold S.h1;refine Aa4.mpr ⟨?_,(Aa4.mp nd).2.1,λx hx y hy e=>?_⟩
  .exact(List.reverse_perm _).nodup_iff.mpr (Aa4.mp M).1
  .subst e;exact T9 nd x (by simpa using Bh (Bi.mp hx)) hy
 refine⟨I.k,by lia,by lia,by lia,by lia,λx hx=>?_,?_,?_,?_,?_⟩
 .have Q:=Bh hx
  obtain⟨J,D⟩:=X x (Y x Q);refine⟨?_,J⟩;have n1:x≠1:=λe=>by
   subst e;have nd':=P;rw[<- Ad3 (G i-pv G i) ((gst F G i).h1 (F i-pv F i))]at nd';exact T9 nd' 1 hx (by rw[e2];simp)
  have n0:x≠0:=λe=>by
   subst e;have z:0∈(gst F G i).path.drop (F i-pv F i):=by rw[e1];simp
   rcases j 0 Q with w | w
   .exact T9 M 0 w z
   .exact T9 nd 0 (by simpa using Cq z) w
  lia
 .cases U:(gst F G i).path.drop (F i-pv F i) with
  | nil=>rw[e1]at U;simp at U
  | cons x r=>
   have N:x∈(gst F G i).path:=Cq (by rw[U];simp:x∈(gst F G i).path.drop (F i-pv F i))
   obtain⟨J,D⟩:=X x (.inl N);refine⟨x,r,rfl,J,?_⟩;have n1:x≠1:=λe=>by
    subst e;obtain⟨h',B⟩:=I.inv.he;exact T9 nd 1 (by simpa using N) (by rw[B];simp)
   have:=dH6 I.inv (q:=x) (by rw[I.k];exact J) D n1
   rwa [I.k]at this
 .cases U:((gst F G i).h1 (F i-pv F i)).drop (G i-pv G i) with
  | nil=>rw[e2]at U;simp at U
  | cons y r=>
   have N:y∈(gst F G i).h1 (F i-pv F i):=Cq (by rw[U];simp:y∈((gst F G i).h1 (F i-pv F i)).drop (G i-pv G i))
   obtain⟨J,D⟩:=X y (Y y N);refine⟨y,r,rfl,J,?_⟩;have n0:y≠0:=λe=>by
    subst e;have z:0∈(gst F G i).path.drop (F i-pv F i):=by rw[e1];simp
    rcases j 0 N with w | w
    .exact T9 M 0 w z
    .exact T9 nd 0 (by simpa using Cq z) w
   have:=dM6 I.inv (q:=y) (by rw[I.k];exact J) D n0
   rwa [I.k]at this
 .exact(I.inv.emp (i+3) (by rw[I.k];lia)).1
 .exact(I.inv.emp (i+3) (by rw[I.k];lia)).2
theorem cG5 (R:Rws F G m):∀i,i<=m->(gst F G i).i2 2=[]
 | 0,_=>rfl
 | i+1,h=>by
  show put (gst F G i).i2 ((gst F G i).k+3) (((gst F G i).h1 (F i-pv F i)).take (G i-pv G i)) 2=[]
  rw[C1 (by lia)]
  exact cG5 R i (by lia)
end TT
namespace LV
open PySem L2
theorem cS8 {K:Frag}{ρ:List Sl}(w:List Sl){c:TT}{t u:TS}{b:Bool}{R:AE}(h:T K c ρ b)(h1:b=true->W K t ρ {R with nx:=λr=>r=w})(m:b=false->W K u ρ {R with nx:=λr=>r=w})(j:R.nx w):W K (cH6 c t u) ρ R:=
 U8 h (λe=>(h1 e).weak (λr z=>by rw[z];exact j) (λ_ z=>z) (λ_ z=>z) (λ_ z=>z) (λ_ z=>z)) (λe=>(m e).weak (λr z=>by rw[z];exact j) (λ_ z=>z) (λ_ z=>z) (λ_ z=>z) (λ_ z=>z))
def Sl.nb:Sl->Bool
 | .bor _=>false
 | _=>true
theorem o6:O0 (x::r)=(x.nb&&O0 r):=by cases x <;> rfl
theorem U0 (h:(U4 0 n)[i]? = some d):d=.int (i:Int)/\i<n:=by
 unfold U4 at h;have w:=(Ab0.mp h).1;have w:i<n:=by simpa using w
 rw[Aa9,List.getElem?_range w]at h;refine⟨?_,w⟩
 have:=(Ab4 h).symm
 simpa using this
theorem O8:(U4 lo n).length=n:=by simp[U4]
def nI (l:AC):AF:=l.map λ(x:Nat)=>PyData.int (x:Int)
def lN (l:AC):PyData:=.list (nI l)
def oN (l:AC):OT:=.lst (l.map λ(x:Nat)=>OT.leaf (.int (x:Int)))
def fl (F:Nat->Nat)(m:Nat):AD:=(List.range m).map λi=>(F i:Int)
def M6 (k:Nat)(o0 o1 o2:Nat->Nat):OT:=.lst ((List.range k).map λj=>oN [o0 (j+3),o1 (j+3),o2 (j+3)])
def G3 (n:Nat)(i0 i1 i2:Nat->AC):OT:=.lst ((List.range n).map λq=>.tup [oN (i0 q),oN (i1 q),oN (i2 q)])
theorem F7 (l:AC):(nI l).length=l.length:=by simp[nI]
theorem K9 (l:AC):K6 (nI l)=true:=U9 (λ_=>rfl) l
theorem aG7 (l l':AC):nI (l++l')=nI l++nI l':=by simp[nI]
theorem dN8 (l:AC):nI l.reverse=(nI l).reverse:=by simp[nI]
theorem bW2 (l:AC):(oN l).data=lN l:=by
 unfold oN lN nI;simp only[OT.data];rw[aC9 (g:=λx:Nat=>PyData.int (x:Int)) (λ_=>rfl)]
theorem cE7 (k:Nat)(o0 o1 o2:Nat->Nat):(M6 k o0 o1 o2).data=.list ((List.range k).map λj=>lN [o0 (j+3),o1 (j+3),o2 (j+3)]):=by
 unfold M6;simp only[OT.data];rw[aC9 (λj=>bW2 _)]
theorem cF6 (n:Nat)(i0 i1 i2:Nat->AC):(G3 n i0 i1 i2).data=.list ((List.range n).map λq=>.tuple [lN (i0 q),lN (i1 q),lN (i2 q)]):=by
 unfold G3;simp only[OT.data];rw[aC9 (g:=λq=>PyData.tuple [lN (i0 q),lN (i1 q),lN (i2 q)]) (λq=>by simp only[OT.data,OT.datas,bW2])]
theorem bZ4 (h:i<m):atI ((fl F m).map PyData.int) (i:Int)=some (.int (F i:Int)):=U1 i rfl (by simp[fl,h])
theorem P7 (h:q<n):((List.range n).map f)[q]? = some (f q):=by simp[h]
theorem Z5 (m:q<n)(h1:h (f q)=g q)(Y:∀j,j≠q->f j=g j):((List.range n).map f).modify q h=(List.range n).map g:=by
 rw[R4 (P7 m),h1];refine List.ext_getElem? λj=>?_
 rw[List.getElem?_set];by_cases e:q=j
 .subst e;simp[m]
 .rw[Ab e];by_cases w:j<n
  .rw[P7 w,P7 w,Y j (λz=>e z.symm)]
  .rw[Ad6 (by simp;lia),Ad6 (by simp;lia)]
section
theorem aF7 (h:q<n):(G3 n i0 i1 i2).at [q]=some (.tup [oN (i0 q),oN (i1 q),oN (i2 q)]):=by
 show((G3 n i0 i1 i2).kids[q]?).bind _=_
 unfold G3;simp only[OT.kids];rw[P7 h];rfl
theorem cU6 (h:q<n):(G3 n i0 i1 i2).at ([q]++[0])=some (oN (i0 q)):=by rw[aK5 (aF7 h)];rfl
theorem cV4 (h:q<n):(G3 n i0 i1 i2).at ([q]++[1])=some (oN (i1 q)):=by rw[aK5 (aF7 h)];rfl
theorem cA5 (h:q<n):(G3 n i0 i1 i2).at ([q]++[2])=some (oN (i2 q)):=by rw[aK5 (aF7 h)];rfl
theorem dG3 (h:j<k):(M6 k o0 o1 o2).at [j]=some (oN [o0 (j+3),o1 (j+3),o2 (j+3)]):=by
 show((M6 k o0 o1 o2).kids[j]?).bind _=_
 unfold M6;simp only[OT.kids];rw[P7 h];rfl
theorem cJ7 (h:q<n)(l:AC):(G3 n i0 i1 i2).put ([q]++[0]) (oN l)=G3 n (TT.put i0 q l) i1 i2:=by
 unfold G3;rw[List.singleton_append,OT.put_lst]
 congr 1
 refine Z5 h ?_ λj w=>by simp only[TT.C1 w]
 rw[OT.put_tup,TT.B8];rfl
theorem cG6 (h:q<n)(l:AC):(G3 n i0 i1 i2).put ([q]++[1]) (oN l)=G3 n i0 (TT.put i1 q l) i2:=by
 unfold G3;rw[List.singleton_append,OT.put_lst]
 congr 1
 refine Z5 h ?_ λj w=>by simp only[TT.C1 w]
 rw[OT.put_tup,TT.B8];rfl
theorem cT8 (h:q<n)(l:AC):(G3 n i0 i1 i2).put ([q]++[2]) (oN l)=G3 n i0 i1 (TT.put i2 q l):=by
 unfold G3;rw[List.singleton_append,OT.put_lst]
 congr 1
 refine Z5 h ?_ λj w=>by simp only[TT.C1 w]
 rw[OT.put_tup,TT.B8];rfl
theorem cZ3 (h:j<k)(c:Nat):(M6 k o0 o1 o2).put [j] (oN [o0 (j+3),o1 (j+3),c])=M6 k o0 o1 (TT.put o2 (j+3) c):=by
 unfold M6;rw[OT.put_lst]
 congr 1
 refine Z5 h ?_ λi hi=>by simp only[TT.C1 (show i+3≠j+3 by lia)]
 rw[OT.put_nil,TT.B8]
theorem bE3 (l:AC)(x:Nat):OT.lst ((l.map λ(x:Nat)=>OT.leaf (.int (x:Int)))++[.leaf (.int (x:Int))])=oN (l++[x]):=by simp[oN]
theorem cL1 (h:q<n)(x:Nat):(G3 n i0 i1 i2).put ([]++[q]++[0]) (.lst (((i0 q).map λ(x:Nat)=>OT.leaf (.int (x:Int)))++[.leaf (.int (x:Int))]))=G3 n (TT.put i0 q (i0 q++[x])) i1 i2:=by
 rw[bE3];exact cJ7 h _
theorem cJ5 (h:q<n)(x:Nat):(G3 n i0 i1 i2).put ([]++[q]++[1]) (.lst (((i1 q).map λ(x:Nat)=>OT.leaf (.int (x:Int)))++[.leaf (.int (x:Int))]))=G3 n i0 (TT.put i1 q (i1 q++[x])) i2:=by
 rw[bE3];exact cG6 h _
theorem bM4 (h:q<n)(x:Nat):(G3 n i0 i1 i2).put ([]++[q]++[2]) (.lst (((i2 q).map λ(x:Nat)=>OT.leaf (.int (x:Int)))++[.leaf (.int (x:Int))]))=G3 n i0 i1 (TT.put i2 q (i2 q++[x])):=by
 rw[bE3];exact cT8 h _
theorem bY4:TT.put (TT.put f q a) q b=TT.put f q b:=by
 funext x;by_cases e:x=q
 .rw[e,TT.B8,TT.B8]
 .rw[TT.C1 e,TT.C1 e,TT.C1 e]
theorem cZ1:OT.lst (((List.range n).map λq=>OT.tup [oN (i0 q),oN (i1 q),oN (i2 q)])++[.tup [.lst [],.lst [],.lst []]])=G3 (n+1) (TT.put i0 n []) (TT.put i1 n []) (TT.put i2 n []):=by
 unfold G3;rw[Ce,Ad2]
 congr 2
 .refine Bg λa w=>?_
  have:=Ab5.mp w
  rw[TT.C1 (by lia),TT.C1 (by lia),TT.C1 (by lia)]
 .simp[TT.B8,oN]
theorem dA4 (a b c:Nat):OT.lst (((List.range k).map λj=>oN [o0 (j+3),o1 (j+3),o2 (j+3)])++[.lst [.leaf (.int (a:Int)),.leaf (.int (b:Int)),.leaf (.int (c:Int))]])=M6 (k+1) (TT.put o0 (k+3) a) (TT.put o1 (k+3) b) (TT.put o2 (k+3) c):=by
 unfold M6;rw[Ce,Ad2]
 congr 2
 .refine Bg λx w=>?_
  have:=Ab5.mp w
  rw[TT.C1 (by lia),TT.C1 (by lia),TT.C1 (by lia)]
 .simp[TT.B8,oN]
end
theorem aI9 (h:q<n):atI ((List.range n).map f) (q:Int)=some (f q):=U1 q rfl (P7 h)
theorem cZ5 {p h:AC}{s:TT.S}(e1:s.path=p++[0])(e2:s.heap=h++[1]):s.row 2=0::(p.reverse++h)++[1]:=by
 rw[TT.aK6,e1,e2];simp
section
theorem R8 (w:E K false ta ρ (lN l))(z:E K false tb ρ (lN l'))(j:l.length+l'.length<=100000):EF K (tOp (cR0 K) ta tb) ρ (nI (l++l')):=by
 rw[aG7];exact aG9 w z (K9 l) (K9 l') (by rw[F7,F7];unfold sizeLine;lia)
theorem cC3 (w:E K false ta ρ (lN l)):EF K (bW8 K ta) ρ (nI l.reverse):=by
 rw[dN8];exact dK2 w (K9 l)
theorem EF.toN (h:EF K t ρ (nI l))(e:l=l'):E K m t ρ (lN l'):=by subst e;exact EF.e' h
end
end LV
set_option maxHeartbeats 4000000
namespace L2
open PySem PySem.Spec PyProof.Rows
section
theorem psS (i:Nat){N P:AH}{sc:Scope}{x:Str}{e:Expr}{te:TE}{pos' pos:Pos}(S:C2 N P sc)(w:PE X e te)(hN:X.N=N:=by rfl)(hi:N[i]? = some x:=by rfl)(m:Loc X.env.scope x:=by exact Or.inl rfl)(j:swapsWith e (some (.Name x pos')) pos.line X.env=pure false:=by rfl)(z:X.fn x=true\/X.env.scope.names.lookup x=some .local:=by first | exact .inl rfl | exact .inr rfl | assumption):PS X (.Assign [.Name x pos'] e pos) (aP5 te (F5 i)):=by
 subst hN;exact aO3 S.nd hi m w j z
theorem pgN (i:Nat){N P:AH}{sc:Scope}{x:Str}{pos:Pos}(S:C2 N P sc)(hN:X.N=N:=by rfl)(hi:N[i]? = some x:=by rfl)(z:Loc X.env.scope x:=by exact Or.inl rfl)(w:X.fn x=true\/X.env.scope.names.lookup x=some .local:=by first | exact .inl rfl | exact .inr rfl | assumption):PG X (.Name x pos) (F5 i):=by
 subst hN;exact E9 S.nd hi z w
end
end L2
namespace LV
open PySem L2
section
theorem v0:E K m (C4 0) (.val d::ρ) d:=A9 rfl
theorem v1:E K m (C4 1) (a :: .val d::ρ) d:=A9 rfl
theorem v2:E K m (C4 2) (a::b :: .val d::ρ) d:=A9 rfl
theorem v3:E K m (C4 3) (a::b::c :: .val d::ρ) d:=A9 rfl
theorem v4:E K m (C4 4) (a::b::c::e :: .val d::ρ) d:=A9 rfl
theorem v5:E K m (C4 5) (a::b::c::e::f :: .val d::ρ) d:=A9 rfl
theorem v6:E K m (C4 6) (a::b::c::e::f::g :: .val d::ρ) d:=A9 rfl
theorem v7:E K m (C4 7) (a::b::c::e::f::g::h :: .val d::ρ) d:=A9 rfl
theorem v8:E K m (C4 8) (a::b::c::e::f::g::h::i :: .val d::ρ) d:=A9 rfl
end
abbrev vI (i:Int):Sl:=.val (.int i)
end LV
namespace K39
open PySem L2 LV PyProof.Rows
theorem W3 {K:Frag}{pre:AF->PyData->Prop}{n:Nat}(h:∀ds d,pre ds d->ds.length=n):∀vs H Q E,spV K pre vs H Q E->vs.length=n:=by
 rintro vs H Q E ⟨ds,S,d,_,r,p,_⟩;have e:=r.length;rw[e];exact h ds d p
@[elab_as_elim] theorem us1 {M:AG->Prop} {us:AG} (hl:us.length=1) (h:∀w,M [w]):M us:=by rcases us with _ | ⟨_,_ | ⟨_,_⟩⟩ <;> first | exact h _ | cases hl
@[elab_as_elim] theorem us2 {M:AG->Prop} {us:AG} (hl:us.length=2) (h:∀w z,M [w,z]):M us:=by rcases us with _ | ⟨_,_ | ⟨_,_ | ⟨_,_⟩⟩⟩ <;> first | exact h _ _ | cases hl
@[elab_as_elim] theorem us3 {M:AG->Prop} {us:AG} (hl:us.length=3) (h:∀w z j,M [w,z,j]):M us:=by rcases us with _ | ⟨_,_ | ⟨_,_ | ⟨_,_ | ⟨_,_⟩⟩⟩⟩ <;> first | exact h _ _ _ | cases hl
@[elab_as_elim] theorem us4 {M:AG->Prop} {us:AG} (hl:us.length=4) (h:∀w z j m,M [w,z,j,m]):M us:=by rcases us with _ | ⟨_,_ | ⟨_,_ | ⟨_,_ | ⟨_,_ | ⟨_,_⟩⟩⟩⟩⟩ <;> first | exact h _ _ _ _ | cases hl
def top (i:Nat):Stmt:=PySem.Challenge.pw_threetrees_k39_whole_ways.main.body.getD i (.Pass ⟨0,0,0,0⟩)
abbrev p5:Stmt:=top 6
abbrev Q4:Stmt:=top 7
abbrev t7:Stmt:=top 8
abbrev aG5:Stmt:=top 9
abbrev o8:Stmt:=top 10
abbrev u7:Stmt:=top 11
abbrev bR1:Stmt:=top 12
abbrev aO4:Stmt:=top 13
abbrev bI9:Stmt:=top 14
abbrev i5:Stmt:=top 15
abbrev Y2:Stmt:=top 16
abbrev aC0:Stmt:=top 17
abbrev l7:Stmt:=top 18
abbrev aA8:Stmt:=top 20
abbrev aU7:Stmt:=top 21
abbrev aO1:Stmt:=top 22
abbrev aG4:Stmt:=top 23
abbrev bI7:Stmt:=top 24
abbrev aV7:Stmt:=top 25
abbrev W1:Stmt:=top 27
abbrev i7:Stmt:=top 29
abbrev X7:Stmt:=top 31
abbrev l9:Stmt:=top 32
abbrev s9:Stmt:=top 33
abbrev t8:Stmt:=top 34
abbrev l8:Stmt:=top 35
abbrev m5:Stmt:=top 36
abbrev p4:Stmt:=top 37
abbrev X6:Stmt:=top 38
abbrev e8:Stmt:=top 39
abbrev Q5:Stmt:=top 40
abbrev Q6:Stmt:=top 41
abbrev u5:Stmt:=top 42
abbrev O4:Stmt:=top 43
abbrev V6:Stmt:=top 44
abbrev X9:Stmt:=top 45
abbrev aG3:Stmt:=top 46
abbrev e6:Stmt:=top 47
abbrev cN2:Stmt:=top 48
set_option genInjectivity false in
structure Ad where
 aI2:Addr
 aN3:FuncData
 Z4:Addr
 Y8:FuncData
 aK4:Addr
 aH9:FuncData
 aU1:Addr
 aW9:FuncData
 aN2:Addr
 aH5:FuncData
 aJ4:Addr
 aL7:FuncData
 cN6:Addr
 cQ1:FuncData
 bD4:Addr
 bC0:FuncData
 bW9:Addr
 bZ1:FuncData
 aD7:Addr
 aE4:FuncData
 aA6:Addr
 aA9:FuncData
 aQ7:Addr
 aQ1:FuncData
 aL3:Addr
 aK1:FuncData
 aQ0:Addr
 aQ2:FuncData
 bO6:Addr
 bQ9:FuncData
 bD9:Addr
 bD7:FuncData
 aW4:Addr
 aY8:FuncData
 bX2:Addr
 cB6:FuncData
 bN6:Addr
 bO0:FuncData
 y0:Addr
 y2:FuncData
 aF1:Addr
 aE8:FuncData
 aA2:Addr
 aA4:FuncData
 aI0:Addr
 aI4:FuncData
 aJ9:Addr
 aN0:FuncData
 aL0:Addr
 aL9:FuncData
 aK7:Addr
 aJ6:FuncData
 aL4:Addr
 aL5:FuncData
 aI5:Addr
 aH6:FuncData
 aA5:Addr
 aB8:FuncData
 aE1:Addr
 aE9:FuncData
 X3:Addr
 Y5:FuncData
 X2:Addr
 X8:FuncData
 aK2:Addr
 aM8:FuncData
 U7:Addr
 V5:FuncData
 w4:Addr
 y7:FuncData
 aC1:Addr
 aB1:FuncData
 aY5:Addr
 aU4:FuncData
 aD9:Addr
 aE7:FuncData
 cA2:Addr
 bO7:FuncData
structure Fx (K:Frag)(mg:Str->Option Value)(n:Str)(st:Stmt)(f:Addr)(d:FuncData)(ps:AH):Prop where
 F:Fun K n n st f d
 m:mg n=some (.ref f)
 b:Binds K d ps []
section
theorem pcl {k j:Nat}{f:Addr}{fd:FuncData}{ps:AH}{sp:Sp}{x:Str}{st:Stmt}{e:Expr}{es:AM}{t:TA}{p pos:Pos}(G:K3 X.prog X.w X.K X.mg X.base CX0 k f fd ps sp)(R:Room j X.A)(F:Fx X.K X.mg x st f fd ps)(U:PA X (e::es) t)(N:k<=j:=by decide)(M:Gl X x:=by rfl)
  (z:(x==("__debug__" : Str))=false:=by decide) (J:starEach (e::es) X.env=(false,eval e X.env)::starEach es X.env:=by rfl) (Y:(backTo pos (starEach es X.env)).any (·.1)=false:=by rfl):PE X (.Call (.Name x p) (e::es) [] pos) (Y7 sp [] E0 t):=dB3 G (R.mono N) M F.m F.F.kp F.b .nil dT0 U z J Y
end
set_option genInjectivity false in
structure Tx (K:Frag)(mg:Str->Option Value)(a:Ad):Prop where
 aM4:Fx K mg "begun_with" p5 a.aI2 a.aN3 ["ring", "first"]
 Y3:Fx K mg "begun_with_least" Q4 a.Z4 a.Y8 ["ring"]
 P0:Fx K mg "ways_round" t7 a.aK4 a.aH9 ["ring"]
 aG1:Fx K mg "ahead_in" aG5 a.aU1 a.aW9 ["turn", "place"]
 aJ1:Fx K mg "round_from" o8 a.aN2 a.aH5 ["turns", "p", "q"]
 aI7:Fx K mg "all_rounds" u7 a.aJ4 a.aL7 ["turns"]
 bT4:Fx K mg "tied" bR1 a.cN6 a.cQ1 ["drawing", "p", "q"]
 bA8:Fx K mg "left_of" aO4 a.bD4 a.bC0 ["drawing", "p", "q"]
 bX8:Fx K mg "lands" bI9 a.bW9 a.bZ1 ["drawing"]
 aD6:Fx K mg "inner_lands" i5 a.aD7 a.aE4 ["drawing"]
 S8:Fx K mg "land_left_of" Y2 a.aA6 a.aA9 ["drawing", "p", "q"]
 aQ9:Fx K mg "crossings" aC0 a.aQ7 a.aQ1 ["drawing", "first", "shut"]
 aK3:Fx K mg "lands_from" l7 a.aL3 a.aK1 ["drawing", "first", "shut"]
 aB5:Fx K mg "ring_ways" aA8 a.aQ0 a.aQ2 ["drawing", "ring"]
 bK9:Fx K mg "inside" aU7 a.bO6 a.bQ9 ["drawing", "ring"]
 bA7:Fx K mg "is_left" aO1 a.bD9 a.bD7 ["drawing", "ring"]
 aG6:Fx K mg "go_round" aG4 a.aW4 a.aY8 ["arrows", "ring"]
 bX9:Fx K mg "rings" bI7 a.bX2 a.cB6 ["drawing", "arrows"]
 bP0:Fx K mg "turned" aV7 a.bN6 a.bO0 ["drawing", "arrows", "ring"]
 W2:Fx K mg "turned_to_end" W1 a.y0 a.y2 ["drawing", "arrows", "left"]
 P8:Fx K mg "way_between" i7 a.aF1 a.aE8 ["drawing", "one", "other"]
 M8:Fx K mg "_law_cell_at" X7 a.aA2 a.aA4 ["_law_script", "_law_k"]
 N3:Fx K mg "_law_mixed" l9 a.aI0 a.aI4 ["_law_cell", "_law_k"]
 aH2:Fx K mg "_law_names" s9 a.aJ9 a.aN0 ["_law_cell", "_law_m"]
 aJ5:Fx K mg "_law_grown" t8 a.aL0 a.aL9 ["_law_first", "_law_second"]
 o9:Fx K mg "_law_begun" l8 a.aK7 a.aJ6 ["_law_turn"]
 aM3:Fx K mg "_law_built" m5 a.aL4 a.aL5 ["_law_cell", "_law_cells", "_law_m"]
 aN1:Fx K mg "_law_whole" p4 a.aI5 a.aH6 ["_law_found"]
 aB4:Fx K mg "_law_rows_of" X6 a.aA5 a.aB8 ["_law_found", "_law_many"]
 aF0:Fx K mg "_law_arrows" e8 a.aE1 a.aE9 ["_law_outs"]
 Q7:Fx K mg "_law_arrow_rings" Q5 a.X3 a.Y5 ["_law_arrows_here"]
 N1:Fx K mg "_law_ring_turned" Q6 a.X2 a.X8 ["_law_arrows_here", "_law_ring"]
 v9:Fx K mg "_law_moved" u5 a.aK2 a.aM8 ["_law_arrows_here", "_law_cells"]
 V3:Fx K mg "_law_lands_at_left" O4 a.U7 a.V5 ["_law_drawing"]
 w5:Fx K mg "_law_due_step" V6 a.w4 a.y7 ["_law_one", "_law_other", "_law_way"]
 Z3:Fx K mg "_law_heights" X9 a.aC1 a.aB1 ["_law_drawing", "_law_one", "_law_other"]
 aH0:Fx K mg "_law_end" aG3 a.aY5 a.aU4 ["_law_drawing", "_law_arrows_here", "_law_lift"]
 Q1:Fx K mg "_law_walked" e6 a.aD9 a.aE7 ["_law_drawing", "_law_one", "_law_other", "_law_found"]
 dC4:Fx K mg "law" cN2 a.cA2 a.bO7 ["_law_script"]
 aJ8:mg "ValueError" = none
 bM8:mg "all" = none
 bU7:mg "bool" = none
 a9:mg "enumerate" = none
 bN8:mg "int" = none
 N4:mg "isinstance" = none
 O3:mg "len" = none
 aG0:mg "list" = none
 cJ6:mg "max" = none
 bZ8:mg "min" = none
 L9:mg "range" = none
 Z1:mg "reversed" = none
 N8:mg "sorted" = none
 P1:mg "tuple" = none
 W7:∃ad,mg "OUTER_LAND" = some (.ref ad)/\∀H,SqT K H ad [.int 0,.int 2,.int 1]
structure Fq (K:Frag)(n:Str)(st:Stmt)(f:Addr)(d:FuncData):Prop where
 a:PySem.W.nsIn K mainGlobals n=some (some (.ref f))
 F:Fun K n n st f d
theorem Fq.fx1 {K:Frag}{h:Heap}{mg:Str->Option Value}{n x0:Str}{st:Stmt}{f:Addr}{d:FuncData}(q:Fq K n st f d)(X:K.In h)(G:h.Ns mainGlobals mg)(w:∀(kV doc pm:Value) (an:AK) (cdv ct u0:Value),bindArgs (PySem.W.fnOf n n (a8 st) (W5 st) (B3 st) .none kV doc pm an cdv ct) ⟨[u0],[]⟩=pure [(x0,u0)]:=by intros;rfl):Fx K mg n st f d [x0]:=⟨q.F,Dt X G q.a,q.F.binds λ_ _ _ _ _ _ j z=>us1 z λu0=>w _ _ _ _ _ _ u0⟩
theorem Fq.fx2 {K:Frag}{h:Heap}{mg:Str->Option Value}{n x0 x1:Str}{st:Stmt}{f:Addr}{d:FuncData}(q:Fq K n st f d)(X:K.In h)(G:h.Ns mainGlobals mg)(w:∀(kV doc pm:Value) (an:AK) (cdv ct u0 u1:Value),bindArgs (PySem.W.fnOf n n (a8 st) (W5 st) (B3 st) .none kV doc pm an cdv ct) ⟨[u0,u1],[]⟩=pure [(x0,u0),(x1,u1)]:=by intros;rfl):Fx K mg n st f d [x0,x1]:=⟨q.F,Dt X G q.a,q.F.binds λ_ _ _ _ _ _ j z=>us2 z λu0 u1=>w _ _ _ _ _ _ u0 u1⟩
theorem Fq.fx3 {K:Frag}{h:Heap}{mg:Str->Option Value}{n x0 x1 x2:Str}{st:Stmt}{f:Addr}{d:FuncData}(q:Fq K n st f d)(X:K.In h)(G:h.Ns mainGlobals mg)(w:∀(kV doc pm:Value) (an:AK) (cdv ct u0 u1 u2:Value),bindArgs (PySem.W.fnOf n n (a8 st) (W5 st) (B3 st) .none kV doc pm an cdv ct) ⟨[u0,u1,u2],[]⟩=pure [(x0,u0),(x1,u1),(x2,u2)]:=by intros;rfl):Fx K mg n st f d [x0,x1,x2]:=⟨q.F,Dt X G q.a,q.F.binds λ_ _ _ _ _ _ j z=>us3 z λu0 u1 u2=>w _ _ _ _ _ _ u0 u1 u2⟩
theorem Fq.fx4 {K:Frag}{h:Heap}{mg:Str->Option Value}{n x0 x1 x2 x3:Str}{st:Stmt}{f:Addr}{d:FuncData}(q:Fq K n st f d)(X:K.In h)(G:h.Ns mainGlobals mg)(w:∀(kV doc pm:Value) (an:AK) (cdv ct u0 u1 u2 u3:Value),bindArgs (PySem.W.fnOf n n (a8 st) (W5 st) (B3 st) .none kV doc pm an cdv ct) ⟨[u0,u1,u2,u3],[]⟩=pure [(x0,u0),(x1,u1),(x2,u2),(x3,u3)]:=by intros;rfl):Fx K mg n st f d [x0,x1,x2,x3]:=⟨q.F,Dt X G q.a,q.F.binds λ_ _ _ _ _ _ j z=>us4 z λu0 u1 u2 u3=>w _ _ _ _ _ _ u0 u1 u2 u3⟩
set_option maxHeartbeats 4000000 in
theorem tx_mk {K:Frag}{h:Heap}{mg:Str->Option Value}{f0 f1 f2 f3 f4 f5 f6 f7 f8 f9 f10 f11 f12 f13 f14 f15 f16 f17 f18 f19 f20 f21 f22 f23 f24 f25 f26 f27 f28 f29 f30 f31 f32 f33 f34 f35 f36 f37 f38:Addr}(X:K.In h)(G:h.Ns mainGlobals mg)
  {d0:FuncData} (q0:Fq K "begun_with" p5 f0 d0)
  {d1:FuncData} (q1:Fq K "begun_with_least" Q4 f1 d1)
  {d2:FuncData} (q2:Fq K "ways_round" t7 f2 d2)
  {d3:FuncData} (q3:Fq K "ahead_in" aG5 f3 d3)
  {d4:FuncData} (q4:Fq K "round_from" o8 f4 d4)
  {d5:FuncData} (q5:Fq K "all_rounds" u7 f5 d5)
  {d6:FuncData} (q6:Fq K "tied" bR1 f6 d6)
  {d7:FuncData} (q7:Fq K "left_of" aO4 f7 d7)
  {d8:FuncData} (q8:Fq K "lands" bI9 f8 d8)
  {d9:FuncData} (q9:Fq K "inner_lands" i5 f9 d9)
  {d10:FuncData} (R:Fq K "land_left_of" Y2 f10 d10)
  {d11:FuncData} (Q:Fq K "crossings" aC0 f11 d11)
  {d12:FuncData} (D:Fq K "lands_from" l7 f12 d12)
  {d13:FuncData} (B:Fq K "ring_ways" aA8 f13 d13)
  {d14:FuncData} (P:Fq K "inside" aU7 f14 d14)
  {d15:FuncData} (q15:Fq K "is_left" aO1 f15 d15)
  {d16:FuncData} (q16:Fq K "go_round" aG4 f16 d16)
  {d17:FuncData} (q17:Fq K "rings" bI7 f17 d17)
  {d18:FuncData} (q18:Fq K "turned" aV7 f18 d18)
  {d19:FuncData} (q19:Fq K "turned_to_end" W1 f19 d19)
  {d20:FuncData} (q20:Fq K "way_between" i7 f20 d20)
  {d21:FuncData} (q21:Fq K "_law_cell_at" X7 f21 d21)
  {d22:FuncData} (q22:Fq K "_law_mixed" l9 f22 d22)
  {d23:FuncData} (q23:Fq K "_law_names" s9 f23 d23)
  {d24:FuncData} (q24:Fq K "_law_grown" t8 f24 d24)
  {d25:FuncData} (q25:Fq K "_law_begun" l8 f25 d25)
  {d26:FuncData} (q26:Fq K "_law_built" m5 f26 d26)
  {d27:FuncData} (q27:Fq K "_law_whole" p4 f27 d27)
  {d28:FuncData} (q28:Fq K "_law_rows_of" X6 f28 d28)
  {d29:FuncData} (q29:Fq K "_law_arrows" e8 f29 d29)
  {d30:FuncData} (q30:Fq K "_law_arrow_rings" Q5 f30 d30)
  {d31:FuncData} (q31:Fq K "_law_ring_turned" Q6 f31 d31)
  {d32:FuncData} (q32:Fq K "_law_moved" u5 f32 d32)
  {d33:FuncData} (q33:Fq K "_law_lands_at_left" O4 f33 d33)
  {d34:FuncData} (q34:Fq K "_law_due_step" V6 f34 d34)
  {d35:FuncData} (q35:Fq K "_law_heights" X9 f35 d35)
  {d36:FuncData} (q36:Fq K "_law_end" aG3 f36 d36)
  {d37:FuncData} (q37:Fq K "_law_walked" e6 f37 d37)
  {d38:FuncData} (z:Fq K "law" cN2 f38 d38)
  (m:PySem.W.nsIn K mainGlobals "ValueError" = some none)
  (Y:PySem.W.nsIn K mainGlobals "all" = some none)
  (J:PySem.W.nsIn K mainGlobals "bool" = some none)
  (a9:PySem.W.nsIn K mainGlobals "enumerate" = some none)
  (U:PySem.W.nsIn K mainGlobals "int" = some none)
  (N4:PySem.W.nsIn K mainGlobals "isinstance" = some none)
  (O3:PySem.W.nsIn K mainGlobals "len" = some none)
  (j:PySem.W.nsIn K mainGlobals "list" = some none)
  (N:PySem.W.nsIn K mainGlobals "max" = some none)
  (M:PySem.W.nsIn K mainGlobals "min" = some none)
  (L9:PySem.W.nsIn K mainGlobals "range" = some none)
  (Z1:PySem.W.nsIn K mainGlobals "reversed" = some none)
  (N8:PySem.W.nsIn K mainGlobals "sorted" = some none)
  (P1:PySem.W.nsIn K mainGlobals "tuple" = some none)
  {c_OUTER_LAND:Addr} (W7:PySem.W.nsIn K mainGlobals "OUTER_LAND" = some (some (.ref c_OUTER_LAND))) {t0_OUTER_LAND t1_OUTER_LAND t2_OUTER_LAND:Tok} {q_OUTER_LAND:Nat} {sl_OUTER_LAND:Array (Option Value)} (w:K.lookup c_OUTER_LAND=some ⟨.type "tuple",none,.seq #[.int 0 t0_OUTER_LAND,.int 2 t1_OUTER_LAND,.int 1 t2_OUTER_LAND] q_OUTER_LAND,sl_OUTER_LAND⟩)
  : ∃a:Ad,Tx K mg a/\a.cA2=f38/\∀(s:Shared) (v:Value),BindsTo s a.bO7 ⟨[v],[]⟩ [("_law_script",v)]:=by
 refine⟨⟨f0,d0,f1,d1,f2,d2,f3,d3,f4,d4,f5,d5,f6,d6,f7,d7,f8,d8,f9,d9,f10,d10,f11,d11,f12,d12,f13,d13,f14,d14,f15,d15,f16,d16,f17,d17,f18,d18,f19,d19,f20,d20,f21,d21,f22,d22,f23,d23,f24,d24,f25,d25,f26,d26,f27,d27,f28,d28,f29,d29,f30,d30,f31,d31,f32,d32,f33,d33,f34,d34,f35,d35,f36,d36,f37,d37,f38,d38⟩,⟨q0.fx2 X G,q1.fx1 X G,q2.fx1 X G,q3.fx2 X G,q4.fx3 X G,q5.fx1 X G,q6.fx3 X G,q7.fx3 X G,q8.fx1 X G,q9.fx1 X G,R.fx3 X G,Q.fx3 X G,D.fx3 X G,B.fx2 X G,P.fx2 X G,q15.fx2 X G,q16.fx2 X G,q17.fx2 X G,q18.fx3 X G,q19.fx3 X G,q20.fx3 X G,q21.fx2 X G,q22.fx2 X G,q23.fx2 X G,q24.fx2 X G,q25.fx1 X G,q26.fx3 X G,q27.fx1 X G,q28.fx2 X G,q29.fx1 X G,q30.fx1 X G,q31.fx2 X G,q32.fx2 X G,q33.fx1 X G,q34.fx3 X G,q35.fx3 X G,q36.fx3 X G,q37.fx4 X G,z.fx1 X G,Ba X G m,Ba X G Y,Ba X G J,Ba X G a9,Ba X G U,Ba X G N4,Ba X G O3,Ba X G j,Ba X G N,Ba X G M,Ba X G L9,Ba X G Z1,Ba X G N8,Ba X G P1,⟨c_OUTER_LAND,Dt X G W7,λH=>.inr ⟨_,_,_,w,rfl,rfl,rfl,(show 3<=sizeLine by decide),.cons ⟨_,rfl⟩ (.cons ⟨_,rfl⟩ (.cons ⟨_,rfl⟩ (.nil)))⟩⟩⟩,rfl,λs v=>?_⟩
 obtain⟨_,_,_,_,_,_,_,_,_,rfl,_⟩:=z.F.ex;exact .of_eq rfl
theorem D6:C2 ["_law_first", "_law_second", "_law_outs", "_law_ins", "_law_path", "_law_heap", "_law_i", "_law_ahead", "_law_k", "_law_place", "_law_turns", "_law_v", "_law_came", "_law_row"] ["_law_first", "_law_second"] (B3 t8):={}
def rh (m:Nat)(F G:Nat->Nat)(o i:OT)(p h:AC)(x6 x7 x8 x9:Sl):List Sl:=
 [.val (lI (fl F m)),.val (lI (fl G m)),.tr o,.tr i,.own (nI p.reverse),.own (nI h.reverse),x6,x7,x8,x9,.no,.no,.no,.no]
theorem Z9 {m:Nat}{F G:Nat->Nat}{o i:OT}{p h:AC}{x6 x7 x8 x9:Sl}(w:x6.nb=true)(z:x7.nb=true)(j:x8.nb=true)(Y:x9.nb=true):O0 (rh m F G o i p h x6 x7 x8 x9)=true:=by
 unfold rh;simp only[o6,w,z,j,Y,Bool.true_and];rfl
def rh2 (m:Nat)(F G:Nat->Nat)(o i:PyData)(p h:AF)(x6 x7 x8 x9 x10 x11 x12 x13:Sl):List Sl:=
 [.val (lI (fl F m)),.val (lI (fl G m)),.val o,.val i,.own p,.own h,x6,x7,x8,x9,x10,x11,x12,x13]
theorem bU4 {m:Nat}{F G:Nat->Nat}{o i:PyData}{p h:AF}{x6 x7 x8 x9 x10 x11 x12 x13:Sl}(X:x6.nb=true)(U:x7.nb=true)(J:x8.nb=true)(M:x9.nb=true)(w:x10.nb=true)(z:x11.nb=true)(j:x12.nb=true)(Y:x13.nb=true):O0 (rh2 m F G o i p h x6 x7 x8 x9 x10 x11 x12 x13)=true:=by
 unfold rh2;simp only[o6,X,U,J,M,w,z,j,Y,Bool.true_and];rfl
def cR1 (ds:AF)(d:PyData):Prop:=∃F G m,TT.Rws F G m/\m<=1000/\ds=[lI (fl F m),lI (fl G m)] /\
 d=.tuple [.list ((List.range (m+3)).map λv=>lN ((TT.gst F G m).row v)),.list ((List.range m).map λv=>lN [(TT.gst F G m).o0 (v+3),(TT.gst F G m).o1 (v+3),(TT.gst F G m).o2 (v+3)])]
section
variable {P:Program}{w:World}{K:Frag}{mg:Str->Option Value}{base:Heap}{a:Ad}
theorem cS4 (T:Tx K mg a):K3 P w K mg base CX0 1 a.aL0 a.aL9 ["_law_first", "_law_second"] (spV K cR1):=by
 refine T.aJ5.F.ok D6 (W3 (by rintro ds d ⟨_,_,_,_,_,rfl,_⟩;rfl)) (λcdv A outer s H vs Q E hr h=>?_)
 obtain⟨ds,S,d,hS,r,⟨F,G,m,R,hm,rfl,rfl⟩,k⟩:=h;refine⟨_,(A6 (psS 2 D6 (D0 A5))
   (A6 (psS 3 D6 (D0 (A0 (D3 (A0 (D0 A5) (A0 (D0 A5) (A0 (D0 A5) A5)))) (A0 (D3 (A0 (D0 A5) (A0 (D0 A5) (A0 (D0 A5) A5)))) (A0 (D3 (A0 (D0 A5) (A0 (D0 A5) (A0 (D0 A5) A5)))) A5)))))
   (A6 (psS 4 D6 (D0 (A0 A7 A5)))
   (A6 (psS 5 D6 (D0 (A0 A7 A5)))
   (A6 (J8 Aj rfl (K2 rfl T.L9 (A0 (B6 L8 (by rfl) T.O3 Aw (A0 (pv 0) A5)) A5)) (pgN 6 D6) (A6 (psS 7 D6 (D0 (A0 A7 (A0 A7 A5))))
   (A6 (M1 (C0 y4 (pv 6) A7 (F6 _)) (B1 (psS 7 D6 (D0 (A0 (B5 D4 (pv 0) (B7 U2 (pv 6) A7) (λ_ _=>rfl)) (A0 (B5 D4 (pv 1) (B7 U2 (pv 6) A7) (λ_ _=>rfl)) A5))))) E8)
   (A6 (J8 Aj rfl (K2 rfl T.L9 (A0 (B7 U2 (B5 D4 (pv 0) (pv 6) (λ_ _=>rfl)) (B5 D4 (pv 7) A7 (λ_ _=>rfl))) A5)) (pgN 8 D6) (B1 (E5 (K0 Ab1 Ag Af D2 (pv 5) (A0 (aF6 Ab1 PySem.F.slot_list_pop PySem.F.type_list_pop aH1 (pv 4)) A5)))))
   (A6 (E5 (K0 Ab1 Ag Af D2 (pv 3) (A0 (D3 (A0 (D0 A5) (A0 (D0 A5) (A0 (D0 A5) A5)))) A5)))
   (A6 (J8 Aj rfl (K2 rfl T.L9 (A0 (B7 U2 (B5 D4 (pv 1) (pv 6) (λ_ _=>rfl)) (B5 D4 (pv 7) A7 (λ_ _=>rfl))) A5)) (pgN 8 D6) (A6 (psS 9 D6 (aF6 Ab1 PySem.F.slot_list_pop PySem.F.type_list_pop aH1 (pv 5)))
   (A6 (aO8 (B7 J6 A7 (pv 6)) (bT6 (B5 D4 (pv 2) (B7 U2 (pv 9) A7) (λ_ _=>rfl)) A7 aT1))
   (B1 (E5 (K0 Ab1 Ag Af D2 (B5 D4 (B5 D4 (pv 3) (B7 J6 A7 (pv 6)) (λ_ _=>rfl)) A7 (λ_ _=>rfl)) (A0 (pv 9) A5)))))))
   (A6 (E5 (K0 Ab1 Ag Af D2 (pv 2) (A0 (D0 (A0 (B5 D4 (pv 4) (aF3 e5 A7) (λ_ _=>rfl)) (A0 (B5 D4 (pv 5) (aF3 e5 A7) (λ_ _=>rfl)) (A0 A7 A5)))) A5)))
   (A6 (E5 (K0 Ab1 Ag Af D2 (B5 D4 (B5 D4 (pv 3) (B5 D4 (pv 4) (aF3 e5 A7) (λ_ _=>rfl)) (λ_ _=>rfl)) A7 (λ_ _=>rfl)) (A0 (B7 J6 A7 (pv 6)) A5)))
   (A6 (E5 (K0 Ab1 Ag Af D2 (B5 D4 (B5 D4 (pv 3) (B5 D4 (pv 5) (aF3 e5 A7) (λ_ _=>rfl)) (λ_ _=>rfl)) A7 (λ_ _=>rfl)) (A0 (B7 J6 A7 (pv 6)) A5)))
   (B1 (E5 (K0 Ab1 Ag Af D2 (pv 4) (A0 (B7 J6 A7 (pv 6)) A5)))))))))))))
   (A6 (U6 Aj (C0 y4 (B6 L8 (by rfl) T.O3 Aw (A0 (pv 4) A5)) A7 (F6 _)) (B1 (E5 (K0 Ab1 Ag Af D2 (pv 5) (A0 (aF6 Ab1 PySem.F.slot_list_pop PySem.F.type_list_pop aH1 (pv 4)) A5)))))
   (A6 (U6 Aj (C0 y4 (B6 L8 (by rfl) T.O3 Aw (A0 (pv 5) A5)) A7 (F6 _)) (B1 (E5 (K0 Ab1 Ag Af D2 (B5 D4 (B5 D4 (pv 3) A7 (λ_ _=>rfl)) A7 (λ_ _=>rfl)) (A0 (aF6 Ab1 PySem.F.slot_list_pop PySem.F.type_list_pop aH1 (pv 5)) A5)))))
   (A6 (psS 10 D6 (D0 (A0 (B7 (L5 K) (B7 (L5 K) (D0 (A0 A7 A5)) (B5 D4 (B5 D4 (pv 3) A7 (λ_ _=>rfl)) A7 (λ_ _=>rfl))) (D0 (A0 A7 A5))) A5)))
   (A6 (E5 (K0 Ab1 Ag Af D2 (pv 10) (A0 (B7 (L5 K) (B7 (L5 K) (D0 (A0 A7 A5)) (aX5 K rfl (by rfl) T.aG0 (by rfl) T.Z1 (B5 D4 (B5 D4 (pv 3) A7 (λ_ _=>rfl)) A7 (λ_ _=>rfl)))) (D0 (A0 A7 A5))) A5)))
   (A6 (E5 (K0 Ab1 Ag Af D2 (pv 10) (A0 (B7 (L5 K) (B7 (L5 K) (D0 (A0 A7 A5)) (B5 D4 (B5 D4 (pv 3) A7 (λ_ _=>rfl)) A7 (λ_ _=>rfl))) (D0 (A0 A7 A5))) A5)))
   (A6 (J8 Aj rfl (K2 rfl T.L9 (A0 (B6 L8 (by rfl) T.O3 Aw (A0 (pv 2) A5)) A5)) (pgN 11 D6) (A6 (psS 12 D6 (B5 D4 (pv 3) (B7 J6 A7 (pv 11)) (λ_ _=>rfl)))
   (A6 (psS 13 D6 (B7 (L5 K) (B7 (L5 K) (B7 (L5 K) (D0 (A0 (B5 D4 (B5 D4 (pv 2) (pv 11) (λ_ _=>rfl)) A7 (λ_ _=>rfl)) A5)) (B5 D4 (pv 12) A7 (λ_ _=>rfl))) (D0 (A0 (B5 D4 (B5 D4 (pv 2) (pv 11) (λ_ _=>rfl)) A7 (λ_ _=>rfl)) A5))) (B5 D4 (pv 12) A7 (λ_ _=>rfl))))
   (B1 (E5 (K0 Ab1 Ag Af D2 (pv 10) (A0 (B7 (L5 K) (B7 (L5 K) (pv 13) (D0 (A0 (B5 D4 (B5 D4 (pv 2) (pv 11) (λ_ _=>rfl)) A7 (λ_ _=>rfl)) A5))) (aX5 K rfl (by rfl) T.aG0 (by rfl) T.Z1 (B5 D4 (pv 12) A7 (λ_ _=>rfl)))) A5)))))))
   (B1 (C8 (D3 (A0 (pv 10) (A0 (pv 2) A5)))))))))))))))),K7 hS r ?_ k⟩
 refine B2 (aW1 (N6 J9) ?_);refine B2 (aW1 (N6 (G4 (aS7 (G4 (N6 J9) (G4 (N6 J9) (G4 (N6 J9) J9)))) (G4 (aS7 (G4 (N6 J9) (G4 (N6 J9) (G4 (N6 J9) J9)))) (G4 (aS7 (G4 (N6 J9) (G4 (N6 J9) (G4 (N6 J9) J9)))) J9)))) ?_);refine B2 (E4 (F4 (A4 B0 A8)) ?_);refine B2 (E4 (F4 (A4 B0 A8)) ?_);show W K _ (rh m F G (M6 0 (TT.gst F G 0).o0 (TT.gst F G 0).o1 (TT.gst F G 0).o2) (G3 (0+3) (TT.gst F G 0).i0 (TT.gst F G 0).i1 (TT.gst F G 0).i2) (TT.gst F G 0).path (TT.gst F G 0).heap .no .no .no .no) _;have D:((fl F m).map PyData.int).length=m:=by simp[fl]
 refine B2 (N9 (T3 (A4 (P4 (A4 (A9 rfl) A8)) A8) ?_ ?_) (λi ρ=>∃U J x8 Y,(U.nb=true/\J.nb=true/\x8.nb=true/\Y.nb=true) /\
  ρ=rh m F G (M6 i (TT.gst F G i).o0 (TT.gst F G i).o1 (TT.gst F G i).o2) (G3 (i+3) (TT.gst F G i).i0 (TT.gst F G i).i1 (TT.gst F G i).i2) (TT.gst F G i).path (TT.gst F G i).heap U J x8 Y) ⟨_,_,_,_,⟨rfl,rfl,rfl,rfl⟩,rfl⟩ ?_ ?_)
 .rw[D];lia
 .rw[D];lia
 .rintro i d _ M ⟨U,J,x8,Y,⟨b6,b7,b8,b9⟩,rfl⟩;obtain⟨rfl,hi⟩:=U0 M;have hi:i<m:=by
   have:=hi
   simp[fl]at this
   lia
  obtain⟨sk,sa,sb,spl,B,slo,spx,shy,se0,se1⟩:=TT.bJ7 R hi;have hst:TT.gst F G (i+1)=(TT.gst F G i).step (F i-TT.pv F i) (G i-TT.pv G i):=rfl;have f1:=R.f1 i hi;have g1:=R.g1 i hi;have hFi:=R.f2 i hi;have hGi:=R.g2 i hi;generalize hs:TT.gst F G i=s at sk sa sb spl B slo spx shy se0 se1 hst ⊢;refine⟨_,B4,?_⟩;refine B2 (E4 (F4 (A4 B0 (A4 B0 A8))) ?_ (show 7<14 by decide))
  refine B2 (cS8 (rh m F G (M6 i s.o0 s.o1 s.o2) (G3 (i+3) s.i0 s.i1 s.i2) s.path s.heap (.val (.int (i:Int))) (.own [.int (TT.pv F i:Nat),.int (TT.pv G i:Nat)]) x8 Y) (C3 (aD2 (A9 rfl) B0))
   (λh=>(E4 (ds:=[.int (F (i-1):Nat),.int (G (i-1):Nat)]) (F4 (A4 (E7 (A9 rfl) (N0 (A9 rfl) B0) rfl ?_) (A4 (E7 (A9 rfl) (N0 (A9 rfl) B0) rfl ?_) A8))) ?_ (show 7<14 by decide))) (λh=>F9 ?_) ?_)
  .have h:(i:Int)>0:=An h
   have e:(i:Int)-1=((i-1:Nat):Int):=by lia
   rw[e];exact bZ4 (by lia)
  .have h:(i:Int)>0:=An h
   have e:(i:Int)-1=((i-1:Nat):Int):=by lia
   rw[e];exact bZ4 (by lia)
  .have h:(i:Int)>0:=An h
   obtain⟨j,rfl⟩:∃j,i=j+1:=⟨i-1,by lia⟩
   rfl
  .have h:¬(i:Int)>0:=Bm h
   have:i=0:=by lia
   subst this;rfl
  generalize hA:F i-TT.pv F i=na at sa sb B slo spx shy hst;generalize hB:G i-TT.pv G i=nb at sb slo shy hst;refine B2 (N9 (T3 (A4 (N0 (E7 (A9 rfl) (A9 rfl) rfl (bZ4 hi)) (E7 (F2 rfl) B0 rfl rfl)) A8) ?_ ?_) (λj ρ=>∃x8,x8.nb=true /\
   ρ=rh m F G (M6 i s.o0 s.o1 s.o2) (G3 (i+3) s.i0 s.i1 s.i2) (s.path.drop j) (s.h1 j) (.val (.int (i:Int))) (.own [.int (TT.pv F i:Nat),.int (TT.pv G i:Nat)]) x8 Y) ⟨x8,b8,rfl⟩ ?_ ?_)
  .lia
  .lia
  .rintro j d _ M ⟨y8,c8,rfl⟩;obtain⟨rfl,N⟩:=U0 M;have N:j<na:=by lia
   refine⟨_,B4,?_⟩;obtain⟨x,hx⟩:∃x,s.path[j]? = some x:=⟨_,Aa2 (by lia)⟩
   have e1:s.path.drop j=x::s.path.drop (j+1):=by
    obtain⟨h1,h2⟩:=Ab0.mp hx;rw[<- h2];exact Cd h1
   have e2:s.h1 (j+1)=x::s.h1 j:=by
    unfold TT.S.h1;obtain⟨h1,h2⟩:=Ab0.mp hx;rw[Bz h1,h2];simp
   show W K _ (rh m F G (M6 i s.o0 s.o1 s.o2) (G3 (i+3) s.i0 s.i1 s.i2) (s.path.drop j) (s.h1 j) (.val (.int (i:Int))) (.own [.int (TT.pv F i:Nat),.int (TT.pv G i:Nat)]) (.val (.int (j:Int))) Y) _
   refine aP4 (ds:=nI (s.h1 j).reverse) (bF5 (d:=.int (x:Int)) (ds:=nI (s.path.drop (j+1)).reverse) ?_ (Z9 rfl rfl rfl b9)) rfl rfl ?_ ⟨.val (.int (j:Int)),rfl,?_⟩ ?_
   .show some (Sl.own (nI (s.path.drop j).reverse))=_
    rw[e1];simp[nI]
   .rw[F7,Ae1];unfold TT.S.h1 at B ⊢;unfold sizeLine;simp only[Ab7,Ae1,Ad1]at B ⊢
    lia
   .rw[e2];unfold rh
    simp[nI]
   .exact Z9 (p:=s.path.drop (j+1)) (h:=s.h1 j) rfl rfl rfl b9
  rintro _ ⟨y8,c8,rfl⟩;rw[O8];have ea:((F i:Int)-(TT.pv F i:Int)).toNat=na:=by lia
  rw[ea];refine B2 (j7 (u0:=G3 (i+3) s.i0 s.i1 s.i2) aG8 rfl rfl (aS7 (G4 (N6 J9) (G4 (N6 J9) (G4 (N6 J9) J9)))) ?_ ?_ (Z9 rfl rfl c8 b9))
  .rw[Aa3,Cr];unfold sizeLine;lia
  have ei:(G3 (i+3) s.i0 s.i1 s.i2).put [] (.lst (((List.range (i+3)).map λq=>OT.tup [oN (s.i0 q),oN (s.i1 q),oN (s.i2 q)])++[.tup [.lst [],.lst [],.lst []]]))=G3 (i+4) s.i0 s.i1 (TT.put s.i2 (i+3) []):=by
   rw[OT.put_nil,cZ1]
   congr 1
   .funext q;by_cases e:q=i+3
    .rw[e,TT.B8,se0]
    .rw[TT.C1 e]
   .funext q;by_cases e:q=i+3
    .rw[e,TT.B8,se1]
    .rw[TT.C1 e]
  show W K _ ((rh m F G (M6 i s.o0 s.o1 s.o2) (G3 (i+3) s.i0 s.i1 s.i2) (s.path.drop na) (s.h1 na) (.val (.int (i:Int))) (.own [.int (TT.pv F i:Nat),.int (TT.pv G i:Nat)]) y8 Y).set 3 (.tr ((G3 (i+3) s.i0 s.i1 s.i2).put [] (.lst (((List.range (i+3)).map λq=>OT.tup [oN (s.i0 q),oN (s.i1 q),oN (s.i2 q)])++[.tup [.lst [],.lst [],.lst []]]))))) _
  rw[ei];show W K _ (rh m F G (M6 i s.o0 s.o1 s.o2) (G3 (i+4) s.i0 s.i1 (TT.put s.i2 (i+3) [])) (s.path.drop na) (s.h1 na) (.val (.int (i:Int))) (.own [.int (TT.pv F i:Nat),.int (TT.pv G i:Nat)]) y8 Y) _;generalize hh:s.h1 na=h at sb B slo shy ⊢;refine B2 (N9 (T3 (A4 (N0 (E7 (A9 rfl) (A9 rfl) rfl (bZ4 hi)) (E7 (F2 rfl) B0 rfl rfl)) A8) ?_ ?_) (λj ρ=>∃x8 Y,x8.nb=true/\Y.nb=true /\
   ρ=rh m F G (M6 i s.o0 s.o1 (λq=>if q∈h.take j then i+3 else s.o2 q)) (G3 (i+4) s.i0 s.i1 (TT.put s.i2 (i+3) (h.take j))) (s.path.drop na) (h.drop j) (.val (.int (i:Int))) (.own [.int (TT.pv F i:Nat),.int (TT.pv G i:Nat)]) x8 Y) ⟨y8,Y,c8,b9,by simp⟩ ?_ ?_)
  .lia
  .lia
  .rintro j d _ M ⟨z8,z9,c8,c9,rfl⟩;obtain⟨rfl,N⟩:=U0 M;have N:j<nb:=by lia
   refine⟨_,B4,?_⟩;obtain⟨x,hx⟩:∃x,h[j]? = some x:=⟨_,Aa2 (by lia)⟩
   obtain⟨hx1,hx2⟩:=Ab0.mp hx;have e1:h.drop j=x::h.drop (j+1):=by rw[<- hx2];exact Cd hx1
   have e2:h.take (j+1)=h.take j++[x]:=by rw[<- hx2];exact Bz hx1
   obtain⟨x3,xi⟩:=slo x (by
    refine Av (i:=j) ?_;rw[Dz,Ac N];exact hx)
   refine B2 (dP8 (ds:=nI (h.drop (j+1)).reverse) (d:=.int (x:Int)) ?_ ?_ (Z9 (x8:=.val (.int (j:Int))) rfl rfl rfl c9))
   .show some (Sl.own (nI (h.drop j).reverse))=_
    rw[e1];simp[nI]
   have e3:(3:Int)+(i:Int)=((i+3:Nat):Int):=by lia
   have hx3:x-3+3=x:=by lia
   show W K _ (rh m F G (M6 i s.o0 s.o1 (λq=>if q∈h.take j then i+3 else s.o2 q)) (G3 (i+4) s.i0 s.i1 (TT.put s.i2 (i+3) (h.take j))) (s.path.drop na) (h.drop (j+1)) (.val (.int (i:Int))) (.own [.int (TT.pv F i:Nat),.int (TT.pv G i:Nat)]) (.val (.int (j:Int))) (.val (.int (x:Int)))) _
   have eo:(M6 i s.o0 s.o1 (λq=>if q∈h.take j then i+3 else s.o2 q)).put [x-3] (oN [s.o0 (x-3+3),s.o1 (x-3+3),i+3])=M6 i s.o0 s.o1 (λq=>if q∈h.take (j+1) then i+3 else s.o2 q):=by
    rw[cZ3 (by lia)]
    congr 1
    funext q
    rw[hx3,e2];by_cases e:q=x
    .rw[e,TT.B8];simp
    .rw[TT.C1 e];simp[e]
   refine B2 (dN0 (u0:=M6 i s.o0 s.o1 (λq=>if q∈h.take j then i+3 else s.o2 q)) (us:=[.leaf (.int (s.o0 (x-3+3):Nat)),.leaf (.int (s.o1 (x-3+3):Nat)),.leaf (.int ((if x-3+3∈h.take j then i+3 else s.o2 (x-3+3):Nat):Int))]) (π:=[]++[x-3]) 2 (N0 B0 (A9 rfl)) (aK9 (x-3) aG8 (N0 (A9 rfl) B0) (by lia) (λu _=>⟨u,rfl⟩)) B0 rfl (by decide:2<3) rfl (dG3 (by lia)) ?_ (Z9 rfl rfl rfl rfl))
   show W K _ ((rh m F G (M6 i s.o0 s.o1 (λq=>if q∈h.take j then i+3 else s.o2 q)) (G3 (i+4) s.i0 s.i1 (TT.put s.i2 (i+3) (h.take j))) (s.path.drop na) (h.drop (j+1)) (.val (.int (i:Int))) (.own [.int (TT.pv F i:Nat),.int (TT.pv G i:Nat)]) (.val (.int (j:Int))) (.val (.int (x:Int)))).set 2
    (.tr ((M6 i s.o0 s.o1 (λq=>if q∈h.take j then i+3 else s.o2 q)).put [x-3] (.lst [.leaf (.int (s.o0 (x-3+3):Nat)),.leaf (.int (s.o1 (x-3+3):Nat)),.leaf (.int (3+(i:Int)))])))) _
   rw[e3];show W K _ ((rh m F G (M6 i s.o0 s.o1 (λq=>if q∈h.take j then i+3 else s.o2 q)) (G3 (i+4) s.i0 s.i1 (TT.put s.i2 (i+3) (h.take j))) (s.path.drop na) (h.drop (j+1)) (.val (.int (i:Int))) (.own [.int (TT.pv F i:Nat),.int (TT.pv G i:Nat)]) (.val (.int (j:Int))) (.val (.int (x:Int)))).set 2
    (.tr ((M6 i s.o0 s.o1 (λq=>if q∈h.take j then i+3 else s.o2 q)).put [x-3] (oN [s.o0 (x-3+3),s.o1 (x-3+3),i+3])))) _
   rw[eo];show W K _ (rh m F G (M6 i s.o0 s.o1 (λq=>if q∈h.take (j+1) then i+3 else s.o2 q)) (G3 (i+4) s.i0 s.i1 (TT.put s.i2 (i+3) (h.take j))) (s.path.drop na) (h.drop (j+1)) (.val (.int (i:Int))) (.own [.int (TT.pv F i:Nat),.int (TT.pv G i:Nat)]) (.val (.int (j:Int))) (.val (.int (x:Int)))) _
   refine j7 (u0:=G3 (i+4) s.i0 s.i1 (TT.put s.i2 (i+3) (h.take j))) (π:=[]++[i+3]++[2]) (aK9 2 (aK9 (i+3) aG8 (N0 B0 (A9 rfl)) (by lia) (λu _=>⟨u,rfl⟩)) B0 rfl (λu0 h=>by cases h;exact⟨_,aF7 (by lia)⟩)) rfl (cA5 (by lia)) (bC7 (A9 rfl)) ?_ ?_ (Z9 rfl rfl rfl rfl)
   .rw[Aa3,TT.B8,Ad1];unfold sizeLine;lia
   refine⟨.val (.int (j:Int)),vI (x:Int),rfl,rfl,?_⟩;rw[bM4 (by lia),bY4,TT.B8,<- e2]
   rfl
  rintro _ ⟨z8,z9,c8,c9,rfl⟩;rw[O8];have eb:((G i:Int)-(TT.pv G i:Int)).toNat=nb:=by lia
  rw[eb];obtain⟨x,r1,ex,xlt,xlen⟩:=spx;obtain⟨y,r2,ey,ylt,ylen⟩:=shy;have e3:(3:Int)+(i:Int)=((i+3:Nat):Int):=by lia
  have hpl:atI (nI (s.path.drop na).reverse) (-1)=some (.int (x:Int)):=by rw[ex,List.reverse_cons,aG7];exact r9
  have hhl:atI (nI (h.drop nb).reverse) (-1)=some (.int (y:Int)):=by rw[ey,List.reverse_cons,aG7];exact r9
  refine B2 (j7 (u0:=M6 i s.o0 s.o1 (λq=>if q∈h.take nb then i+3 else s.o2 q)) aG8 rfl rfl (N6 (G4 (bC7 (LV.E.imm (d:=.int (x:Int)) (E7 (F2 rfl) (aE2 B0) rfl hpl))) (G4 (bC7 (LV.E.imm (d:=.int (y:Int)) (E7 (F2 rfl) (aE2 B0) rfl hhl))) (G4 (bC7 B0) J9)))) ?_ ?_ (Z9 rfl rfl c8 c9))
  .rw[Aa3,Cr];unfold sizeLine;lia
  have eo:(M6 i s.o0 s.o1 (λq=>if q∈h.take nb then i+3 else s.o2 q)).put [] (.lst (((List.range i).map λj=>oN [s.o0 (j+3),s.o1 (j+3),(λq=>if q∈h.take nb then i+3 else s.o2 q) (j+3)])++[.lst [.leaf (.int (x:Int)),.leaf (.int (y:Int)),.leaf (.int ((2:Nat):Int))]]))=M6 (i+1) (TT.put s.o0 (i+3) x) (TT.put s.o1 (i+3) y) (TT.put (λq=>if q∈h.take nb then i+3 else s.o2 q) (i+3) 2):=by rw[OT.put_nil];exact dA4 (k:=i) (o0:=s.o0) (o1:=s.o1) (o2:=λq=>if q∈h.take nb then i+3 else s.o2 q) x y 2
  show W K _ ((rh m F G (M6 i s.o0 s.o1 (λq=>if q∈h.take nb then i+3 else s.o2 q)) (G3 (i+4) s.i0 s.i1 (TT.put s.i2 (i+3) (h.take nb))) (s.path.drop na) (h.drop nb) (.val (.int (i:Int))) (.own [.int (TT.pv F i:Nat),.int (TT.pv G i:Nat)]) z8 z9).set 2 (.tr ((M6 i s.o0 s.o1 (λq=>if q∈h.take nb then i+3 else s.o2 q)).put [] (.lst (((List.range i).map λj=>oN [s.o0 (j+3),s.o1 (j+3),(λq=>if q∈h.take nb then i+3 else s.o2 q) (j+3)])++[.lst [.leaf (.int (x:Int)),.leaf (.int (y:Int)),.leaf (.int ((2:Nat):Int))]]))))) _
  rw[eo];show W K _ (rh m F G (M6 (i+1) (TT.put s.o0 (i+3) x) (TT.put s.o1 (i+3) y) (TT.put (λq=>if q∈h.take nb then i+3 else s.o2 q) (i+3) 2)) (G3 (i+4) s.i0 s.i1 (TT.put s.i2 (i+3) (h.take nb))) (s.path.drop na) (h.drop nb) (.val (.int (i:Int))) (.own [.int (TT.pv F i:Nat),.int (TT.pv G i:Nat)]) z8 z9) _
  refine B2 (j7 (u0:=G3 (i+4) s.i0 s.i1 (TT.put s.i2 (i+3) (h.take nb))) (π:=[]++[x]++[0]) (aK9 0 (aK9 x aG8 (E7 (F2 rfl) (aE2 B0) rfl hpl) rfl (λu _=>⟨u,rfl⟩)) B0 rfl (λu0 h=>by cases h;exact⟨_,aF7 (by lia)⟩)) rfl (cU6 (by lia)) (bC7 (N0 B0 (A9 rfl))) ?_ ?_ (Z9 rfl rfl c8 c9))
  .rw[Aa3];unfold sizeLine;lia
  have ej:=cL1 (n:=i+4) (q:=x) (i0:=s.i0) (i1:=s.i1) (i2:=TT.put s.i2 (i+3) (h.take nb)) (by lia) (i+3)
  rw[<- e3]at ej;show W K _ ((rh m F G (M6 (i+1) (TT.put s.o0 (i+3) x) (TT.put s.o1 (i+3) y) (TT.put (λq=>if q∈h.take nb then i+3 else s.o2 q) (i+3) 2)) (G3 (i+4) s.i0 s.i1 (TT.put s.i2 (i+3) (h.take nb))) (s.path.drop na) (h.drop nb) (.val (.int (i:Int))) (.own [.int (TT.pv F i:Nat),.int (TT.pv G i:Nat)]) z8 z9).set 3 (.tr ((G3 (i+4) s.i0 s.i1 (TT.put s.i2 (i+3) (h.take nb))).put ([]++[x]++[0]) (.lst (((s.i0 x).map λ(x:Nat)=>OT.leaf (.int (x:Int)))++[.leaf (.int (3+(i:Int)))]))))) _
  rw[ej];show W K _ (rh m F G (M6 (i+1) (TT.put s.o0 (i+3) x) (TT.put s.o1 (i+3) y) (TT.put (λq=>if q∈h.take nb then i+3 else s.o2 q) (i+3) 2)) (G3 (i+4) (TT.put s.i0 x (s.i0 x++[i+3])) s.i1 (TT.put s.i2 (i+3) (h.take nb))) (s.path.drop na) (h.drop nb) (.val (.int (i:Int))) (.own [.int (TT.pv F i:Nat),.int (TT.pv G i:Nat)]) z8 z9) _
  refine B2 (j7 (u0:=G3 (i+4) (TT.put s.i0 x (s.i0 x++[i+3])) s.i1 (TT.put s.i2 (i+3) (h.take nb))) (π:=[]++[y]++[1]) (aK9 1 (aK9 y aG8 (E7 (F2 rfl) (aE2 B0) rfl hhl) rfl (λu _=>⟨u,rfl⟩)) B0 rfl (λu0 h=>by cases h;exact⟨_,aF7 (by lia)⟩)) rfl (cV4 (by lia)) (bC7 (N0 B0 (A9 rfl))) ?_ ?_ (Z9 rfl rfl c8 c9))
  .rw[Aa3];unfold sizeLine;lia
  have ek:=cJ5 (n:=i+4) (q:=y) (i0:=TT.put s.i0 x (s.i0 x++[i+3])) (i1:=s.i1) (i2:=TT.put s.i2 (i+3) (h.take nb)) (by lia) (i+3)
  rw[<- e3]at ek;show W K _ ((rh m F G (M6 (i+1) (TT.put s.o0 (i+3) x) (TT.put s.o1 (i+3) y) (TT.put (λq=>if q∈h.take nb then i+3 else s.o2 q) (i+3) 2)) (G3 (i+4) (TT.put s.i0 x (s.i0 x++[i+3])) s.i1 (TT.put s.i2 (i+3) (h.take nb))) (s.path.drop na) (h.drop nb) (.val (.int (i:Int))) (.own [.int (TT.pv F i:Nat),.int (TT.pv G i:Nat)]) z8 z9).set 3 (.tr ((G3 (i+4) (TT.put s.i0 x (s.i0 x++[i+3])) s.i1 (TT.put s.i2 (i+3) (h.take nb))).put ([]++[y]++[1]) (.lst (((s.i1 y).map λ(x:Nat)=>OT.leaf (.int (x:Int)))++[.leaf (.int (3+(i:Int)))]))))) _
  rw[ek];show W K _ (rh m F G (M6 (i+1) (TT.put s.o0 (i+3) x) (TT.put s.o1 (i+3) y) (TT.put (λq=>if q∈h.take nb then i+3 else s.o2 q) (i+3) 2)) (G3 (i+4) (TT.put s.i0 x (s.i0 x++[i+3])) (TT.put s.i1 y (s.i1 y++[i+3])) (TT.put s.i2 (i+3) (h.take nb))) (s.path.drop na) (h.drop nb) (.val (.int (i:Int))) (.own [.int (TT.pv F i:Nat),.int (TT.pv G i:Nat)]) z8 z9) _
  refine G8 (ds:=nI (s.path.drop na).reverse) rfl (N0 B0 (A9 rfl)) ?_ ⟨.val (.int (i:Int)),.own [.int (TT.pv F i:Nat),.int (TT.pv G i:Nat)],z8,z9,⟨rfl,rfl,c8,c9⟩,?_⟩ (Z9 rfl rfl c8 c9)
  .rw[F7,Ae1,Bs];unfold sizeLine;lia
  rw[hst];simp only[TT.S.step,sk,hh,ex,ey,Bw];rw[e3];unfold rh
  simp[nI]
  rfl
 .rintro _ ⟨U,J,x8,Y,⟨b6,b7,b8,b9⟩,rfl⟩;have em:(U4 0 (((fl F m).map PyData.int).length:Int).toNat).length=m:=by rw[O8,D];lia
  rw[em];have GI:=TT.P2 R m (Aa7 _);have Lm:=TT.row_len GI.inv;have I2:=TT.cG5 R m (Aa7 _);have pl:=GI.p;have hl:=GI.h;have gk:=GI.k;have gle:=GI.le;have gle2:=GI.le2;obtain⟨p,hp⟩:=GI.inv.pe;obtain⟨h,hh⟩:=GI.inv.he;have R2:=cZ5 hp hh;have R0:=TT.aJ2 (s:=TT.gst F G m);have R1:=TT.aW2 (s:=TT.gst F G m);have RI:∀q,3<=q->q<m+3->(TT.gst F G m).row q=_:=λq h1 h2=>TT.O6 h1 (by rw[gk];exact h2)
  generalize hs:TT.gst F G m=s at Lm I2 pl hl gk hp hh R2 R0 R1 RI k ⊢;rw[gk]at Lm;refine B2 (p8 (λk ρ=>∃j,j+k+1=s.path.length/\ρ=rh m F G (M6 m s.o0 s.o1 s.o2) (G3 (m+3) s.i0 s.i1 s.i2) (s.path.drop j) (s.h1 j) U J x8 Y) ⟨s.path.length-1,0,by rw[hp];simp,rfl⟩ ?_)
  rintro k0 _ ⟨j,N,rfl⟩;refine⟨_,C3 (aD2 (P4 (A4 (F2 rfl) A8)) B0),?_⟩;have el:(nI (s.path.drop j).reverse).length=k0+1:=by rw[F7,Ae1,Bs];lia
  rw[el];by_cases hk:k0=0
  .subst hk;rw[Ab (by simp)]
   have ej:s.path.drop j=[0]:=by
    rw[hp,Ab7]at N;rw[hp,List.drop_append,List.drop_of_length_le (by simp at N;lia)]
    have:j-p.length=0:=by simp at N;lia
    rw[this];rfl
   have eh:s.h1 j=(p.reverse++h)++[1]:=by
    unfold TT.S.h1;rw[hp,Ab7]at N;rw[hp,hh,List.take_append_of_le_length (by simp at N;lia),Dr (by simp at N;lia)]
    simp
   rw[ej,eh];generalize hq:p.reverse++h=q at R2;have ql:q.length<=3000:=by
    have:=Lm 2
    rw[R2]at this;simp at this;lia
   have ei:s.i2=TT.put s.i2 2 (q.take 0):=by
    funext z;by_cases e:z=2
    .rw[e,TT.B8,I2];rfl
    .rw[TT.C1 e]
   rw[ei];refine B2 (p8 (λk ρ=>∃j,j+k=q.length/\ρ=rh m F G (M6 m s.o0 s.o1 s.o2) (G3 (m+3) s.i0 s.i1 (TT.put s.i2 2 (q.take j))) [0] ((q++[1]).drop j) U J x8 Y) ⟨q.length,0,by lia,rfl⟩ ?_)
   rintro k1 _ ⟨X,hj1,rfl⟩;refine⟨_,C3 (aD2 (P4 (A4 (F2 rfl) A8)) B0),?_⟩;have el:(nI ((q++[1]).drop X).reverse).length=k1+1:=by rw[F7,Ae1,Bs];simp;lia
   rw[el];by_cases hk:k1=0
   .subst hk;rw[Ab (by simp)]
    have ej1:X=q.length:=by lia
    subst ej1;rw[Cm];refine bK0 (i:=3) rfl (bK0 (i:=2) rfl ?_);rw[cF6,cE7];show W K _ (rh2 m F G (.list ((List.range m).map λj=>lN [s.o0 (j+3),s.o1 (j+3),s.o2 (j+3)])) (.list ((List.range (m+3)).map λz=>.tuple [lN (s.i0 z),lN (s.i1 z),lN (TT.put s.i2 2 q z)])) (nI ([0]:AC).reverse) (nI ((q++[1]).drop q.length).reverse) U J x8 Y .no .no .no .no) _
    generalize hiD:(PyData.list ((List.range (m+3)).map λz=>.tuple [lN (s.i0 z),lN (s.i1 z),lN (TT.put s.i2 2 q z)]))=iD
    generalize hoD:(PyData.list ((List.range m).map λj=>lN [s.o0 (j+3),s.o1 (j+3),s.o2 (j+3)]))=oD
    generalize hpD:nI ([0]:AC).reverse=pD;generalize hhD:nI ((q++[1]).drop q.length).reverse=hD;show W K _ (rh2 m F G oD iD pD hD U J x8 Y .no .no .no .no) _;have sqi:sq iD=some ((List.range (m+3)).map λz=>.tuple [lN (s.i0 z),lN (s.i1 z),lN (TT.put s.i2 2 q z)]):=by rw[<- hiD];rfl
    have sqo:sq oD=some ((List.range m).map λj=>lN [s.o0 (j+3),s.o1 (j+3),s.o2 (j+3)]):=by rw[<- hoD];rfl
    have L0:=Lm 0
    have L1:=Lm 1
    have L2':=Lm 2
    rw[R0]at L0;rw[R1]at L1;rw[R2]at L2';simp only[Ay,Ab7,Ae1,List.length_nil]at L0 L1 L2';refine B2 (E4 (ds:=[lN (s.row 0)]) (F4 (A4 (EF.toN (R8 (l:=[1]++s.i0 0) (l':=[2]) (EF.e' (R8 (l:=[1]) (l':=s.i0 0) (EF.e' (F4 (A4 B0 A8))) (E7 (E7 (A9 rfl) B0 sqi (aI9 (q:=0) (by lia))) B0 rfl rfl) (by simp;lia))) (EF.e' (F4 (A4 B0 A8))) (by simp;lia)) (by rw[R0];simp)) A8)) ?_ (show 10<14 by decide))
    show W K _ (rh2 m F G oD iD pD hD U J x8 Y (.own [lN (s.row 0)]) .no .no .no) _
    refine B2 (G8 (d:=lN (s.row 1)) rfl (EF.toN (R8 (l:=[2]++(s.i1 1).reverse) (l':=[0]) (EF.e' (R8 (l:=[2]) (l':=(s.i1 1).reverse) (EF.e' (F4 (A4 B0 A8))) (EF.e' (cC3 (E7 (E7 (A9 rfl) B0 sqi (aI9 (q:=1) (by lia))) B0 rfl rfl))) (by simp;lia))) (EF.e' (F4 (A4 B0 A8))) (by simp;lia)) (by rw[R1];simp)) (by show 1<_;unfold sizeLine;lia) ?_ (bU4 b6 b7 b8 b9 rfl rfl rfl rfl))
    show W K _ (rh2 m F G oD iD pD hD U J x8 Y (.own [lN (s.row 0),lN (s.row 1)]) .no .no .no) _
    refine B2 (G8 (d:=lN (s.row 2)) rfl (EF.toN (R8 (l:=[0]++TT.put s.i2 2 q 2) (l':=[1]) (EF.e' (R8 (l:=[0]) (l':=TT.put s.i2 2 q 2) (EF.e' (F4 (A4 B0 A8))) (E7 (E7 (A9 rfl) B0 sqi (aI9 (q:=2) (by lia))) B0 rfl rfl) (by rw[TT.B8];simp;lia))) (EF.e' (F4 (A4 B0 A8))) (by rw[TT.B8];simp;lia)) (by rw[R2,TT.B8];simp)) (by show 2<_;unfold sizeLine;lia) ?_ (bU4 b6 b7 b8 b9 rfl rfl rfl rfl))
    show W K _ (rh2 m F G oD iD pD hD U J x8 Y (.own ((List.range (0+3)).map λz=>lN (s.row z))) .no .no .no) _
    refine B2 (N9 (T3 (A4 (P4 (A4 (A9 rfl) A8) sqo) A8) ?_ ?_) (λv ρ=>∃x11 x12 x13,(x11.nb=true/\x12.nb=true/\x13.nb=true)/\ρ=rh2 m F G oD iD pD hD U J x8 Y (.own ((List.range (v+3)).map λz=>lN (s.row z))) x11 x12 x13) ⟨.no,.no,.no,⟨rfl,rfl,rfl⟩,rfl⟩ ?_ ?_)
    .simp <;> lia
    .simp <;> lia
    .rintro v d _ M ⟨x11,x12,x13,⟨b11,b12,b13⟩,rfl⟩;obtain⟨rfl,hv⟩:=U0 M;have hv:v<m:=by simpa using hv
     have e3:(3:Int)+(v:Int)=((v+3:Nat):Int):=by lia
     have i2v:TT.put s.i2 2 q (v+3)=s.i2 (v+3):=TT.C1 (by lia)
     have Rv:=RI (v+3) (by lia) (by lia)
     have Lv:=Lm (v+3)
     rw[Rv]at Lv;simp only[Ay,Ab7,Ae1]at Lv;refine⟨_,B4,?_⟩;refine B2 (F3 (d:=.tuple [lN (s.i0 (v+3)),lN (s.i1 (v+3)),lN (s.i2 (v+3))]) (E7 (A9 rfl) (N0 B0 (A9 rfl)) sqi ?_) ?_)
     .rw[e3,aI9 (by lia),i2v]
     show W K _ (rh2 m F G oD iD pD hD U J x8 Y (.own ((List.range (v+3)).map λz=>lN (s.row z))) (.val (.int (v:Int))) (.val (.tuple [lN (s.i0 (v+3)),lN (s.i1 (v+3)),lN (s.i2 (v+3))])) x13) _
     refine B2 (E4 (ds:=nI ([s.o0 (v+3)]++s.i2 (v+3)++[s.o1 (v+3)]++s.i0 (v+3))) (R8 (EF.e' (R8 (l':=[s.o1 (v+3)]) (EF.e' (R8 (l:=[s.o0 (v+3)]) (EF.e' (F4 (A4 (E7 (d':=.int (s.o0 (v+3):Nat)) (E7 (A9 rfl) (A9 rfl) sqo (aI9 hv)) B0 rfl rfl) A8) (show 1<=16777216 by decide))) (E7 (A9 rfl) B0 rfl rfl) (by simp;lia)))
      (EF.e' (F4 (A4 (E7 (d':=.int (s.o1 (v+3):Nat)) (E7 (A9 rfl) (A9 rfl) sqo (aI9 hv)) B0 rfl rfl) A8) (show 1<=16777216 by decide))) (by simp;lia))) (E7 (A9 rfl) B0 rfl rfl) (by simp;lia)) ?_ (show 13<14 by decide))
     show W K _ (rh2 m F G oD iD pD hD U J x8 Y (.own ((List.range (v+3)).map λz=>lN (s.row z))) (.val (.int (v:Int))) (.val (.tuple [lN (s.i0 (v+3)),lN (s.i1 (v+3)),lN (s.i2 (v+3))])) (.own (nI ([s.o0 (v+3)]++s.i2 (v+3)++[s.o1 (v+3)]++s.i0 (v+3))))) _
     refine G8 (ds:=(List.range (v+3)).map λz=>lN (s.row z)) (d:=lN (s.row (v+3))) rfl (EF.toN (R8 (l:=[s.o0 (v+3)]++s.i2 (v+3)++[s.o1 (v+3)]++s.i0 (v+3)++[s.o2 (v+3)]) (l':=(s.i1 (v+3)).reverse) (EF.e' (R8 (l:=[s.o0 (v+3)]++s.i2 (v+3)++[s.o1 (v+3)]++s.i0 (v+3)) (l':=[s.o2 (v+3)]) (F2 rfl) (EF.e' (F4 (A4 (E7 (d':=.int (s.o2 (v+3):Nat)) (E7 (A9 rfl) (A9 rfl) sqo (aI9 hv)) B0 rfl rfl) A8) (show 1<=16777216 by decide))) (by simp;lia)))
      (EF.e' (cC3 (E7 (A9 rfl) B0 rfl rfl))) (by simp;lia)) (by rw[Rv];simp)) ?_ ⟨.val (.int (v:Int)),.val (.tuple [lN (s.i0 (v+3)),lN (s.i1 (v+3)),lN (s.i2 (v+3))]),.own (nI ([s.o0 (v+3)]++s.i2 (v+3)++[s.o1 (v+3)]++s.i0 (v+3))),⟨rfl,rfl,rfl⟩,?_⟩ (bU4 b6 b7 b8 b9 rfl rfl rfl rfl)
     .rw[Aa3,Cr];unfold sizeLine;lia
     .have er:(List.range (v+3)).map (λz=>lN (s.row z))++[lN (s.row (v+3))]=(List.range (v+1+3)).map λz=>lN (s.row z):=by
       rw[show v+1+3=(v+3)+1 by lia,Ce (n:=v+3),Ad2];rfl
      rw[er];rfl
    rintro _ ⟨x11,x12,x13,⟨b11,b12,b13⟩,rfl⟩;rw[O8];have e4:((((List.range m).map λj=>lN [s.o0 (j+3),s.o1 (j+3),s.o2 (j+3)]).length:Int)).toNat=m:=by simp
    rw[e4];refine bK6 (i:=10) rfl ?_;exact L6 (G1 (A4 (A9 rfl) (A4 (A9 rfl) A8))) (by rw[<- hoD])
   .have M:decide (((k1+1:Nat):Int)>1)=true:=by simp;lia
    rw[M,Ac rfl];have hlt:X<q.length:=by lia
    have e1:(q++[1]).drop X=q[X]::(q++[1]).drop (X+1):=by
     rw[Cd (by simp;lia),List.getElem_append_left hlt]
    have e2:q.take (X+1)=q.take X++[q[X]]:=Bz hlt
    refine bS7 (i:=3) (j:=5) (d:=.int (q[X]:Nat)) (u0:=G3 (m+3) s.i0 s.i1 (TT.put s.i2 2 (q.take X))) (π:=[]++[2]++[2]) (aK9 2 (aK9 2 aG8 B0 rfl (λu _=>⟨u,rfl⟩)) B0 rfl (λu0 h=>by cases h;exact⟨_,aF7 (by lia)⟩))
     (bF5 (ds:=nI ((q++[1]).drop (X+1)).reverse) ?_ (Z9 b6 b7 b8 b9)) (by decide) ⟨_,rfl,rfl⟩ rfl rfl (cA5 (by lia)) ?_ ⟨k1-1,by lia,X+1,by lia,?_⟩ (Z9 (m:=m) (F:=F) (G:=G) (o:=M6 m s.o0 s.o1 s.o2) (i:=G3 (m+3) s.i0 s.i1 (TT.put s.i2 2 (q.take X))) (p:=[0]) (h:=(q++[1]).drop (X+1)) b6 b7 b8 b9)
    .show some (Sl.own (nI ((q++[1]).drop X).reverse))=_
     rw[e1,List.reverse_cons,aG7];rfl
    .rw[Aa3,TT.B8,Ad1];unfold sizeLine;lia
    .rw[bM4 (by lia),bY4,TT.B8,<- e2];rfl
  .have M:decide (((k0+1:Nat):Int)>1)=true:=by simp;lia
   rw[M,Ac rfl];obtain⟨x,hx⟩:∃x,s.path[j]? = some x:=⟨_,Aa2 (by lia)⟩
   have e1:s.path.drop j=x::s.path.drop (j+1):=by
    obtain⟨h1,h2⟩:=Ab0.mp hx;rw[<- h2];exact Cd h1
   have e2:s.h1 (j+1)=x::s.h1 j:=by
    unfold TT.S.h1;obtain⟨h1,h2⟩:=Ab0.mp hx;rw[Bz h1,h2];simp
   refine aP4 (ds:=nI (s.h1 j).reverse) (bF5 (d:=.int (x:Int)) (ds:=nI (s.path.drop (j+1)).reverse) ?_ (Z9 b6 b7 b8 b9)) rfl rfl ?_ ⟨k0-1,by lia,j+1,by lia,?_⟩ (Z9 (m:=m) (F:=F) (G:=G) (o:=M6 m s.o0 s.o1 s.o2) (i:=G3 (m+3) s.i0 s.i1 s.i2) (p:=s.path.drop (j+1)) (h:=s.h1 j) b6 b7 b8 b9)
   .show some (Sl.own (nI (s.path.drop j).reverse))=_
    rw[e1];simp[nI]
   .rw[F7,Ae1];unfold TT.S.h1 PySem.sizeLine;simp only[Ab7,Ae1,Ad1]
    lia
   .rw[e2];unfold rh
    simp[nI]
end
theorem aR2:C2 ["_law_script", "_law_k"] ["_law_script", "_law_k"] (B3 X7):={}
theorem aE3:C2 ["_law_turn", "_law_at"] ["_law_turn"] (B3 l8):={}
theorem aR3 {K:Frag}{pre:AF->AF->Prop}{n:Nat}(h:∀ds d,pre ds d->ds.length=n):∀vs H Q E,spL K pre vs H Q E->vs.length=n:=by
 rintro vs H Q E ⟨ds,S,d,_,r,p,_⟩;have e:=r.length;rw[e];exact h ds d p
def cl (ns:AD)(k:Int):Int:=(ns[k.toNat]?).getD 0
def cY2 (ds:AF)(d:PyData):Prop:=∃ns k,0<=k/\ds=[lI ns,.int k]/\d=.int (cl ns k)
def bO4 (ds:AF)(d:PyData):Prop:=∃i,ds=[.int i]/\d=.bool true
def tN (l:AC):PyData:=.tuple (nI l)
abbrev tD (d:AA):PyData:=.tuple (d.map tN)
abbrev vD (d:AA):Sl:=.val (tD d)
def bO9 (ds:AF)(d:PyData):Prop:=∃l:AC,l≠[]/\l.length<=10000/\ds=[lN l]/\d=tN (TT.T1 l)
theorem aA3 (M:Nat):∀l:AC,(l.map λ(x:Nat)=>(x:Int)).idxOf (M:Int)=l.idxOf M
 | []=>rfl
 | b::l=>by
  rw[Ac7,List.idxOf_cons,List.idxOf_cons,aA3 M l];by_cases e:b=M
  .subst e;simp
  .have e':¬(b:Int)=(M:Int):=by lia
   have h1:(b==M)=false:=by simpa using e
   have w:((b:Int)==(M:Int))=false:=by simpa using e'
   rw[h1,w]
section
variable {P:Program}{w:World}{K:Frag}{mg:Str->Option Value}{base:Heap}{a:Ad}
theorem bX4 (T:Tx K mg a):K3 P w K mg base CX0 1 a.aA2 a.aA4 ["_law_script", "_law_k"] (spV K cY2):=by
 refine T.M8.F.ok aR2 (W3 (by rintro ds d ⟨_,_,_,rfl,_⟩;rfl)) (λY A j s H vs Q E J h=>?_)
 obtain⟨ds,S,d,X,r,⟨z,k,U,rfl,rfl⟩,q⟩:=h;refine⟨_,(A6 (M1 (C0 bC2 (pv 1) (B6 L8 (by rfl) T.O3 Aw (A0 (pv 0) A5)) (F6 _)) (B1 (C8 (B5 D4 (pv 0) (pv 1) (λ_ _=>rfl)))) E8)
   (B1 (C8 A7))),K7 X r ?_ q⟩
 refine B2 (U8 (C3 (aD2 (A9 rfl) (P4 (A4 (A9 rfl) A8)))) (λh=>(L6 (d:=.int (cl z k)) (E7 (A9 rfl) (A9 rfl) rfl ?_) rfl)) (λh=>F9 ?_))
 .have h:k<(z.map PyData.int).length:=An h
  rw[Aa3]at h;refine U1 k.toNat (by lia) ?_
  have m:k.toNat<z.length:=by lia
  rw[Aa9,Aa2 m];unfold cl;rw[Aa2 m];rfl
 have h:¬k<((z.map PyData.int).length:Int):=Bm h
 rw[Aa3]at h;refine(L6 B0 ?_);show PyData.int 0=.int (cl z k);unfold cl;rw[Ad6 (by lia)];rfl
theorem bM1 (T:Tx K mg a):K3 P w K mg base CX0 1 a.aK7 a.aJ6 ["_law_turn"] (spV K bO9):=by
 refine T.o9.F.ok aE3 (W3 (by rintro ds d ⟨_,_,_,rfl,_⟩;rfl)) (λR A M s H vs Q E hr h=>?_)
 obtain⟨ds,S,d,B,r,⟨l,J,hl,rfl,rfl⟩,q⟩:=h;refine⟨_,(A6 (psS 1 aE3 (K0 Ab1 PySem.F.slot_list_index PySem.F.type_list_index (cE6 K) (pv 0) (A0 (B6 (cD2 K rfl) (by rfl) T.bZ8 boot_min (A0 (pv 0) A5)) A5)))
   (B1 (C8 (L4 P9 (by rfl) T.P1 boot_tuple (A0 (B7 (L5 K) (X0 bE9 (pv 0) (U3 (pv 1)) aS4) (X0 bE9 (pv 0) aS4 (U3 (pv 1)))) A5))))),K7 B r ?_ q⟩
 obtain⟨Y,U⟩:=TT.cB7 J;have D:lN l=lI (l.map λ(x:Nat)=>(x:Int)):=by unfold lN lI nI;simp
 have N:((TT.mn l:Nat):Int)∈(l.map λ(x:Nat)=>(x:Int))/\∀z∈(l.map λ(x:Nat)=>(x:Int)),((TT.mn l:Nat):Int)<=z:=⟨Aa8.mpr ⟨_,Y,rfl⟩,λz hz=>by
  obtain⟨y,hy,rfl⟩:=Aa8.mp hz
  have:=U y hy
  lia⟩
 have X:=aA3 (TT.mn l) l
 have j:l.idxOf (TT.mn l)<=l.length:=Cp (Ac4 Y)
 refine B2 (F3 (d:=.int (l.idxOf (TT.mn l):Nat)) ?_ ?_)
 .have h:=cR2 (K:=K) (m:=true) (ρ:=sl0 ["_law_turn", "_law_at"].length [lI (l.map λ(x:Nat)=>(x:Int))]) (ta:=C4 0) v0 (dR2 (A4 v0 A8) N) N.1
  rw[X]at h;rw[D];exact h
 refine L6 (W6 (A4 (EF.e' (aG9 (EF.e' (bO3 (ds:=nI l) (A9 rfl) (e7 (A9 rfl)) bJ4 (K9 l))) (EF.e' (bO3 (ds:=nI l) (A9 rfl) bJ4 (e7 (A9 rfl)) (K9 l))) (U5 _ _ (K9 l)) (U5 _ _ (K9 l)) ?_)) A8) ?_) ?_
 .rw[aY9 (by rw[F7];exact j),bF4 (by rw[F7];exact j),Bs,Ad1,F7];unfold sizeLine;lia
 .rw[aB6,U5 _ _ (K9 l),U5 _ _ (K9 l)];rfl
 .show PyData.tuple _=tN _
  rw[aY9 (by rw[F7];exact j),bF4 (by rw[F7];exact j)]
  unfold tN TT.T1 nI
  simp
end
end K39
namespace LV
open PySem L2
section
theorem cL2 (n:Nat)(U:E K true t ρ d)(hi:ρ[i]? = some (.own ds))(J:E K false tb ρ (.int k))(j:k=n)(N:n<ds.length)(M:R.nx (ρ.set i (.own (ds.set n d))))(nb:O0 ρ=true:=by rfl) :
  W K (aP5 t (dH7 (C4 i) tb cO6)) ρ R:=λS B D σ H o I s=>by
 refine U S B σ H o I _ λx X Y Q=>?_
 obtain⟨p,hp,a,xs,b,c⟩:=(I.grow Y).own i ds hi;refine⟨_,a,?_⟩;refine J S B σ X o (I.grow Y) _ λw F z m=>?_
 cases m
 have P:=c.length
 refine⟨p,xs,k,n,rfl,rfl,z _ _ b,by unfold ixN;rw[Ac (by lia),Ac (by lia)];simp[j],?_⟩
 exact s.nx _ σ _ _ (((I.grow Y).grow z).upd hi hp ((c.mono (K5 z)).set n (Q.mono (K5 z))) (J4 nb)) M
theorem Reps.rep (r:Reps K H xs ds):∀n:Nat,Reps K H (List.replicate n xs).flatten (List.replicate n ds).flatten
 | 0=>.nil
 | n+1=>by
  rw[Bp,Bp,Ca,Ca];exact r.append (Reps.rep r n)
theorem bN3 (h:K6 ds=true):∀n:Nat,K6 (List.replicate n ds).flatten=true
 | 0=>rfl
 | n+1=>by rw[Bp,Ca,aB6,h,bN3 h n];rfl
theorem cM8 (U:EF K ta ρ ds)(J:E K false tb ρ (.int k))(hi:K6 ds=true)(h1 : -(2^63)<=k)(X:k<2^63)(M:ds.length*k.toNat<=sizeLine):EF K (tOp dT4 ta tb) ρ (List.replicate k.toNat ds).flatten:=λS B σ H o I Q q=>
 U S B σ H o I _ λp xs H1 j F e1 R=>J S B σ H1 o (I.grow j) _ λy Y z D=>by
  cases D
  have m:Reps K Y xs ds:=(R.mono P5).mono z
  refine⟨p,k,xs,rfl,rfl,z _ _ e1,h1,X,by rw[m.length];exact M,λN w=>?_⟩
  exact q N _ _ (L2.Same.tr (L2.Same.tr j z) (D8 w)) (T2 (L2.Same.tr j z) w) C5 (j5 (I.grow (L2.Same.tr j z)).lists w (m.rep _) (bN3 hi _))
end
section
theorem bP7:∀{ts:AB} {vs:List V},Reps K H vs (ts.map tI)->(∀t∈ts,t≠[])->TupsV K H vs ts
 | [],_,r,_=>by cases r;exact trivial
 | t::ts,_,r,h=>by
  cases r with
  | cons a b=>
   refine⟨?_,bP7 b λt ht=>h t (by simp[ht])⟩
   cases a with
   | tup s r=>rw[r.ints]at s;exact⟨_,rfl,s,h t (by simp)⟩
theorem aN5 {H:Hp}{vs:List V}{ts:AB}(r:Reps K H vs (ts.map tI)):∀{q:AC},(∀i∈q,i<vs.length)->Reps K H (q.map λi=>vs.getD i .non) ((q.map λi=>ts.getD i []).map tI)
 | [],_=>.nil
 | i::q,h=>by
  have hi:=h i (by simp)
  have m:=r.length
  rw[Aa3]at m;obtain⟨v,h1,w⟩:=r.get' (i:=i) (d:=tI (ts.getD i [])) (by
   rw[Aa9,Aa2 (by lia)]
   simp[List.getD,Aa2 (show i<ts.length by lia)])
  have e:vs.getD i .non=v:=by simp[List.getD,h1]
  rw[Ac7,Ac7,Ac7,e];exact .cons w (aN5 r λj z=>h j (by simp[z]))
theorem j9 {t:TA}{ts ss:AB}(N:A K false t ρ [.list (ts.map tI)])(Y:∀t∈ts,t≠[])(M:ts.length<64)(hp:ss.Perm ts)(F:ss.Pairwise G9) :
  EF K (tCB (λxs H Q=>∃(p:Addr) (ys:List V) (ts:AB),xs=[.ref p]/\SqL K H p ys/\TupsV K H ys ts/\ys.length<64 /\
   ∀a (q:AC),H a=none->q.Perm (List.range ys.length)->(q.map λi=>ts.getD i []).Pairwise G9->Q (.ref a) (upd H a (.lst (q.map λi=>ys.getD i .non)))) t) ρ (ss.map tI):=
 dC7 N (U9 aN7 ss) λH vs Q r q=>by
  cases r with
  | cons a b=>
   cases b
   cases a with
   | @lst p xs _ s r=>
    have D:=r.length
    rw[Aa3]at D;refine⟨p,xs,ts,rfl,s,bP7 r Y,by lia,λa m h1 z U=>q a _ h1 ?_⟩
    have e:(m.map λi=>ts.getD i [])=ss:=by
     have w:(m.map λi=>ts.getD i []).Perm ts:=by
      have X:(m.map λi=>ts.getD i []).Perm ((List.range xs.length).map λi=>ts.getD i []):=z.map _
      have J:(List.range xs.length).map (λi=>ts.getD i [])=ts:=by
       refine List.ext_getElem? λj=>?_
       by_cases R:j<xs.length
       .rw[P7 R];simp[List.getD,Aa2 (show j<ts.length by lia)]
       .rw[Ad6 (by simp;lia),Ad6 (by lia)]
      rw[J]at X;exact X
     exact List.Perm.eq_of_pairwise (le:=G9) (λa b _ _ h1 z=>aJ3 a b h1 z) U F (w.trans hp.symm)
    have:=aN5 r (q:=m) λi hi=>Ab5.mp (z.mem_iff.mp hi)
    rw[e]at this;exact this
end
end LV
namespace K39
open PySem L2 LV PyProof.Rows
theorem aZ8:C2 ["_law_cell", "_law_k"] ["_law_cell", "_law_k"] (B3 l9):={}
theorem cS2 (h : -1000000000000000000<i/\i<1000000000000000000)(h' : -1000000000000000000<j/\j<1000000000000000000):CMulB i j:=by
 have:(1000000000000000000:Nat)<2^512:=by decide
 constructor <;> lia
def mx0 (c k:Int):Int:=(c % 1000000007*(k+3)*48271+(k+1)*(k+5)*69621) % 2147483647
def mx (c k:Int):Int:=mx0 c k*40692 % 2147483399
theorem dR6 (c k:Int):0<=mx0 c k/\mx0 c k<2147483647:=⟨Cc _ (by decide),Co _ (by decide)⟩
theorem dV3 (c k:Int):0<=mx c k/\mx c k<2147483399:=⟨Cc _ (by decide),Co _ (by decide)⟩
def i9 (ds:AF)(d:PyData):Prop:=∃c k,(0<=k/\k<=1000)/\ds=[.int c,.int k]/\d=.int (mx c k)
theorem cK7 {x y A B:Int}(h:0<=x/\x<=A)(h':0<=y/\y<=B):0<=x*y/\x*y<=A*B:=⟨Int.mul_nonneg h.1 h'.1,Int.mul_le_mul h.2 h'.2 h'.1 (Int.le_trans h.1 h.2)⟩
section
variable {P:Program}{w:World}{K:Frag}{mg:Str->Option Value}{base:Heap}{a:Ad}
theorem aM0 (T:Tx K mg a):K3 P w K mg base CX0 1 a.aI0 a.aI4 ["_law_cell", "_law_k"] (spV K i9):=by
 refine T.N3.F.ok aZ8 (W3 (by rintro ds d ⟨_,_,_,rfl,_⟩;rfl)) (λm A z s H vs Q E N h=>?_)
 obtain⟨ds,S,d,Y,r,⟨c,k,⟨M,h1⟩,rfl,rfl⟩,q⟩:=h;have j:0<=c % 1000000007/\c % 1000000007<=1000000007:=⟨Cc _ (by decide),Int.le_of_lt (Co _ (by decide))⟩
 have X:=cK7 j (y:=k+3) (B:=2000) ⟨by lia,by lia⟩
 have U:=cK7 (x:=k+1) (A:=2000) (y:=k+5) (B:=2000) ⟨by lia,by lia⟩ ⟨by lia,by lia⟩
 have J:=dR6 c k
 refine⟨_,(B1 (C8 (B7 T8 (B7 aI6 (B7 T8 (B7 J6 (B7 aI6 (B7 aI6 (B7 T8 (pv 0) A7) (B7 J6 (pv 1) A7)) A7) (B7 aI6 (B7 aI6 (B7 J6 (pv 1) A7) (B7 J6 (pv 1) A7)) A7)) A7) A7) A7))),K7 Y r ?_ q⟩;refine L6 (d:=.int (mx c k)) (e_i (e_i (i:=mx0 c k) (e_i (N0 (e_i (e_i (e_i (A9 rfl) B0 ?_) (N0 (A9 rfl) B0) ?_) B0 ?_) (e_i (e_i (N0 (A9 rfl) B0) (N0 (A9 rfl) B0) ?_) B0 ?_)) B0 ?_) B0 (cS2 (by lia) (by lia))) B0 (by decide)) rfl
 .decide
 .exact cS2 (by lia) (by lia)
 .exact cS2 (by lia) (by lia)
 .exact cS2 (by lia) (by lia)
 .exact cS2 (by lia) (by lia)
 .decide
end
end K39
namespace TT
def pk:Nat->Int->AC->AC
 | 0,_,_=>[]
 | n+1,r,l=>l.getD (r % l.length).toNat 0::pk n (r / l.length) (l.eraseIdx (r % l.length).toNat)
theorem cC4 {r:Int}{l:AC}(h:l≠[]):(r % l.length).toNat<l.length:=by
 have z:0<l.length:=Dc.mpr h
 have h1:=Cc r (b:=(l.length:Int)) (by lia)
 have w:=Co r (b:=(l.length:Int)) (by lia)
 lia
theorem aX1:∀(l:AC) (i:Nat) (h:i<l.length),(l[i]::l.eraseIdx i).Perm l
 | a::l,0,h=>.refl _
 | a::l,i+1,h=>by
  have ih:=aX1 l i (by simpa using h)
  simp only[List.getElem_cons_succ,List.eraseIdx_cons_succ];exact(List.Perm.swap _ _ _).trans (ih.cons a)
theorem bE2:∀(n:Nat) (r:Int) (l:AC),l.length=n->(pk n r l).Perm l
 | 0,r,l,h=>by rw[List.length_eq_zero_iff.mp h];exact .nil
 | n+1,r,l,h=>by
  have w:l≠[]:=λe=>by rw[e]at h;simp at h
  have hi:=cC4 (r:=r) w
  unfold pk;have e:l.getD (r % l.length).toNat 0=l[(r % l.length).toNat]:=by simp[List.getD,Aa2 hi]
  rw[e];have z:=bE2 n (r / l.length) (l.eraseIdx (r % l.length).toNat) (by rw[List.length_eraseIdx_of_lt hi];lia)
  exact(z.cons _).trans (aX1 l _ hi)
theorem dU8 (h:l.Perm ((List.range m).map (· + 3))):Nm (m+3) λv=>([0,1,2]++l).getD v 0:=by
 have U:l.length=m:=by rw[h.length_eq];simp
 have nd:([0,1,2]++l).Nodup:=by
  have h1:l.Nodup:=h.nodup_iff.mpr (Ae0.mpr (Df.imp λh e=>h (by lia)))
  have j:∀x∈l,3<=x:=λx hx=>by
   obtain⟨y,_,e⟩:=Aa8.mp (h.mem_iff.mp hx)
   lia
  refine Aa4.mpr ⟨by decide,h1,λa Y b X e=>?_⟩
  have:=j b X
  simp at Y;lia
 have lt:∀x∈[0,1,2]++l,x<m+3:=λx hx=>by
  rcases Aa0.mp hx with hx | hx
  .simp at hx;lia
  .obtain⟨y,M,e⟩:=Aa8.mp (h.mem_iff.mp hx)
   have:=Ab5.mp M
   lia
 have len:([0,1,2]++l).length=m+3:=by simp[U]
 have at_:∀v,(z:v<m+3)->([0,1,2]++l).getD v 0=([0,1,2]++l)[v]'(by lia):=λv z=>by rw[Ac0,Aa2 (by lia)];rfl
 refine⟨λv z=>?_,λv w z J e=>?_,rfl,rfl,rfl⟩
 .show([0,1,2]++l).getD v 0<m+3
  rw[at_ v z];exact lt _ (Di _)
 .have e:([0,1,2]++l).getD v 0=([0,1,2]++l).getD w 0:=e
  rw[at_ v z,at_ w J]at e;exact(List.getElem_inj nd).mp e
end TT
namespace K39
open PySem L2 LV PyProof.Rows
theorem G6:C2 ["_law_cell", "_law_m", "_law_names_here", "_law_rest", "_law_k", "_law_left", "_law_ranks"] ["_law_cell", "_law_m"] (B3 s9):={}
def rs (c:Int):Nat->Int
 | 0=>c / 2
 | j+1=>rs c j / 4096
def prs (c:Int)(m:Nat):AB:=(List.range m).map λ(k:Nat)=>[mx c (40+(k:Int)),(k:Int)]
def srt (c:Int)(m:Nat):AB:=(prs c m).mergeSort λa b => !HT.Y4 b a
def nm (c:Int)(m:Nat):AC:=[0,1,2]++(if c % 2=1 then TT.pk m (rs c m) ((List.range m).map (· + 3)) else(srt c m).map λt=>(t.getD 1 0).toNat+3)
theorem aA7 (c:Int)(m:Nat):(srt c m).Perm (prs c m):=List.mergeSort_perm _ _
theorem cG2 (c:Int)(m:Nat):(srt c m).Pairwise G9:=by
 have:=List.pairwise_mergeSort (le:=λa b:AD => !HT.Y4 b a) (λa b d h1 w=>by
  have:=aC7 a b d (by unfold G9;simpa using h1) (by unfold G9;simpa using w)
  unfold G9 at this;simp[this]) (λa b=>by
  rcases bC9 a b with h | h <;> unfold G9 at h <;> simp[h]) (prs c m)
 refine this.imp λh=>?_
 unfold G9;simpa using h
theorem dQ2 (c:Int)(m:Nat):TT.Nm (m+3) λv=>(nm c m).getD v 0:=by
 unfold nm;refine TT.dU8 ?_;split
 .exact TT.bE2 _ _ _ (by simp)
 .refine((aA7 c m).map _).trans ?_
  have:(prs c m).map (λt=>(t.getD 1 0).toNat+3)=(List.range m).map (· + 3):=by
   unfold prs;rw[Ae2];rfl
  rw[this]
theorem dM7 (c:Int)(m:Nat):(nm c m).length=m+3:=by
 unfold nm;split
 .rw[Ab7,(TT.bE2 m (rs c m) _ (by simp)).length_eq];simp;lia
 .rw[Ab7,Aa3,(aA7 c m).length_eq];simp[prs];lia
def cO8 (ds es:AF):Prop:=∃(c:Int) (m:Nat),m<=20/\ds=[.int c,.int (m:Int)]/\es=nI (nm c m)
theorem bA4:∀(l:List α) (n:Nat),(l.map f).eraseIdx n=(l.eraseIdx n).map f
 | [],n=>rfl
 | a::l,0=>rfl
 | a::l,n+1=>by simp[List.eraseIdx_cons_succ,bA4 l n]
def f1 (c:Int):PyData->Option PyData
 | .int k=>some (tI [mx c (40+k),k])
 | _=>none
def f2:PyData->Option PyData
 | .tuple [_,.int k]=>some (.int (3+k))
 | _=>none
theorem M7:∀{l:List α},(∀x∈l,f x=g x)->l.filterMap f=l.filterMap g
 | [],_=>rfl
 | a::l,h=>by rw[Bo,Bo,h a (by simp),M7 λx hx=>h x (by simp[hx])]
theorem dL1 (c:Int)(m:Nat):(U4 0 m).filterMap (f1 c)=(prs c m).map tI:=by
 unfold U4 prs;rw[Bb,Ae2,<- List.filterMap_eq_map];refine M7 λx _=>?_
 show f1 c (.int (0+(x:Int)))=_
 rw[Int.zero_add];rfl
theorem bY5 (h:t∈srt c m):∃k:Nat,t=[mx c (40+(k:Int)),(k:Int)]:=by
 have:=(aA7 c m).mem_iff.mp h
 obtain⟨k,_,e⟩:=Aa8.mp this;exact⟨k,e.symm⟩
theorem dG6 (c:Int)(m:Nat):((srt c m).map tI).filterMap f2=nI ((srt c m).map λt=>(t.getD 1 0).toNat+3):=by
 unfold nI;rw[Bb,Ae2,<- List.filterMap_eq_map];refine M7 λt w=>?_
 obtain⟨k,rfl⟩:=bY5 w;show some (PyData.int (3+(k:Int)))=some (PyData.int ((((k:Int)).toNat+3:Nat):Int))
 congr 2
 lia
theorem nd1:(["_law_k", "_law_cell"]:AH).Nodup:=by decide +kernel
theorem nd2:(["_law_rank"]:AH).Nodup:=by decide +kernel
section
variable {P:Program}{w:World}{K:Frag}{mg:Str->Option Value}{base:Heap}{a:Ad}
theorem cG1 (T:Tx K mg a):K3 P w K mg base CX0 2 a.aJ9 a.aN0 ["_law_cell", "_law_m"] (spL K cO8):=by
 have z := @aM0 P w K mg base a T
 refine T.aH2.F.ok G6 (aR3 (by rintro ds d ⟨_,_,_,rfl,_⟩;rfl)) (λcdv A outer s H vs Q E hr h=>?_)
 obtain⟨ds,S,es,hS,r,⟨c,m,hm,rfl,rfl⟩,q⟩:=h;refine⟨_,(A6 (psS 2 G6 (D0 (A0 A7 (A0 A7 (A0 A7 A5)))))
   (A6 (M1 (C0 aP9 (B7 T8 (pv 0) A7) A7 (F6 _)) (A6 (psS 3 G6 (B7 aC6 (pv 0) A7))
   (A6 (J8 Aj rfl (K2 rfl T.L9 (A0 (pv 1) A5)) (pgN 4 G6) (B1 (psS 3 G6 (B7 aC6 (pv 3) A7))))
   (A6 (psS 5 G6 (L4 (bA2 rfl) (by rfl) T.aG0 boot_list (A0 (cU2 rfl T.L9 (A0 A7 (A0 (B7 J6 (pv 1) A7) A5))) A5)))
   (A6 (J8 Aj rfl (K2 rfl T.L9 (A0 (pv 1) A5)) (pgN 4 G6) (A6 (E5 (K0 Ab1 Ag Af D2 (pv 2) (A0 (K0 Ab1 PySem.F.slot_list_pop PySem.F.type_list_pop cR4 (pv 5) (A0 (B7 T8 (pv 3) (B6 L8 (by rfl) T.O3 Aw (A0 (pv 5) A5))) A5)) A5)))
   (B1 (psS 3 G6 (B7 aC6 (pv 3) (B7 J6 (B6 L8 (by rfl) T.O3 Aw (A0 (pv 5) A5)) A7))))))
   (B1 (C8 (pv 2))))))) E8)
   (A6 (psS 6 G6 (B6 (O2 K) (by rfl) T.N8 boot_sorted (A0 (N2 (T:=["_law_k"]) (N':=["_law_k", "_law_cell"]) (is:=[0]) rfl (.of rfl rfl rfl (by exact⟨rfl,trivial⟩) rfl rfl rfl (by first | exact⟨⟨_,rfl,.inl rfl,.inl rfl⟩,trivial⟩ | exact⟨⟨_,rfl,.inr rfl,.inl rfl⟩,trivial⟩)) (K2 rfl T.L9 (A0 (pv 1) A5)) (J0 (by decide)) λ_ _ _ _=>⟨(E9 (i:=0) nd1 rfl (Or.inl rfl)),N7,(D3 (A0 (pcl z hr T.N3 (A0 (pv 1) (A0 (B7 J6 A7 (pv 0)) A5))) (A0 (pv 0) A5)))⟩) A5)))
   (B1 (C8 (B7 (L5 K) (pv 2) (N2 (T:=["_law_rank"]) (N':=["_law_rank"]) (is:=[]) rfl (.of rfl rfl rfl trivial rfl rfl rfl trivial) (M4 (pv 6)) (J0 (by decide)) λ_ _ _ _=>⟨(E9 (i:=0) nd2 rfl (Or.inl rfl)),N7,(B7 J6 A7 (B5 (ixK K) (pv 0) A7 (λ_ _=>rfl)))⟩))))))),W0 hS r ?_ q⟩
 refine B2 (E4 (F4 (A4 B0 (A4 B0 (A4 B0 A8)))) ?_ (show 2<7 by decide))
 show W K _ [vI c,vI (m:Int),.own (nI [0,1,2]),.no,.no,.no,.no] _
 refine B2 (U8 (C3 (j4 (e_i (A9 rfl) B0 (by decide)) B0)) (λh=>?_) (λh=>F9 ?_))
 .have h:c % 2=1:=An h
  refine B2 (F3 (d:=.int (rs c 0)) (e_i (A9 rfl) B0 ⟨by decide,by decide⟩) ?_)
  refine B2 (N9 (T3 (A4 (A9 rfl) A8) ?_ ?_) (λj ρ=>∃U,U.nb=true/\ρ=[vI c,vI (m:Int),.own (nI [0,1,2]),vI (rs c j),U,.no,.no]) ⟨.no,rfl,rfl⟩ ?_ ?_)
  .lia
  .lia
  .rintro j d _ M ⟨U,b4,rfl⟩;obtain⟨rfl,hj⟩:=U0 M;refine⟨_,B4,?_⟩;exact F3 (d:=.int (rs c (j+1))) (e_i (A9 rfl) B0 ⟨by decide,by decide⟩) ⟨.val (.int (j:Int)),rfl,rfl⟩
  rintro _ ⟨U,b4,rfl⟩;rw[O8,Ac8];refine B2 (E4 (ds:=nI ((List.range m).map (· + 3))) ?_ ?_ (show 5<7 by decide))
  .have:=dJ6 (K:=K) (ρ:=[vI c,vI (m:Int),.own (nI [0,1,2]),vI (rs c m),U,.no,.no]) (i:=3) (j:=(m:Int)+3) (A4 B0 (A4 (N0 v1 B0) A8)) (by lia)
   have e:U4 3 ((m:Int)+3-3).toNat=nI ((List.range m).map (· + 3)):=by
    have e':((m:Int)+3-3).toNat=m:=by lia
    rw[e'];unfold U4 nI;rw[Ae2];refine Bg λx _=>?_
    show PyData.int (3+(x:Int))=PyData.int ((x+3:Nat):Int)
    congr 1;lia
   rw[e]at this;exact this
  refine B2 (N9 (T3 (A4 (A9 rfl) A8) ?_ ?_) (λj ρ=>∃U pre l r,U.nb=true/\TT.pk m (rs c m) ((List.range m).map (· + 3))=pre++TT.pk (m-j) r l/\l.length=m-j/\pre.length<=j/\ρ=[vI c,vI (m:Int),.own (nI ([0,1,2]++pre)),vI r,U,.own (nI l),.no]) ⟨U,[],(List.range m).map (· + 3),rs c m,b4,by simp,by simp,by simp,rfl⟩ ?_ ?_)
  .lia
  .lia
  .rintro j d _ M ⟨U,pre,l,X,b4,J,N,hpl,rfl⟩;obtain⟨rfl,hj⟩:=U0 M;have hj:j<m:=by lia
   have D:l≠[]:=λe=>by rw[e]at N;simp at N;lia
   have hpos:0<l.length:=Dc.mpr D
   have Y:=TT.cC4 (r:=X) D
   have hnn:=Cc X (b:=(l.length:Int)) (by lia)
   generalize hn:(X % (l.length:Int)).toNat=n at Y;refine⟨_,B4,?_⟩;show W K _ [vI c,vI (m:Int),.own (nI ([0,1,2]++pre)),vI X,vI (j:Int),.own (nI l),.no] _;refine B2 (aP4 (i:=2) (j:=5) (ds:=nI ([0,1,2]++pre)) (d:=.int (l[n]:Nat)) (cM9 n (ds:=nI l) rfl (e_i (A9 rfl) (P4 (A4 (F2 rfl) A8)) ?_) ?_ ?_ ?_) rfl rfl ?_ ?_)
   .rw[F7];lia
   .rw[F7,<- hn];lia
   .unfold nI;rw[Aa9,Aa2 Y];rfl
   .lia
   .rw[F7];simp;unfold sizeLine;lia
   have el:(nI l).eraseIdx n=nI (l.eraseIdx n):=by unfold nI;rw[bA4]
   have el2:((nI (l.eraseIdx n)).length:Int)+1=(l.length:Int):=by rw[F7,List.length_eraseIdx_of_lt Y];lia
   have ea:nI ([0,1,2]++pre)++[PyData.int (l[n]:Nat)]=nI ([0,1,2]++(pre++[l[n]])):=by simp[nI]
   show W K _ [vI c,vI (m:Int),.own (nI ([0,1,2]++pre)++[PyData.int (l[n]:Nat)]),vI X,vI (j:Int),.own ((nI l).eraseIdx n),.no] _
   rw[el,ea];refine F3 (d:=.int (X / (l.length:Int))) ?_ ⟨.val (.int (j:Int)),pre++[l[n]],l.eraseIdx n,X / (l.length:Int),rfl,?_,?_,?_,rfl⟩
   .rw[<- el2];exact e_i (A9 rfl) (N0 (P4 (A4 (F2 rfl) A8)) B0) ⟨by lia,by lia⟩
   .rw[J];obtain⟨k,hk⟩:∃k,m-j=k+1:=⟨m-j-1,by lia⟩
    have hk':m-(j+1)=k:=by lia
    rw[hk,hk'];show pre++(l.getD (X % (l.length:Int)).toNat 0::TT.pk k (X / (l.length:Int)) (l.eraseIdx (X % (l.length:Int)).toNat))=_;rw[hn,Ac0,Aa2 Y]
    simp
   .rw[List.length_eraseIdx_of_lt Y];lia
   .simp;lia
  rintro _ ⟨U,pre,l,X,b4,J,N,hpl,rfl⟩;rw[O8,Ac8,Nat.sub_self]at J;refine bJ2 (ds:=nI ([0,1,2]++pre)) rfl ?_;show nI _=nI (nm c m);unfold nm;rw[Ac h,J];simp[TT.pk]
 have h:¬c % 2=1:=Bm h
 have B:(srt c m).length=m:=by rw[(aA7 c m).length_eq];simp[prs]
 have c1:=J7 (K:=K) (m:=true) (ρ:=[vI c,vI (m:Int),.own (nI [0,1,2]),.no,.no,.no,.no]) (n:=1) (is:=[0]) (g:=F5 0) (tt:=aM1)
  (te:=aL8 (C9 (Y7 (spV K i9) [] E0 (C9 (C4 1) (C9 (tOp (rI0 λi j=>V.int (i+j)) (tC (.int 40)) (C4 0)) O1))) (C9 (C4 0) O1))) (f1 c) (T3 (A4 v1 A8) (by lia) (by lia)) (by rw[O8];unfold sizeLine;lia) (λd M=>by
   obtain⟨i,hi⟩:=List.mem_iff_getElem?.mp M;obtain⟨rfl,hi⟩:=U0 hi;have hi:i<m:=by lia
   exact⟨_,B4,y9,G1 (A4 (D7 (A4 (A9 rfl) (A4 (N0 B0 (A9 rfl)) A8)) ⟨c,40+(i:Int),by lia,rfl,rfl⟩) (A4 (A9 rfl) A8))⟩)
 rw[Ac8,dL1]at c1;refine B2 (E4 (ds:=(srt c m).map tI) (j9 (ts:=prs c m) (A4 (EF.e' c1) A8) (λt ht=>?_) ?_ (aA7 c m) (cG2 c m)) ?_ (show 6<7 by decide))
 .obtain⟨k,_,rfl⟩:=Aa8.mp ht;simp
 .simp[prs];lia
 show W K _ [vI c,vI (m:Int),.own (nI [0,1,2]),.no,.no,.no,.own ((srt c m).map tI)] _
 have c2:=J7 (K:=K) (m:=false) (ρ:=[vI c,vI (m:Int),.own (nI [0,1,2]),.no,.no,.no,.own ((srt c m).map tI)]) (n:=1) (is:=[]) (g:=F5 0) (tt:=aM1)
  (te:=tOp (rI0 λi j=>V.int (i+j)) (tC (.int 3)) (tOp (rIx K) (C4 0) (tC (.int 1)))) f2 (P6 (F2 (i:=6) rfl)) (by rw[Aa3,B];unfold sizeLine;lia) (λd M=>by
   obtain⟨t,ht,rfl⟩:=Aa8.mp M;obtain⟨k,rfl⟩:=bY5 ht;exact⟨_,B4,y9,N0 B0 (E7 (y6 rfl) B0 rfl rfl)⟩)
 rw[dG6]at c2
 have:=u4 (R:={nx:=λ_=>False,rl:=λe=>e=nI (nm c m)}) (aG9 (F2 (i:=2) rfl) (EF.e' c2) (K9 _) (K9 _) (by rw[F7,F7,Aa3,B];unfold sizeLine;simp;lia)) (by
  show _=nI (nm c m)
  unfold nm;rw[Ab h,<- aG7])
 exact this
end
end K39
namespace TT
def pfg (N:Nat->Int):Nat->Nat×Nat
 | 0=>(0,0)
 | j+1=>((pfg N j).1+(N j % ((j:Int)+1-(pfg N j).1)).toNat,(pfg N j).2+(N j / 64 % ((((pfg N j).1+(N j % ((j:Int)+1-(pfg N j).1)).toNat:Nat):Int)+1-(pfg N j).2)).toNat)
def rF (N:Nat->Int)(j:Nat):Nat:=(pfg N (j+1)).1
def rG (N:Nat->Int)(j:Nat):Nat:=(pfg N (j+1)).2
theorem dQ7 (N:Nat->Int):∀j,pv (rF N) j=(pfg N j).1
 | 0=>rfl
 | _+1=>rfl
theorem dS3 (N:Nat->Int):∀j,pv (rG N) j=(pfg N j).2
 | 0=>rfl
 | _+1=>rfl
theorem bP9 (N:Nat->Int)(j:Nat):rF N j=(pfg N j).1+(N j % ((j:Int)+1-(pfg N j).1)).toNat:=rfl
theorem cL3 (N:Nat->Int)(j:Nat):rG N j=(pfg N j).2+(N j / 64 % ((rF N j:Int)+1-(pfg N j).2)).toNat:=rfl
theorem bH3 (N:Nat->Int):∀j,(pfg N j).1<=j/\(pfg N j).2<=(pfg N j).1/\(pfg N (j+1)).1<=j/\(pfg N (j+1)).2<=(pfg N (j+1)).1
 | j=>by
  have base:(pfg N j).1<=j/\(pfg N j).2<=(pfg N j).1:=by
   cases j with
   | zero=>exact⟨Aa7 _,Aa7 _⟩
   | succ i=>
    have:=bH3 N i
    exact⟨by lia,this.2.2.2⟩
  have h1:rF N j<=j:=by
   rw[bP9];have h:=Co (N j) (b:=(j:Int)+1-(pfg N j).1) (by lia)
   have w:=Cc (N j) (b:=(j:Int)+1-(pfg N j).1) (by lia)
   lia
  have m:(pfg N j).1<=rF N j:=by rw[bP9];lia
  have z:rG N j<=rF N j:=by
   rw[cL3];have h:=Co (N j / 64) (b:=(rF N j:Int)+1-(pfg N j).2) (by lia)
   have w:=Cc (N j / 64) (b:=(rF N j:Int)+1-(pfg N j).2) (by lia)
   lia
  exact⟨base.1,base.2,h1,z⟩
theorem u8 (N:Nat->Int)(m:Nat):Rws (rF N) (rG N) m where
 f1:=λi _=>by rw[dQ7,bP9];lia
 f2:=λi _=>(bH3 N i).2.2.1
 g1:=λi _=>by rw[dS3,cL3];lia
 g2:=λi _=>(bH3 N i).2.2.2
end TT
namespace K39
open PySem L2 LV PyProof.Rows
theorem sc__law_built:C2 ["_law_cell", "_law_cells", "_law_m", "_law_first", "_law_second", "_law_rest", "_law_i", "_law_number", "_law_low", "_law_turns", "_law_outs", "_law_names_here", "_law_called", "_law_triples", "_law_v"] ["_law_cell", "_law_cells", "_law_m"] (B3 m5):={}
def rr (c:Int)(j:Nat):Int:=if c % 2=1 then rs c j else c / 2
def nu (c:Int)(cells:AD)(j:Nat):Int:=if c % 2=1 then rs c j % 4096 else mx (cl cells j) j
def nf (c:Int)(m:Nat)(v:Nat):Nat:=(nm c m).getD v 0
def cT9 (ds:AF)(d:PyData):Prop:=∃(c:Int) (cells:AD) (m:Nat) (dr tr:AA),m<=7/\TT.Bt (TT.rF (nu c cells)) (TT.rG (nu c cells)) m (nf c m) dr tr/\ds=[.int c,lI cells,.int (m:Int)]/\d=.tuple [tD dr,tD tr]
def rb (c:Int)(cells:AD)(m:Nat)(f g:AD)(r:Int)(x6 x7 x8:Sl):List Sl:=[vI c,.val (lI cells),vI (m:Int),.own (f.map PyData.int),.own (g.map PyData.int),vI r,x6,x7,x8,.no,.no,.no,.no,.no,.no]
theorem dD8 (w:x6.nb=true)(z:x7.nb=true)(j:x8.nb=true):O0 (rb c cells m f g r x6 x7 x8)=true:=by
 unfold rb;simp only[o6,w,z,j,Bool.true_and];rfl
theorem aR7 (F:Nat->Nat)(j:Nat):fl F (j+1)=fl F j++[(F j:Int)]:=by simp[fl,Ce]
def rc (c:Int)(cells:AD)(m:Nat)(x3 x4 r:PyData)(x6 x7 x8:Sl)(tD oD:PyData)(nmD L T:AF)(x14:Sl):List Sl:=[vI c,.val (lI cells),vI (m:Int),.val x3,.val x4,.val r,x6,x7,x8,.val tD,.val oD,.own nmD,.own L,.own T,x14]
theorem dF6 {c:Int}{cells:AD}{m:Nat}{x3 x4 r:PyData}{x6 x7 x8:Sl}{tD oD:PyData}{nmD L T:AF}{x14:Sl}(z:x6.nb=true)(j:x7.nb=true)(Y:x8.nb=true)(w:x14.nb=true):O0 (rc c cells m x3 x4 r x6 x7 x8 tD oD nmD L T x14)=true:=by
 unfold rc;simp only[o6,z,j,Y,w,Bool.true_and];rfl
def f3 (f:Nat->Nat):PyData->Option PyData
 | .int k=>some (.int (f k.toNat:Nat))
 | _=>none
theorem cP1 (f:Nat->Nat)(l:AC):(nI l).filterMap (f3 f)=nI (l.map f):=by
 unfold nI;rw[Bb,Ae2,<- List.filterMap_eq_map];exact M7 λx _=>rfl
theorem aY0 (a:α):∀n:Nat,(List.replicate n [a]).flatten=List.replicate n a
 | 0=>rfl
 | n+1=>by rw[Bp,Ca,aY0 a n];rfl
theorem EF.to {K:Frag}{t:TE}{ρ:List Sl}{ds es:AF}(h:LV.EF K t ρ ds)(e:ds=es):LV.EF K t ρ es:=e▸h
theorem dM4 {F G:Nat->Nat}{m v:Nat}(R:TT.Rws F G m)(Y:v<m+3):(TT.gst F G m).row v≠[]:=by
 have w:=TT.P2 R m (Aa7 _)
 obtain⟨p,hp⟩:=w.inv.pe;by_cases z:v=0
 .subst z;rw[TT.aJ2];simp
 .by_cases h1:v=1
  .subst h1;rw[TT.aW2];simp
  .by_cases j:v=2
   .subst j;rw[TT.aK6,hp];simp
   .rw[TT.O6 (by lia) (by rw[w.k];exact Y)];simp
theorem bV8 {c:Int}{m p:Nat}(h:p<m+3):atI (nI (nm c m)) (p:Int)=some (.int (nf c m p:Nat)):=by
 refine U1 p rfl ?_;unfold nI nf;rw[Aa9,Ac0,Aa2 (by rw[dM7];exact h)];rfl
theorem bK8 {L:AF}{f:Nat->Nat}{n j:Nat}{g:Nat->PyData}{x:PyData}(w:f j<L.length)(inj:∀v,v<j->f v≠f j)(h:∀v,v<j->L[f v]? = some (g v))(m:x=g j):∀v,v<j+1->(L.set (f j) x)[f v]? = some (g v):=λv Y=>by
 by_cases e:v=j
 .subst e;rw[Bc w,m]
 .rw[Ad0 (λz=>inj v (by lia) z.symm)];exact h v (by lia)
theorem aT3 (w:imm x=true):∀{L:AF} (n:Nat),K6 L=true->K6 (L.set n x)=true
 | [],_,h=>h
 | a::L,0,h=>by simp[K6]at h ⊢;exact⟨w,h.2⟩
 | a::L,n+1,h=>by simp[K6]at h ⊢;exact⟨h.1,aT3 w n h.2⟩
theorem bU8 (l:AC):imm (tN l)=true:=by unfold tN;simp[imm,K9]
theorem nd3:(["_law_place", "_law_names_here"]:AH).Nodup:=by decide +kernel
section
variable {P:Program}{w:World}{K:Frag}{mg:Str->Option Value}{base:Heap}{a:Ad}
theorem cO4 (T:Tx K mg a):K3 P w K mg base CX0 3 a.aL4 a.aL5 ["_law_cell", "_law_cells", "_law_m"] (spV K cT9):=by
 have R := @aM0 P w K mg base a T
 have U := @bX4 P w K mg base a T
 have M := @cS4 P w K mg base a T
 have D := @cG1 P w K mg base a T
 have J := @bM1 P w K mg base a T
 refine T.aM3.F.ok sc__law_built (W3 (by rintro ds d ⟨_,_,_,_,_,_,_,rfl,_⟩;rfl)) (λcdv A outer s H vs Q E hr h=>?_)
 obtain⟨ds,S,d,hS,r,⟨c,Y,m,dr,tr,hm,B,rfl,rfl⟩,q⟩:=h;refine⟨_,(A6 (psS 3 sc__law_built (D0 A5))
   (A6 (psS 4 sc__law_built (D0 A5))
   (A6 (psS 5 sc__law_built (B7 aC6 (pv 0) A7))
   (A6 (J8 Aj rfl (K2 rfl T.L9 (A0 (pv 2) A5)) (pgN 6 sc__law_built) (A6 (psS 7 sc__law_built (pcl R hr T.N3 (A0 (pcl U hr T.M8 (A0 (pv 1) (A0 (pv 6) A5))) (A0 (pv 6) A5))))
   (A6 (M1 (C0 aP9 (B7 T8 (pv 0) A7) A7 (F6 _)) (A6 (psS 7 sc__law_built (B7 T8 (pv 5) A7))
   (B1 (psS 5 sc__law_built (B7 aC6 (pv 5) A7)))) E8)
   (A6 (psS 8 sc__law_built (bN0 (C0 y4 (pv 6) A7 (F6 _)) (B5 D4 (pv 3) (aF3 e5 A7) (λ_ _=>rfl)) A7))
   (A6 (E5 (K0 Ab1 Ag Af D2 (pv 3) (A0 (B7 J6 (pv 8) (B7 T8 (pv 7) (B7 U2 (B7 J6 (pv 6) A7) (pv 8)))) A5)))
   (A6 (psS 8 sc__law_built (bN0 (C0 y4 (pv 6) A7 (F6 _)) (B5 D4 (pv 4) (aF3 e5 A7) (λ_ _=>rfl)) A7))
   (B1 (E5 (K0 Ab1 Ag Af D2 (pv 4) (A0 (B7 J6 (pv 8) (B7 T8 (B7 aC6 (pv 7) A7) (B7 U2 (B7 J6 (B5 D4 (pv 3) (aF3 e5 A7) (λ_ _=>rfl)) A7) (pv 8)))) A5))))))))))
   (A6 (aO8 (pcl M hr T.aJ5 (A0 (pv 3) (A0 (pv 4) A5))) (T6 (n:=2) rfl (D5 (pgN 9 sc__law_built) (D5 (pgN 10 sc__law_built) P3))))
   (A6 (aO3 (i:=11) sc__law_built.nd rfl (Or.inr rfl) (pcl D hr T.aH2 (A0 (pv 0) (A0 (pv 2) A5))))
   (A6 (psS 12 sc__law_built (B7 cO7 (D0 (A0 (D3 A5) A5)) (B7 J6 (pv 2) A7)))
   (A6 (psS 13 sc__law_built (B7 cO7 (D0 (A0 (D3 A5) A5)) (pv 2)))
   (A6 (J8 Aj rfl (K2 rfl T.L9 (A0 (B7 J6 (pv 2) A7) A5)) (pgN 14 sc__law_built) (B1 (aO8 (pcl J hr T.o9 (A0 (N2 (T:=["_law_place"]) (N':=["_law_place", "_law_names_here"]) (is:=[11]) rfl (.of rfl rfl rfl (by exact⟨rfl,trivial⟩) rfl rfl rfl (by first | exact⟨⟨_,rfl,.inl rfl,.inl rfl⟩,trivial⟩ | exact⟨⟨_,rfl,.inr rfl,.inl rfl⟩,trivial⟩)) (M4 (B5 D4 (pv 9) (pv 14) (λ_ _=>rfl))) (J0 (by decide)) λ_ _ _ _=>⟨(E9 (i:=0) nd3 rfl (Or.inl rfl)),N7,(B5 (ixK K) (pv 1) (pv 0) (λ_ _=>rfl))⟩) A5)) (bT6 (pv 12) (B5 D4 (pv 11) (pv 14) (λ_ _=>rfl)) aT1))))
   (A6 (J8 Aj rfl (K2 rfl T.L9 (A0 (pv 2) A5)) (pgN 14 sc__law_built) (B1 (aO8 (L4 P9 (by rfl) T.P1 boot_tuple (A0 (N2 (T:=["_law_place"]) (N':=["_law_place", "_law_names_here"]) (is:=[11]) rfl (.of rfl rfl rfl (by exact⟨rfl,trivial⟩) rfl rfl rfl (by first | exact⟨⟨_,rfl,.inl rfl,.inl rfl⟩,trivial⟩ | exact⟨⟨_,rfl,.inr rfl,.inl rfl⟩,trivial⟩)) (M4 (B5 D4 (pv 10) (pv 14) (λ_ _=>rfl))) (J0 (by decide)) λ_ _ _ _=>⟨(E9 (i:=0) nd3 rfl (Or.inl rfl)),N7,(B5 (ixK K) (pv 1) (pv 0) (λ_ _=>rfl))⟩) A5)) (bT6 (pv 13) (B7 U2 (B5 D4 (pv 11) (B7 J6 A7 (pv 14)) (λ_ _=>rfl)) A7) aT1))))
   (B1 (C8 (D3 (A0 (L4 P9 (by rfl) T.P1 boot_tuple (A0 (pv 12) A5)) (A0 (L4 P9 (by rfl) T.P1 boot_tuple (A0 (pv 13) A5)) A5))))))))))))))),K7 hS r ?_ q⟩
 generalize hN:nu c Y=N at B;refine B2 (E4 (F4 A8) ?_ (show 3<15 by decide))
 refine B2 (E4 (F4 A8) ?_ (show 4<15 by decide))
 refine B2 (F3 (d:=.int (c / 2)) (e_i (A9 rfl) B0 ⟨by decide,by decide⟩) ?_)
 have r0:rr c 0=c / 2:=by unfold rr rs;split <;> rfl
 rw[<- r0];refine B2 (N9 (T3 (A4 (A9 rfl) A8) ?_ ?_) (λj ρ=>∃x6 x7 x8,(x6.nb=true/\x7.nb=true/\x8.nb=true)/\ρ=rb c Y m (fl (TT.rF N) j) (fl (TT.rG N) j) (rr c j) x6 x7 x8) ⟨.no,.no,.no,⟨rfl,rfl,rfl⟩,rfl⟩ ?_ ?_)
 .lia
 .lia
 .rintro j d _ hd ⟨x6,x7,x8,⟨b6,b7,b8⟩,rfl⟩;obtain⟨rfl,hj⟩:=U0 hd;have hj:j<m:=by lia
  have PF:=TT.bH3 N j
  have nuj:N j=nu c Y j:=by rw[hN]
  have nn:0<=N j:=by
   rw[nuj];unfold nu;split
   .exact Cc _ (by decide)
   .exact(dV3 _ _).1
  refine⟨_,B4,?_⟩;refine B2 (F3 (d:=.int (mx (cl Y j) j)) (D7 (A4 (D7 (A4 (A9 rfl) (A4 (A9 rfl) A8)) ⟨Y,j,by lia,rfl,rfl⟩) (A4 (A9 rfl) A8)) ⟨_,j,by lia,rfl,rfl⟩) ?_)
  show W K _ (rb c Y m (fl (TT.rF N) j) (fl (TT.rG N) j) (rr c j) (.val (.int (j:Int))) (.val (.int (mx (cl Y j) j))) x8) _
  refine B2 (cS8 (rb c Y m (fl (TT.rF N) j) (fl (TT.rG N) j) (rr c (j+1)) (.val (.int (j:Int))) (.val (.int (N j))) x8) (C3 (j4 (e_i (A9 rfl) B0 (by decide)) B0)) (λh=>B2 (F3 (d:=.int (rr c j % 4096)) (e_i (A9 rfl) B0 (by decide)) (F3 (d:=.int (rr c j / 4096)) (e_i (A9 rfl) B0 ⟨by decide,by decide⟩) ?_))) (λh=>F9 ?_) ?_)
  .have h:c % 2=1:=An h
   have e1:rr c (j+1)=rr c j / 4096:=by unfold rr;rw[Ac h,Ac h];rfl
   have e2:N j=rr c j % 4096:=by rw[nuj];unfold nu rr;rw[Ac h,Ac h]
   rw[e1,e2];rfl
  .have h:¬c % 2=1:=Bm h
   have e1:rr c (j+1)=rr c j:=by unfold rr;rw[Ab h,Ab h]
   have e2:N j=mx (cl Y j) j:=by rw[nuj];unfold nu;rw[Ab h]
   rw[e1,e2]
  have low:∀(X:Nat->Nat) (p:Nat),p=TT.pv X j->((j:Int)>0->atI ((fl X j).map PyData.int) (-1)=some (.int (p:Int))):=λX p hp h=>by
   obtain⟨i,rfl⟩:∃i,j=i+1:=⟨j-1,by lia⟩
   rw[aR7,Ad2,hp];exact r9
  refine B2 (F3 (d:=.int ((TT.pfg N j).1:Nat)) (dT7 (C3 (aD2 (A9 rfl) B0)) (λh=>LV.E.imm (E7 (F2 rfl) (aE2 B0) rfl (low (TT.rF N) _ (TT.dQ7 N j).symm (An h)))) (λh=>?_)) ?_)
  .have h:¬(j:Int)>0:=Bm h
   have:j=0:=by lia
   subst this;exact B0
  show W K _ (rb c Y m (fl (TT.rF N) j) (fl (TT.rG N) j) (rr c (j+1)) (.val (.int (j:Int))) (.val (.int (N j))) (.val (.int ((TT.pfg N j).1:Nat)))) _
  have eF:((TT.pfg N j).1:Int)+N j % ((j:Int)+1-((TT.pfg N j).1:Int))=(TT.rF N j:Int):=by
   rw[TT.bP9]
   have:=Cc (N j) (b:=(j:Int)+1-(TT.pfg N j).1) (by lia)
   lia
  refine B2 (G8 rfl (N0 (A9 rfl) (e_i (A9 rfl) (N0 (N0 (A9 rfl) B0) (A9 rfl)) (by lia))) (by rw[Aa3];simp[fl];unfold sizeLine;lia) ?_ (dD8 rfl rfl rfl))
  rw[eF];have eF2:(fl (TT.rF N) j).map PyData.int++[PyData.int (TT.rF N j:Int)]=(fl (TT.rF N) (j+1)).map PyData.int:=by rw[aR7];simp
  rw[eF2];show W K _ (rb c Y m (fl (TT.rF N) (j+1)) (fl (TT.rG N) j) (rr c (j+1)) (.val (.int (j:Int))) (.val (.int (N j))) (.val (.int ((TT.pfg N j).1:Nat)))) _;refine B2 (F3 (d:=.int ((TT.pfg N j).2:Nat)) (dT7 (C3 (aD2 (A9 rfl) B0)) (λh=>LV.E.imm (E7 (F2 rfl) (aE2 B0) rfl (low (TT.rG N) _ (TT.dS3 N j).symm (An h)))) (λh=>?_)) ?_)
  .have h:¬(j:Int)>0:=Bm h
   have:j=0:=by lia
   subst this;exact B0
  show W K _ (rb c Y m (fl (TT.rF N) (j+1)) (fl (TT.rG N) j) (rr c (j+1)) (.val (.int (j:Int))) (.val (.int (N j))) (.val (.int ((TT.pfg N j).2:Nat)))) _
  have rFj:TT.rF N j=(TT.pfg N (j+1)).1:=rfl
  have rFle:(TT.pfg N j).1<=TT.rF N j:=by rw[TT.bP9];lia
  have eG:((TT.pfg N j).2:Int)+N j / 64 % ((TT.rF N j:Int)+1-((TT.pfg N j).2:Int))=(TT.rG N j:Int):=by
   rw[TT.cL3]
   have:=Cc (N j / 64) (b:=(TT.rF N j:Int)+1-(TT.pfg N j).2) (by lia)
   lia
  have hlF:atI ((fl (TT.rF N) (j+1)).map PyData.int) (-1)=some (.int (TT.rF N j:Int)):=by rw[aR7,Ad2];exact r9
  refine G8 rfl (N0 (A9 rfl) (e_i (e_i (A9 rfl) B0 ⟨by decide,by decide⟩) (N0 (N0 (E7 (F2 rfl) (aE2 B0) rfl hlF) B0) (A9 rfl)) (by lia))) (by rw[Aa3];simp[fl];unfold sizeLine;lia) ?_ (dD8 rfl rfl rfl)
  rw[eG];have eG2:(fl (TT.rG N) j).map PyData.int++[PyData.int (TT.rG N j:Int)]=(fl (TT.rG N) (j+1)).map PyData.int:=by rw[aR7];simp
  rw[eG2];exact⟨.val (.int (j:Int)),vI (N j),vI ((TT.pfg N j).2:Nat),⟨rfl,rfl,rfl⟩,rfl⟩
 rintro _ ⟨x6,x7,x8,⟨b6,b7,b8⟩,rfl⟩;rw[O8,Ac8];refine bK6 (i:=3) rfl (bK6 (i:=4) rfl ?_);refine B2 (cH1 (m:=true) (D7 (A4 (A9 rfl) (A4 (A9 rfl) A8)) ⟨TT.rF N,TT.rG N,m,TT.u8 N m,by lia,rfl,rfl⟩) (k7 (E6 B4 (E6 B4 T7))) ?_)
 refine B2 (E4 (J5 (A4 (A9 rfl) (A4 (A9 rfl) A8)) ⟨c,m,by lia,rfl,rfl⟩) ?_ (show 11<15 by decide))
 have ND:=B.N
 have LT:=(TT.P2 (TT.u8 N m) m (Aa7 _)).inv.lt
 have LR:=TT.row_len (TT.P2 (TT.u8 N m) m (Aa7 _)).inv
 rw[(TT.P2 (TT.u8 N m) m (Aa7 _)).k]at LT LR;refine B2 (E4 (ds:=List.replicate (m+3) (.tuple [])) ?_ ?_ (show 12<15 by decide))
 .refine EF.to (cM8 (k:=(m:Int)+3) (ds:=[.tuple []]) (F4 (A4 (G1 A8) A8)) (N0 (A9 rfl) B0) rfl (by lia) (by lia) ?_) ?_
  .show 1*((m:Int)+3).toNat<=_;unfold sizeLine;lia
  .have e:((m:Int)+3).toNat=m+3:=by lia
   rw[aY0,e]
 refine B2 (E4 (ds:=List.replicate m (.tuple [])) ?_ ?_ (show 13<15 by decide))
 .refine EF.to (cM8 (k:=(m:Int)) (ds:=[.tuple []]) (F4 (A4 (G1 A8) A8)) (A9 rfl) rfl (by lia) (by lia) ?_) ?_
  .show 1*(m:Int).toNat<=_;unfold sizeLine;lia
  .rw[aY0,Ac8]
 generalize htD:(PyData.list ((List.range (m+3)).map λv=>lN ((TT.gst (TT.rF N) (TT.rG N) m).row v)))=tD
 generalize hoD:(PyData.list ((List.range m).map λv=>lN [(TT.gst (TT.rF N) (TT.rG N) m).o0 (v+3),(TT.gst (TT.rF N) (TT.rG N) m).o1 (v+3),(TT.gst (TT.rF N) (TT.rG N) m).o2 (v+3)]))=oD
 show W K _ (rc c Y m (lI (fl (TT.rF N) m)) (lI (fl (TT.rG N) m)) (.int (rr c m)) x6 x7 x8 tD oD (nI (nm c m)) (List.replicate (m+3) (.tuple [])) (List.replicate m (.tuple [])) .no) _
 have sqt:sq tD=some ((List.range (m+3)).map λv=>lN ((TT.gst (TT.rF N) (TT.rG N) m).row v)):=by rw[<- htD];rfl
 have sqo:sq oD=some ((List.range m).map λv=>lN [(TT.gst (TT.rF N) (TT.rG N) m).o0 (v+3),(TT.gst (TT.rF N) (TT.rG N) m).o1 (v+3),(TT.gst (TT.rF N) (TT.rG N) m).o2 (v+3)]):=by rw[<- hoD];rfl
 have imr:∀n:Nat,K6 (List.replicate n (PyData.tuple []))=true:=λn=>by
  induction n with
  | zero=>rfl
  | succ n ih=>rw[Bp];simp[K6,ih];rfl
 refine B2 (N9 (T3 (A4 (N0 (A9 rfl) B0) A8) ?_ ?_) (λj ρ=>∃x14 L,x14.nb=true/\L.length=m+3/\K6 L=true/\(∀v,v<j->L[nf c m v]? = some (tN (TT.T1 (((TT.gst (TT.rF N) (TT.rG N) m).row v).map (nf c m)))))/\ρ=rc c Y m (lI (fl (TT.rF N) m)) (lI (fl (TT.rG N) m)) (.int (rr c m)) x6 x7 x8 tD oD (nI (nm c m)) L (List.replicate m (.tuple [])) x14) ⟨.no,_,rfl,by simp,imr _,λv hv=>by lia,rfl⟩ ?_ ?_)
 .lia
 .lia
 .rintro j d _ hd ⟨x14,L,b14,hL,hiL,hv,rfl⟩;obtain⟨rfl,hj⟩:=U0 hd;have hj:j<m+3:=by lia
  refine⟨_,B4,?_⟩;show W K _ (rc c Y m (lI (fl (TT.rF N) m)) (lI (fl (TT.rG N) m)) (.int (rr c m)) x6 x7 x8 tD oD (nI (nm c m)) L (List.replicate m (.tuple [])) (.val (.int (j:Int)))) _;have cm:=J7 (K:=K) (m:=true) (ρ:=rc c Y m (lI (fl (TT.rF N) m)) (lI (fl (TT.rG N) m)) (.int (rr c m)) x6 x7 x8 tD oD (nI (nm c m)) L (List.replicate m (.tuple [])) (.val (.int (j:Int)))) (n:=1) (is:=[11]) (g:=F5 0) (tt:=aM1) (te:=tOp (rIx K) (C4 1) (C4 0)) (f3 (nf c m)) (P6 (ds:=nI ((TT.gst (TT.rF N) (TT.rG N) m).row j)) (E7 (A9 (i:=9) rfl) (A9 (i:=14) rfl) sqt (aI9 hj))) (by rw[F7];have:=LR j;unfold sizeLine;lia) (λd hd=>by
   obtain⟨p,hp,rfl⟩:=Aa8.mp hd;exact⟨_,B4,y9,LV.E.imm (d:=.int (nf c m p:Nat)) (E7 (y6 rfl) (A9 rfl) rfl (bV8 (LT j p hp)))⟩)
  rw[cP1]at cm;refine cL2 (nf c m j) (D7 (A4 (EF.e' cm) A8) ⟨_,?_,?_,rfl,rfl⟩) rfl (E7 (F2 rfl) (A9 rfl) rfl (bV8 hj)) rfl ?_ ⟨.val (.int (j:Int)),L.set (nf c m j) (tN (TT.T1 (((TT.gst (TT.rF N) (TT.rG N) m).row j).map (nf c m)))),rfl,by rw[Dv];exact hL,aT3 (bU8 _) _ hiL,bK8 (n:=0) (by rw[hL];exact ND.lt j hj) (λv hv e=>by have:=ND.inj v j (by lia) hj e;lia) hv rfl,rfl⟩ (dF6 b6 b7 b8 rfl)
  .intro e;exact dM4 (TT.u8 N m) hj (List.map_eq_nil_iff.mp e)
  .rw[Aa3];have:=LR j;lia
  .rw[hL];exact ND.lt j hj
 rintro _ ⟨x14,L,b14,hL,hiL,hv,rfl⟩;have e3:(U4 0 ((m:Int)+3).toNat).length=m+3:=by rw[O8];lia
 rw[e3]at hv;refine B2 (N9 (T3 (A4 (A9 rfl) A8) ?_ ?_) (λj ρ=>∃x14 T,x14.nb=true/\T.length=m/\K6 T=true/\(∀v,v<j->T[nf c m (v+3)-3]? = some (tN [nf c m ((TT.gst (TT.rF N) (TT.rG N) m).o0 (v+3)),nf c m ((TT.gst (TT.rF N) (TT.rG N) m).o1 (v+3)),nf c m ((TT.gst (TT.rF N) (TT.rG N) m).o2 (v+3))]))/\ρ=rc c Y m (lI (fl (TT.rF N) m)) (lI (fl (TT.rG N) m)) (.int (rr c m)) x6 x7 x8 tD oD (nI (nm c m)) L T x14) ⟨x14,_,b14,by simp,imr _,λv hv=>by lia,rfl⟩ ?_ ?_)
 .lia
 .lia
 .rintro j d _ hd ⟨y14,T',c14,hT,hiT,hvT,rfl⟩;obtain⟨rfl,hj⟩:=U0 hd;have hj:j<m:=by lia
  refine⟨_,B4,?_⟩;have rI:(TT.gst (TT.rF N) (TT.rG N) m).row (j+3)=_:=TT.O6 (by lia) (by rw[(TT.P2 (TT.u8 N m) m (Aa7 _)).k];lia)
  have l0:(TT.gst (TT.rF N) (TT.rG N) m).o0 (j+3)<m+3:=LT (j+3) _ (by rw[rI];simp)
  have l1:(TT.gst (TT.rF N) (TT.rG N) m).o1 (j+3)<m+3:=LT (j+3) _ (by rw[rI];simp)
  have l2:(TT.gst (TT.rF N) (TT.rG N) m).o2 (j+3)<m+3:=LT (j+3) _ (by rw[rI];simp)
  have ge3:3<=nf c m (j+3):=by
   have:=ND.lo (by lia) (q:=j+3) (by lia)
   lia
  have lt3:nf c m (j+3)<m+3:=ND.lt (j+3) (by lia)
  have hat:atI (nI (nm c m)) (3+(j:Int))=some (.int (nf c m (j+3):Nat)):=by
   rw[show(3:Int)+(j:Int)=((j+3:Nat):Int) by lia];exact bV8 (by lia)
  show W K _ (rc c Y m (lI (fl (TT.rF N) m)) (lI (fl (TT.rG N) m)) (.int (rr c m)) x6 x7 x8 tD oD (nI (nm c m)) L T' (.val (.int (j:Int)))) _
  have cm:=J7 (K:=K) (m:=true) (ρ:=rc c Y m (lI (fl (TT.rF N) m)) (lI (fl (TT.rG N) m)) (.int (rr c m)) x6 x7 x8 tD oD (nI (nm c m)) L T' (.val (.int (j:Int)))) (n:=1) (is:=[11]) (g:=F5 0) (tt:=aM1) (te:=tOp (rIx K) (C4 1) (C4 0)) (f3 (nf c m)) (P6 (ds:=nI [(TT.gst (TT.rF N) (TT.rG N) m).o0 (j+3),(TT.gst (TT.rF N) (TT.rG N) m).o1 (j+3),(TT.gst (TT.rF N) (TT.rG N) m).o2 (j+3)]) (E7 (A9 (i:=10) rfl) (A9 (i:=14) rfl) sqo (aI9 hj))) (by rw[F7];show 3<_;unfold sizeLine;lia) (λd hd=>by
   obtain⟨p,hp,rfl⟩:=Aa8.mp hd;have hp:p<m+3:=by
    rcases Aa1.mp hp with rfl | hp
    .exact l0
    .rcases Aa1.mp hp with rfl | hp
     .exact l1
     .rw[Ad8.mp hp];exact l2
   exact⟨_,B4,y9,LV.E.imm (d:=.int (nf c m p:Nat)) (E7 (y6 rfl) (A9 rfl) rfl (bV8 hp))⟩)
  rw[cP1]at cm;refine cL2 (nf c m (j+3)-3) (W6 (A4 (EF.e' cm) A8) (K9 _)) rfl (N0 (E7 (F2 rfl) (N0 B0 (A9 rfl)) rfl hat) B0) (by lia) ?_ ⟨.val (.int (j:Int)),T'.set (nf c m (j+3)-3) (tN [nf c m ((TT.gst (TT.rF N) (TT.rG N) m).o0 (j+3)),nf c m ((TT.gst (TT.rF N) (TT.rG N) m).o1 (j+3)),nf c m ((TT.gst (TT.rF N) (TT.rG N) m).o2 (j+3))]),rfl,by rw[Dv];exact hT,aT3 (bU8 _) _ hiT,bK8 (n:=0) (f:=λv=>nf c m (v+3)-3) (g:=λv=>tN [nf c m ((TT.gst (TT.rF N) (TT.rG N) m).o0 (v+3)),nf c m ((TT.gst (TT.rF N) (TT.rG N) m).o1 (v+3)),nf c m ((TT.gst (TT.rF N) (TT.rG N) m).o2 (v+3))]) (by rw[hT];show nf c m (j+3)-3<m;lia) (λv hv e=>by
   have e:nf c m (v+3)-3=nf c m (j+3)-3:=e
   have g3:=ND.lo (by lia) (q:=v+3) (by lia)
   have:=ND.inj (v+3) (j+3) (by lia) (by lia) (by lia)
   lia) hvT rfl,rfl⟩ (dF6 b6 b7 b8 rfl)
  rw[hT];lia
 rintro _ ⟨y14,T',c14,hT,hiT,hvT,rfl⟩;rw[O8,Ac8]at hvT;refine L6 (G1 (A4 (W6 (A4 (F2 rfl) A8) hiL) (A4 (W6 (A4 (F2 rfl) A8) hiT) A8))) ?_;have eL:L=dr.map tN:=by
  refine List.ext_getElem? λz=>?_
  by_cases hz:z<m+3
  .obtain⟨v,hv1,rfl⟩:=ND.surj z hz;rw[hv v hv1,Aa9,B.dr v hv1];rfl
  .rw[Ad6 (by lia),Ad6 (by rw[Aa3,B.dl];lia)]
 have eT:T'=tr.map tN:=by
  refine List.ext_getElem? λz=>?_
  by_cases hz:z<m
  .obtain⟨v,hv1,hv2⟩:=ND.surj (z+3) (by lia)
   have h3:3<=v:=by
    have:=ND.lo (by lia) hv1
    lia
   obtain⟨u,rfl⟩:∃u,v=u+3:=⟨v-3,by lia⟩
   have hzz:z=nf c m (u+3)-3:=by lia
   rw[hzz,hvT u (by lia),Aa9,B.tr (u+3) h3 hv1];rfl
  .rw[Ad6 (by lia),Ad6 (by rw[Aa3,B.tl];lia)]
 rw[eL,eT]
end
theorem dR4 {F G:Nat->Nat}{m:Nat}{f:Nat->Nat}(R:TT.Rws F G m)(N:TT.Nm (m+3) f):∃dr tr,TT.Bt F G m f dr tr:=by
 have ex:∀q,∃v,q<m+3->v<m+3/\f v=q:=λq=>by
  by_cases h:q<m+3
  .obtain⟨v,h1,X⟩:=N.surj q h;exact⟨v,λ_=>⟨h1,X⟩⟩
  .exact⟨0,λz=>absurd z h⟩
 have ⟨g,Y⟩:∃g:Nat->Nat,∀q,q<m+3->g q<m+3/\f (g q)=q:=⟨λq=>Classical.choose (ex q),λq h=>Classical.choose_spec (ex q) h⟩
 have j:∀v,v<m+3->g (f v)=v:=λv w=>N.inj _ _ (Y _ (N.lt v w)).1 w (Y _ (N.lt v w)).2
 refine⟨(List.range (m+3)).map λq=>TT.T1 (((TT.gst F G m).row (g q)).map f),(List.range m).map λq=>[f ((TT.gst F G m).o0 (g (q+3))),f ((TT.gst F G m).o1 (g (q+3))),f ((TT.gst F G m).o2 (g (q+3)))],R,N,by simp,λv w=>?_,by simp,λv U w=>?_⟩
 .rw[P7 (N.lt v w),j v w]
 .have h:=N.lo (by lia) w
  have J:=N.lt v w
  rw[P7 (by lia)]
  have e:f v-3+3=f v:=by lia
  rw[e,j v w]
end K39
namespace LV
open PySem PySem.Spec PyProof.Rows L2
theorem aZ7 (l:Addr)(items:AJ)(n:Nat)(J:AK)(N:Array (Option Value))(x:Value)(e:Value->Bool)(j:Nat)(hj:j<items.size)(F:e items[j]=true)
  (D:∀(m:Nat) (hm:m<items.size),m<j->e items[m]=false) :
  Meets (Builtin.«tuple.index» {pos:=[.ref l,x]}) λA R s=>
   s.heap.get? l=some {cls:=.type "tuple",dict:=J,data:=.seq items n,slots:=N}/\(∀y∈items,SeqAt.EqAt A.in1 s y x (e y)) /\
    R (.ok (.ret (.int (j:Int) s.toks))) {s with toks:=s.toks+1}:=by
 intro M w A R s ⟨ho,P,hr⟩;unfold Builtin.«tuple.index»;have Q:selfAndSome "tuple.index" "index" 1 3 {pos:=[.ref l,x]}=pure (.ref l,[x]):=by rfl
 rw[Q];refine Aa (Ae ?_);have ht:s.heap.get? l=some {cls:=.type "tuple",dict:=J,data:=.seq items n,slots:=N}:=ho;show wpAny _ _ (Builtin.Tuple.tupleItemsOf (.ref l) >>= _) _ _ s;refine Aa (wpAny_tupleItemsOf ht rfl ?_);refine Aa (Ae ?_);refine Aa (Ae ?_);refine Aa ?_;rw[Std.Legacy.Range.forIn_eq_forIn_range'];have hs:([0:min items.size items.size]:Std.Legacy.Range).size=items.size:=by simp[Std.Legacy.Range.size]
 rw[hs];refine wpAny_forIn_list _ (λz b U=>(∃i,i<=j/\z=List.range' i (items.size-i) 1)/\b=(none,())/\U=s) _ ?_ ?_ _ _ ⟨⟨0,Ci _,rfl⟩,rfl,rfl⟩
 .rintro i z b U ⟨⟨i',hi,hrest⟩,rfl,rfl⟩;have Y:i'<items.size:=by lia
  obtain⟨k,B⟩:∃k,items.size-i'=k+1:=⟨items.size-i'-1,by lia⟩
  rw[B,List.range'_succ,Bj]at hrest;obtain⟨rfl,rfl⟩:=hrest;dsimp only;rw[Bf Y];dsimp only;refine Aa (P _ (Array.getElem_mem Y) _ _ _ _ ?_);by_cases X:i=j
  .subst X;rw[Ac F];refine Aa ?_;unfold retInt;refine Aa (wpAny_mkInt ?_);exact Ae (Ae (Ae hr))
  .rw[D i Y (by lia),Ab (by decide)]
   exact Ae ⟨⟨i+1,by lia,by rw[show items.size-(i+1)=k by lia]⟩,rfl,rfl⟩
 .rintro b U ⟨⟨i,hi,hr'⟩,rfl,rfl⟩
  exfalso
  have:=congrArg List.length hr'
  simp at this
  lia
section
theorem aP0 (K:Frag)(h:X.K=K:=by rfl):MtR X "tuple.index" (λx xs H Q=>∃(p:Addr) (l:AD) (k:Int),x=.ref p/\xs=[.int k]/\SqT K H p (l.map V.int)/\k∈l/\Q (.int (l.idxOf k)) H):=by
 subst h;intro aA s σ H x xs v us Q I rx rv ⟨p,l,k,e1,e2,B,D,q⟩;subst e1;subst e2;cases rx;obtain⟨u,rfl,t,rfl⟩:=X4 rv;obtain⟨its,r,R,hz⟩:=I.tuple B;obtain⟨⟨oc,od,J,M⟩,e,c,n,d⟩:=R;dsimp only at c d;subst c;subst d;have Y:=r.length;rw[Aa3]at Y;have w:l.idxOf k<l.length:=Ai.mpr D;have at_:∀(j:Nat) (w:j<its.toArray.size),∃t,its.toArray[j]=Value.int (l[j]'(by simpa[Y]using w)) t:=λj w=>by
  have U:j<l.length:=by simpa[Y]using w
  obtain⟨u,h1,t,rfl⟩:=r.get (i:=j) (x:=.int l[j]) (by rw[Aa9,Aa2 U];rfl)
  have:=(Ab0.mp h1).2
  exact⟨t,by simpa using this⟩
 refine call_meets F.slot_tuple_index ⟨_,e,rfl⟩ F.entry_tuple_index (F.args_tuple_index_2 _ _) (aZ7 p its.toArray n od M (.int k t) (λy=>match y with | .int i _=>i==k | _=>false) (l.idxOf k) (by simpa[<- Y]using w) ?_ ?_) ⟨e,λy P=>?_,?_⟩
 .obtain⟨N,e'⟩:=at_ (l.idxOf k) (by simpa[<- Y]using w)
  rw[e'];simp
 .intro m hm hlt;obtain⟨N,e'⟩:=at_ m hm;rw[e']
  have:l[m]'(by simpa[Y]using hm)≠k:=λz=>by
   have h1:m<l.length:=by simpa[Y]using hm
   exact bT5 h1 hlt z
  simpa using this
 .obtain⟨j,w,rfl⟩:=Array.mem_iff_getElem.mp P;obtain⟨N,e'⟩:=at_ j w;rw[e'];exact SeqAt.EqAt.int_int _ _ _ _
 .exact⟨.int _,H,I.tok _,⟨_,rfl⟩,q⟩
theorem aD3 {P:Program}{w:World}{A:Around}{E:Ec}{s:Shared}{t sl:Addr}{items:AJ}{vl vu:Value}{lo hi:Option Int}{Q:Ec}(z:IsTup s.heap t items)(U:s.heap.IsSliceOf sl vl vu .none)(N:IsPart vl lo)(R:IsPart vu hi)
  (J:HT.sIx items.size 0 lo=0/\HT.sIx items.size items.size hi=items.size) (h:Q (.ref t) s):wpAny (model P w) A (getItem (.ref t) (.ref sl)) Q E s:=by
 obtain⟨os,X,Y,M⟩:=id U;have m:s.TypeIs (.ref sl) "slice" := ⟨os,X,Y⟩;unfold getItem
 try with_reducible refine Bx ?_
 first | refine Aa (Ae ?_) | skip
 refine Aa (wpAny_sequenceKey z.typeIs (by decide) ?_)
 refine Aa (Cg (name:=Str.ofString "__getitem__") z.typeIs Bn
  (Cf Bn z.typeIs entry_tuple_getitem ?_ (args_tuple_getitem _ _)))
 show wpAny _ _ (Builtin.Tuple.tupleItemsOf (.ref t) >>= _) _ _ s
 refine Aa (tupleItemsOf_ z ?_);refine Aa (wpAny_typeOf m ?_);rw[Ac (by decide)]
 refine Aa (HT.j6 U N R ?_);have j:((((HT.sIx items.size 0 lo:Nat):Int)==0&&(1:Int)==1&&(HT.sIx items.size items.size hi-HT.sIx items.size 0 lo)==items.size)=true):=by
  rw[J.1,J.2];simp
 show wpAny _ _ (if(((HT.sIx items.size 0 lo:Nat):Int)==0&&(1:Int)==1&&(HT.sIx items.size items.size hi-HT.sIx items.size 0 lo)==items.size)=true then _ else _) _ _ s
 rw[Ac j];refine Aa ?_;unfold Builtin.Tuple.tupleIsExact;refine Aa (wpAny_typeOf z.typeIs (Ae ?_));rw[Ac (by decide)]
 exact Aa (wpAny_rule (Ae ⟨_,rfl,Ae h⟩))
def dT6 (K:Frag):V->Option Int->Option Int->Hp->VK->Prop:=λx lo hi H Q=>∃a xs,x=.ref a/\SqT K H a xs /\
 (HT.sIx xs.length 0 lo=0/\HT.sIx xs.length xs.length hi=xs.length->Q (.ref a) H) /\
 (¬(HT.sIx xs.length 0 lo=0/\HT.sIx xs.length xs.length hi=xs.length)->∀p,H p=none->Q (.ref p) (upd H p (.tup (bJ1 xs lo hi))))
theorem dR7 (K:Frag)(h:X.K=K:=by rfl):SlR X (dT6 K):=by
 subst h;intro N s σ H x v B P lo hi F Q I M j U J h;obtain⟨a,xs,e,Y,R,D⟩:=h;by_cases z:HT.sIx xs.length 0 lo=0/\HT.sIx xs.length xs.length hi=xs.length
 .subst e;cases M;obtain⟨its,r,m,hz⟩:=I.tuple Y;have w:its.toArray.size=xs.length:=by rw[Ab2];exact r.length.symm
  refine⟨"tuple",_,Bn.lookup,m.typeIs,?_⟩;exact aD3 m j U J (by rw[w];exact z) ⟨.ref a,H,I,rfl,R z⟩
 .exact dL0 N s σ H x v B P lo hi F Q I M j U J ⟨a,xs,e,Y,z,D z⟩
theorem cI7 (K:Frag)(h:X.K=K:=by rfl):OpR X (binaryOp .Add) (cK8 K):=h▸cX7
end
section
variable {K:Frag}{ρ:List Sl}{m:Bool}{t ta tb:TE}{d:PyData}{ds es:AF}
theorem bA5 (h:K6 ds=true):imm (.tuple ds)=true:=by simp[imm,h]
theorem dD1 {tl th:TO}{lo hi:Option Int}(M:E K false ta ρ (.tuple ds))(R:O K tl ρ lo)(N:O K th ρ hi)(Y:K6 ds=true):E K m (tSl (dT6 K) ta tl th) ρ (.tuple (aO6 ds lo hi)):=
 E.bor (E.imm (m:=false) (λS B σ H o I Q q=>M S B σ H o I _ λx H1 j D=>R S B σ H1 o (I.grow j) _ λJ U=>N S B σ J o ((I.grow j).grow U) _ λP F=>by
  cases D with
  | @tup a xs _ sa ra=>
  have w:=L2.Same.tr U F
  have z:=ra.length
  refine⟨a,xs,rfl,F0 w sa,λX=>q _ _ (L2.Same.tr j w) ?_,λ_ p hp=>q _ _ (L2.Same.tr j (L2.Same.tr w (D8 hp))) (.tup (SqT.of C5) (((ra.mono w).cut lo hi).mono (D8 hp)))⟩
  have e:aO6 ds lo hi=ds:=by
   unfold aO6;rw[<- z,X.1,X.2,z]
   simp
  rw[e];exact .tup (F0 w sa) (ra.mono w)) (bA5 (U5 lo hi Y)))
theorem dK1 (U:E K false ta ρ (.tuple ds))(J:E K false tb ρ (.tuple es))(hi:K6 ds=true)(Y:K6 es=true)(N:ds≠[])(M:ds.length+es.length<=sizeLine:=by first | decide | (unfold sizeLine;simp;done)):E K m (tOp (cK8 K) ta tb) ρ (.tuple (ds++es)):=
 E.bor (E.imm (m:=false) (λS B σ H o I Q q=>U S B σ H o I _ λx H1 X R=>J S B σ H1 o (I.grow X) _ λy F j D=>by
  cases R with
  | @tup a xs _ sa ra=>
  cases D with
  | @tup b ys _ sb rb=>
  have w:=ra.mono j
  refine⟨a,b,xs,ys,rfl,rfl,F0 j sa,sb,λz=>N (by cases z;cases ra;rfl),by rw[ra.length,rb.length];exact M,λz=>q _ _ (L2.Same.tr X j) ?_,λ_ p hp=>q _ _ (L2.Same.tr X (L2.Same.tr j (D8 hp))) (.tup (SqT.of C5) ((w.append rb).mono (D8 hp)))⟩
  cases z
  cases rb
  rw[Bq];exact .tup (F0 j sa) w) (bA5 (by rw[aB6,hi,Y];rfl)))
theorem bJ3 (r:Rep K H p (tI l)):∃a,p=.ref a/\SqT K H a (l.map V.int):=by
 cases r with
 | @tup a xs _ s r=>exact⟨a,rfl,by rw[<- r.ints];exact s⟩
theorem aU9 (Y:E K false ta ρ (tI l))(X:E K false tb ρ (.int k))(U:k∈l) :
  E K m (tBM K "tuple" (λx xs H Q=>∃(p:Addr) (l:AD) (k:Int),x=.ref p/\xs=[.int k]/\SqT K H p (l.map V.int)/\k∈l/\Q (.int (l.idxOf k)) H) ta (C9 tb O1)) ρ (.int (l.idxOf k)):=E.bor (E.imm (m:=false) λS B σ H o I Q q=>Y S B σ H o I _ λv H1 w r=>by
 obtain⟨p,rfl,s⟩:=bJ3 r;refine⟨.inr (.inl ⟨rfl,_,s⟩),?_⟩;refine X S B σ H1 o (I.grow w) _ λu j z J=>?_
 cases J
 exact⟨p,l,k,rfl,rfl,F0 z s,U,q _ j (L2.Same.tr w z) (.int _)⟩)
theorem bB4 (hi:ρ[i]? = some (.own ds))(h:EF K t ρ es)(j:ds.length+es.length<=sizeLine)(Y:R.nx (ρ.set i (.own (ds++es))))(nb:O0 ρ=true:=by rfl) :
  W K (aZ1 (tBM K "list" bV7 (C4 i) (C9 t O1))) ρ R:=λS B D σ H o I s=>by
 obtain⟨p,hp,a,xs,b,c⟩:=I.own i ds hi;refine⟨_,a,.inl ⟨rfl,xs,SqL.of b⟩,?_⟩;refine h S B σ H o I _ λq X U w n e r=>?_
 refine⟨_,_,xs,X,rfl,rfl,w _ _ b,e,by rw[c.length,r.length];exact j,?_⟩
 exact s.nx _ σ _ _ ((I.grow w).upd hi hp ((c.mono (K5 w)).append (r.mono (E2 (L2.Same.rf _) λb z _=>.inl z))) (J4 nb)) Y
end
section
theorem cD8 (h:IntsAre vs ns):Vals (ns.map V.int) vs:=by
 induction h with
 | nil=>exact .nil
 | cons n t _ w=>exact .cons ⟨t,rfl⟩ w
end
end LV
namespace L2
open PySem PySem.Spec PyProof.Rows
section
theorem Inv.turnedL {t':Nat}{fp:AL}(I:Inv X aA σ H s)(k:∀b o,b∉fp->s.heap.get? b=some o->h'.get? b=some o)(Y:∀b∈fp,aX7 X aA H b):Inv X aA σ H {s with heap:=h',toks:=t'}:=by
 have j:∀b u,H b=some u->b∉fp:=λb u e z=>by rw[(Y b z).1]at e;cases e
 refine I.step (g':=s.gens) (d':=s.drawn) (ch:=fp) (λb R=>?_) (λb o _ _ w e _=>k b o w e) (λb o _ _ w e _=>⟨o.slots,k b o w e⟩) (λ_ _ _ _ n=>n)
  (λb o w e=>⟨o,k b o w e⟩) (λ_ _ e=>e) (λ_ _ _ e=>e) (λb ps e=>⟨#[],by rw[e];simp⟩) (λm Q=>?_) (λb u e=>?_) I.bare
 .obtain⟨_,f1,_,f3,M,N⟩:=Y b R;exact⟨f3,f1,M,N⟩
 .obtain⟨o,J,U,ho,r⟩:=Q;exact⟨o,J,U,k _ o (λz=>(Y _ z).2.1 rfl) ho,r⟩
 .refine(I.hok b u e).stay (λc v w q=>k c v ?_ q) (λ_ q=>q) λ_ _ q=>q
  rcases w with z | z
  .rw[z];exact j b u e
  .exact j c _ z
theorem Inv.turnedLaid {t':Nat}{fp:AL}{T:Addr}{ob:HO}(I:Inv X aA σ H s)(k:∀b o,b∉fp->s.heap.get? b=some o->h'.get? b=some o)(M:∀b∈fp,aX7 X aA H b)(R:s.heap.objs.size<=T)
  (N:ObjOk X.prog X.w (upd H T ob) h' T ob):Inv X aA σ (upd H T ob) {s with heap:=h',toks:=t'}:=by
 have U:∀b u,H b=some u->b∉fp:=λb u e z=>by rw[(M b z).1]at e;cases e
 have Q:H T=none:=I.hok.fresh R
 have nT:∀b o,s.heap.get? b=some o->b≠T:=λb o e z=>by have h1:b<s.heap.objs.size:=Ab3 e;rw[z]at h1;exact absurd (Ab8 h1 R) (Ad9 _)
 have Y:∀b u,H b=some u->b≠T:=λb u e z=>by rw[z,Q]at e;cases e
 refine I.step (g':=s.gens) (d':=s.drawn) (ch:=fp) (λb J=>?_) (λb o _ _ j e _=>k b o j e) (λb o _ _ j e _=>⟨o.slots,k b o j e⟩) (λb o _ e n=>by rw[B9 (nT b o e)];exact n)
  (λb o j e=>⟨o,k b o j e⟩) (λb _ e=>by rw[B9 (Y b _ e)];exact e) (λb _ _ e=>by rw[B9 (Y b _ e)];exact e) (λb ps e=>⟨#[],by rw[B9 (Y b _ e),e];simp⟩) (λm hm=>?_) (λb u e=>?_) I.bare
 .obtain⟨_,f1,_,f3,B,P⟩:=M b J;exact⟨f3,f1,B,P⟩
 .obtain⟨o,F,D,ho,r⟩:=hm;exact⟨o,F,D,k _ o (λz=>(M _ z).2.1 rfl) ho,r⟩
 .by_cases J:b=T
  .subst J;rw[C5]at e;cases e;exact N
  rw[B9 J]at e;refine(I.hok b u e).stay (λc v j q=>k c v ?_ q) (λc q=>by rw[B9 (Y c _ q)];exact q) λc _ q=>by rw[B9 (Y c _ q)];exact q
  rcases j with z | z
  .rw[z];exact U b u e
  .exact U c _ z
end
def Iel (K:Frag)(a:Addr):It:=
 ⟨λi H=>∃xs x,SqL K H a xs/\xs[i]? = some x,λi H x H'=>∃T y,x=.ref T/\H T=none/\H'=upd H T (.tup [.int (i:Int),y])/\∀xs,SqL K H a xs->xs[i]? = some y,λi H=>∃xs,SqL K H a xs/\xs.length<=i⟩
theorem bV0 {P:Program}{w:World}{K:Frag}{elts:AM}{k:_}{pos:Pos}(a e it:Addr)(U:e≠it):bI2 P w K (.Tuple elts k pos) (Iel K a) [e,it] e (λi h=>(∃old,IsEnum h e it (i:Int) old)/\h.IsListIter it a i) where
 mem:=by simp
 obj:=λi h st b hb=>by
  obtain⟨⟨old,j⟩,o,e1,c,d⟩:=st;rcases Aa1.mp hb with rfl | hb
  .exact⟨_,j,λv z=>by cases z⟩
  .have m:b=it:=by simpa using hb
   subst m;exact⟨o,e1,λv z=>by rw[d]at z;cases z⟩
 keep:=λi h N st k=>⟨⟨st.1.choose,k e (by simp) _ st.1.choose_spec⟩,st.2.at λo q=>k it (by simp) o q⟩
 item:=by
  intro X hP hw B hc i aA s σ H E I R st hg;subst hP hw B;obtain⟨⟨old,j⟩,hi⟩:=st;obtain⟨xs,x,Q,hx⟩:=hg;obtain⟨its,rv,p,hz⟩:=I.list Q;obtain⟨u,hu,ru⟩:=rv.get hx;refine wpAny_pyNext_enum_item j hi p.isList (x:=u) (by simpa using hu) U λN ho hi' hT hs kp=>?_
  refine⟨_,rfl,?_⟩;have ea:a≠e:=λz=>by
   obtain⟨o,n,q,c,_⟩:=p;rw[z]at q;rw[show s.heap.get? e=_ from j]at q
   cases q
   injection c with c
   exact absurd c (by decide)
  have Y:a≠it:=λz=>by
   obtain⟨o,n,q,c,_⟩:=p;obtain⟨o',q',c',_⟩:=hi;rw[z,q']at q;cases q;rw[c']at c
   injection c with c
   exact absurd c (by decide)
  have D:s.heap.objs.size≠e:=λz=>by have h1:=Ab3 j;rw[z]at h1;exact Ad9 _ h1
  have F:s.heap.objs.size≠it:=λz=>by
   obtain⟨o',q',_⟩:=hi;have h1:=Ab3 q';rw[z]at h1;exact Ad9 _ h1
  have pl':N.IsList a its.toArray:=by
   obtain⟨o,n,q,c,dd,d⟩:=p;exact⟨o,kp a o ea Y q,c,n,d⟩
  refine(WalksT.enumerate (prog:=X.prog) (w:=X.w) (A:=X.A) (I.ok.hd hc) e it a U ea Y its.toArray).go elts k pos i s.heap.objs.size {s with heap:=N,toks:=s.toks+1} _ _ ⟨⟨u,ho⟩,hi',pl',D,F⟩ λh2 ⟨⟨M,he2⟩,hi2,_⟩ J=>?_
  have hT2:=J s.heap.objs.size _ (by simp[D,F]) hT
  refine⟨.ref s.heap.objs.size,upd H s.heap.objs.size (.tup [.int (i:Int),x]),?_,rfl,⟨_,x,rfl,I.hok.fresh (Aa7 _),rfl,λys hy=>by rw[I.list_inj hy Q];exact hx⟩,⟨⟨M,by simpa using he2⟩,hi2⟩,λb hb=>?_⟩
  .refine I.turnedLaid (t':=s.toks+1) (fp:=[e,it]) (λb o hb q=>J b o hb (kp b o (λz=>hb (by simp[z])) (λz=>hb (by simp[z])) q)) R (Aa7 _) ?_
   exact⟨by show 2<=sizeLine;decide,[.int (i:Int) s.toks,u],.cons ⟨_,rfl⟩ (.cons ru .nil),⟨_,hT2,rfl,⟨_,rfl⟩,rfl⟩⟩
  .rw[B9]
   .exact(R b hb).1
   .rcases Aa1.mp hb with rfl | hb
    .exact Ne.symm D
    .have m:b=it:=by simpa using hb
     subst m;exact Ne.symm F
 done:=by
  intro X hP hw B hc i aA s σ H E I R st hg;subst hP hw B;obtain⟨⟨old,j⟩,hi⟩:=st;obtain⟨xs,Q,hx⟩:=hg;obtain⟨its,rv,p,hz⟩:=I.list Q;have hl:=rv.length;exact wpAny_pyNext_enum_end (I.ok.hd hc) j hi p.isList (by simp;lia) λN m=>⟨rfl,I.turnedL (t':=s.toks) (λb o hb q=>m b o (λz=>hb (by simp[z])) q) R⟩
 self:=λ_ _ _ _ _ st h=>wpAny_pyIter_enum st.1.choose_spec h
section
def cR5 (K:Frag)(ta:TA):TI:=λσ H R=>ta σ H λvs H1=>∃a xs,vs=[.ref a]/\SqL K H1 a xs/\R (Iel K a) H1
theorem cG4 {l:Expr}{ta:TA}{p pos:Pos}(K:Frag)(M:Gl X "enumerate")(N:X.mg "enumerate" = none)(J:PA X [l] ta)(U:X.K=K:=by rfl)(m:starEach [l] X.env=[(false,eval l X.env)]:=by rfl):PI X (.Tuple elts k ps) (.Call (.Name "enumerate" p) [l] [] pos) (cR5 K ta):=by
 subst U;refine⟨?_⟩;intro Y s σ H R I h;refine Call_ (V8 I M N boot_enumerate (Az (thn (J pos Y s σ H _ I h) λus z pz=>?_) m rfl))
 obtain⟨vs,H1,w,B,F⟩:=pz;obtain⟨a,xs,e,Q,q⟩:=F;subst e;obtain⟨u,rfl,P⟩:=X4 B;cases P;obtain⟨its,rv,D,hz⟩:=w.list Q;refine call_enumerate_list D.isList λh' j hi m kp=>?_
 refine wpAny_pyIter_enum j ?_;refine⟨z.heap.objs.size+1,[z.heap.objs.size+1,z.heap.objs.size],_,_,H1,rfl,w.kept (t':=z.toks) kp,bV0 a _ _ (by simp),⟨⟨_,j⟩,hi⟩,λb hb=>?_,q⟩
 rcases Aa1.mp hb with rfl | hb
 .exact w.fpOk (Nat.le_succ _) (w.hok.fresh (Nat.le_succ _))
 .have e:b=z.heap.objs.size:=by simpa using hb
  subst e;exact w.fpOk (Aa7 _) (w.hok.fresh (Aa7 _))
end
end L2
namespace LV
open PySem PySem.Spec PyProof.Rows L2
section
variable {K:Frag}{ρ:List Sl}{m:Bool}{t ta tb:TE}{d d':PyData}{ds es:AF}
def enD (ds:AF):AF:=ds.mapIdx λi d=>.tuple [.int (i:Int),d]
theorem bF1:(enD ds).length=ds.length:=by simp[enD]
theorem aP1 {i:Nat}{d:PyData}(h:(enD ds)[i]? = some d):∃y,ds[i]? = some y/\d=.tuple [.int (i:Int),y]:=by
 unfold enD at h;rw[List.getElem?_mapIdx]at h;obtain⟨y,h1,w⟩:=Au.mp h;exact⟨y,h1,w.symm⟩
theorem cJ0 (s:SqL K Z a xs)(r:Reps K Z xs ds):Wk K Z (Iel K a) (enD ds) where
 stop:=λi H h l=>⟨xs,H9 h s,by rw[r.length,<- bF1];exact l⟩
 go:=λi H d h e=>by
  obtain⟨y,e,_⟩:=aP1 e;obtain⟨v,h1,_⟩:=r.get' e;exact⟨xs,v,H9 h s,h1⟩
 yld:=λi H d x U h e y=>by
  obtain⟨z,e',rfl⟩:=aP1 e;obtain⟨T,v,rfl,j,rfl,y⟩:=y
  have:=y xs (H9 h s)
  obtain⟨d',h1,Y⟩:=r.get this;rw[e']at h1;cases h1;have g:=D8 (o:=.tup [.int (i:Int),v]) j;refine⟨g,λS w=>?_⟩
  have X:Same Z (hid S (upd H T (.tup [.int (i:Int),v]))):=λb o q=>hid_some.mpr ⟨(λz=>by rw[(w b z).1]at q;cases q),g b o (h b o q)⟩
  exact .tup (SqT.of (hid_some.mpr ⟨λz=>(w T z).2 j,C5⟩)) (.cons (.int _) (.cons (Y.mono X) .nil))
theorem cY9 {t:TA}(h:A K m t ρ [.list ds]):I K m (cR5 K t) ρ (enD ds):=λS B σ H o J R q=>h S B σ H o J _ λvs H1 w r=>by
 cases r with
 | cons a b=>
  cases b
  cases a with
  | lst s r=>exact⟨_,_,rfl,H9 z6 s,q _ H1 w (cJ0 s r)⟩
end
end LV
namespace L2
open PySem PySem.Spec PyProof.Rows
section
theorem bD3 (e:s.heap.get? a=some o)(d:o.data=.seq items n)(h:Q (some items) s):wpAny M A (seqItems? (.ref a)) Q E s:=by
 unfold seqItems?;refine Aa (wpAny_load e ?_);rw[d];exact Ae h
theorem aJ7 (st:s.heap.IsTupleIter it t i)(U:s.heap.IsTuple t items)(J:items[i]? = some x)
  (h:∀h':Heap,h'.IsTupleIter it t (i+1)->Heap.SameBut it s.heap h'->Q x {s with heap:=h'}):wpAny (model prog w) A (Builtin.SmallTypes.nextOf (.ref it)) Q E s:=by
 unfold Builtin.SmallTypes.nextOf;refine Aa (Cg st.typeIs slot_tupleiter_next (Cf slot_tupleiter_next st.typeIs entry_tupleiter_next ?_ (args_tupleiter_next _)));obtain⟨o,e,c,d⟩:=id st;obtain⟨D,X,N,n,j⟩:=U;have Y:slotArgs "__next__" 0 {pos:=[.ref it]}=pure (.ref it,[]):=rfl;refine Aa (m:=slotArgs "__next__" 0 {pos:=[.ref it]}) ?_;rw[Y];refine Ae ?_;refine Aa (m:=field (.ref it) 0) (wpAny_field e d rfl ?_);refine Aa (m:=field (.ref it) 1) (wpAny_field e d rfl ?_);refine Aa (m:=seqItems? (.ref t)) (bD3 X j ?_);show wpAny _ _ (match items[(i:Int).toNat]? with | some x=>_ | none=>_) _ _ _
 rw[Ac8,J];refine Aa (m:=setField (.ref it) 1 (rawInt ((i:Int)+1))) (wpAny_setField e d (by simp) ?_)
 obtain⟨oc,R,z,M⟩:=o;dsimp only at c d;subst c;subst d;exact Ae ⟨x,rfl,Ae (h _ ⟨_,Cv _ e rfl,rfl,rfl⟩ (Dx _ _ _))⟩
theorem dU1 (z:A.handled=none)(h:∀(h':Heap) (e:Addr),(∀b o,s.heap.get? b=some o->h'.get? b=some o)->(∃o,h'.get? e=some o/\o.cls=.type "StopIteration")->E (.ref e) {s with heap:=h'}) :
  wpAny M A (Builtin.SmallTypes.stopIteration (α := α)) Q E s:=by
 unfold Builtin.SmallTypes.stopIteration newExc;refine Aa ?_;refine Aa (wpAny_newTuple ?_ (by show 0<=sizeLine;exact Ci _))
 have e1:firstArgMember (.type "StopIteration") []=pure .none:=by
  unfold firstArgMember;show(pure _ >>= λw=>pure (if w=true then _ else _))=_
  cases (Manifest.find? "StopIteration").elim false λt=>t.mro.contains "StopIteration" || t.mro.contains "SystemExit" <;> rfl
 rw[e1];refine Aa (Ae ?_);refine Bu ?_ (by show(6:Nat)<=sizeLine+2;decide)
 refine wpAny_raiseNew_none z (h _ _ (λb o q=>Aa6 _ (Aa6 _ q)) ⟨_,Ac3 _ rfl,rfl⟩)
theorem j8 (U:A.handled=none)(st:s.heap.IsTupleIter it t i)(J:s.heap.IsTuple t items)(M:items[i]? = none)
  (h:∀(h':Heap) (e:Addr),Heap.ExtBut it s.heap h'->(∃o,h'.get? e=some o/\o.cls=.type "StopIteration")->E (.ref e) {s with heap:=h'}):wpAny (model prog w) A (Builtin.SmallTypes.nextOf (.ref it)) Q E s:=by
 unfold Builtin.SmallTypes.nextOf;refine Aa (Cg st.typeIs slot_tupleiter_next (Cf slot_tupleiter_next st.typeIs entry_tupleiter_next ?_ (args_tupleiter_next _)));obtain⟨o,e,c,d⟩:=id st;obtain⟨D,Y,R,n,z⟩:=J;have j:slotArgs "__next__" 0 {pos:=[.ref it]}=pure (.ref it,[]):=rfl;refine Aa (m:=slotArgs "__next__" 0 {pos:=[.ref it]}) ?_;rw[j];refine Ae ?_;refine Aa (m:=field (.ref it) 0) (wpAny_field e d rfl ?_);refine Aa (m:=field (.ref it) 1) (wpAny_field e d rfl ?_);refine Aa (m:=seqItems? (.ref t)) (bD3 Y z ?_);show wpAny _ _ (match items[(i:Int).toNat]? with | some x=>_ | none=>_) _ _ _
 rw[Ac8,M];refine Aa (wpAny_rule ?_);refine Aa (m:=setField (.ref it) 0 .none) (wpAny_setField e d (by simp) ?_)
 exact dU1 U λh' ex kp N=>h h' ex (λb o X q=>kp b o (by rw[Heap.get?_update_ne _ _ _ _ X];exact q)) N
theorem bQ5 (U:A.handled=none)(it t:Addr)(z:t≠it)(items:AJ):Draws prog w A it [it,t] items.size (λi v=>items[i]? = some v) λi h=>h.IsTupleIter it t i/\h.IsTuple t items where
 live:=λi h st=>⟨_,st.1.choose_spec.1⟩
 frame:=λi h m st k=>⟨st.1.at λo e=>k it (by simp) o e,by
  obtain⟨o,e,r⟩:=st.2;exact⟨o,k t (by simp) o e,r⟩⟩
 item:=λi s Q E hi st h=>by
  have Y:items[i]? = some items[i]:=Bf hi
  refine aJ7 st.1 st.2 Y λm j X=>h _ m s.toks Y ⟨j,?_⟩ X
  obtain⟨o,e,r⟩:=st.2;exact⟨o,by rw[X.2 t z];exact e,r⟩
 done:=λs Q E st h=>j8 U st.1 st.2 (by simp) h
theorem aN6 (t:Addr)(items:AJ):Meets (Builtin.«enumerate.__new__» {pos:=[.type "enumerate",.ref t]}) λx R s=>
  s.heap.IsTuple t items/\R (.ok (.ret (.ref (s.heap.push {cls:=.type "tuple_iterator",data:=.fields #[.ref t,.int 0 0]}).objs.size)))
   {s with heap:=(s.heap.push {cls:=.type "tuple_iterator",data:=.fields #[.ref t,.int 0 0]}).push {cls:=.type "enumerate",data:=.fields #[.none,.bool false,.ref s.heap.objs.size,rawInt 0,.none,.none]}}:=by
 intro z w A R s ⟨D,Q⟩;unfold Builtin.«enumerate.__new__»;have J:Builtin.SmallTypes.newClass "enumerate" {pos:=[.type "enumerate",.ref t]}=pure (.type "enumerate",[.ref t]):=by
  unfold Builtin.SmallTypes.newClass;show(pure true >>= _)=_;rw[pure_bind];show(isSubtype (.type "enumerate") (.type "enumerate") >>= _)=_;rw[F.called_enumerate.sub];rfl
 rw[J];refine Aa (Ae ?_);dsimp only;rw[Ac (by decide)]
 refine Aa ?_;unfold Builtin.SmallTypes.calledThroughType;refine Aa (wpAny_stack λst _ _ _=>Ae ?_)
 have fin:wpAny (model z w) A.in1 (do
   let it <- pyIter (.ref t)
   let r <- Builtin.SmallTypes.newRecord (.type "enumerate") (Builtin.SmallTypes.ownedTupleFields++[it,rawInt 0,.none,.none])
   ret r) (λfin j=>match fin with | .done f=>R (.ok f) j | .again X=>X.quiet=true/\codeAny (model z w) A X R j) (λe j=>R (.error e) j) s:=by
  refine Aa (wpAny_pyIter_tuple D ?_);refine Aa (m:=Builtin.SmallTypes.newRecord _ _) ?_;unfold Builtin.SmallTypes.newRecord;exact Bu (Ae Q) (by show(6:Nat)<=sizeLine+2;decide)
 have U:∀(Y:Bool) (C N:Sem PySem.Fin),wpAny (model z w) A.in1 C (λfin j=>match fin with | .done f=>R (.ok f) j | .again X=>X.quiet=true/\codeAny (model z w) A X R j) (λe j=>R (.error e) j) s->wpAny (model z w) A.in1 N (λfin j=>match fin with | .done f=>R (.ok f) j | .again X=>X.quiet=true/\codeAny (model z w) A X R j) (λe j=>R (.error e) j) s->wpAny (model z w) A.in1 (if Y=true then C else N) (λfin j=>match fin with | .done f=>R (.ok f) j | .again X=>X.quiet=true/\codeAny (model z w) A X R j) (λe j=>R (.error e) j) s:=λY C N h1 M=>by
  cases Y
  .rw[Ab (by decide)];exact M
  .rw[Ac rfl];exact h1
 refine U _ _ _ ?_ ?_
 .exact Aa (m:=pure (Value.ref t,none)) (Ae fin)
 .exact Aa (m:=pure (Value.ref t,none)) (Ae fin)
theorem aA0 (j:s.heap.IsTuple t items)
  (h:∀h':Heap,IsEnum h' (s.heap.objs.size+1) s.heap.objs.size 0 .none->h'.IsTupleIter s.heap.objs.size t 0->(∀b o,s.heap.get? b=some o->h'.get? b=some o)->Q (.ref (s.heap.objs.size+1)) {s with heap:=h'}) :
  wpAny (model prog w) A (call (.type "enumerate") [.ref t]) Q E s:=by
 have e1:(s.heap.push {cls:=.type "tuple_iterator",data:=.fields #[.ref t,.int 0 0]}).objs.size=s.heap.objs.size+1:=by simp[Heap.push]
 refine callType_new F.called_enumerate (by decide) (F.typeCall_enumerate_1 _) (F.newCall_enumerate_1 _) (λm=>F.args_object_init_2 _ _) F.entry_enumerate_new (aN6 t items) ⟨j,?_⟩
 show _/\_
 rw[e1];have z:((s.heap.push {cls:=.type "tuple_iterator",data:=.fields #[.ref t,.int 0 0]}).push {cls:=.type "enumerate",data:=.fields #[.none,.bool false,.ref s.heap.objs.size,rawInt 0,.none,.none]}).get? (s.heap.objs.size+1)=some {cls:=.type "enumerate",data:=.fields #[.none,.bool false,.ref s.heap.objs.size,rawInt 0,.none,.none]}:=by
  have:=Ac3 (h:=s.heap.push {cls:=.type "tuple_iterator",data:=.fields #[.ref t,.int 0 0]}) (o:={cls:=.type "enumerate",data:=.fields #[.none,.bool false,.ref s.heap.objs.size,rawInt 0,.none,.none]}) rfl
  rw[e1]at this;exact this
 exact⟨⟨_,z,rfl⟩,h _ z ⟨_,Aa6 _ (Ac3 _ rfl),rfl,rfl⟩ λb o q=>Aa6 _ (Aa6 _ q)⟩
end
def Iet (K:Frag)(a:Addr):It:=
 ⟨λi H=>∃xs x,SqT K H a xs/\xs[i]? = some x,λi H x H'=>∃T y,x=.ref T/\H T=none/\H'=upd H T (.tup [.int (i:Int),y])/\∀xs,SqT K H a xs->xs[i]? = some y,λi H=>∃xs,SqT K H a xs/\xs.length<=i⟩
theorem tuple_inj (I:Inv X aA σ H s)(h:SqT X.K H a xs)(h':SqT X.K H a ys):xs=ys:=by
 obtain⟨its,r,⟨o,e,_,n,d⟩,_⟩:=I.tuple h;obtain⟨w,m,⟨U,e',_,Y,z⟩,_⟩:=I.tuple h';rw[e]at e';cases e';rw[d]at z
 injection z with j _
 have:its=w:=by simpa using congrArg Array.toList j
 subst this;exact r.inj m
theorem bT1 {P:Program}{w:World}{K:Frag}{elts:AM}{k:_}{pos:Pos}(a e it:Addr)(U:e≠it):bI2 P w K (.Tuple elts k pos) (Iet K a) [e,it] e (λi h=>(∃old,IsEnum h e it (i:Int) old)/\h.IsTupleIter it a i) where
 mem:=by simp
 obj:=λi h st b hb=>by
  obtain⟨⟨old,Y⟩,o,e1,c,d⟩:=st;rcases Aa1.mp hb with rfl | hb
  .exact⟨_,Y,λv z=>by cases z⟩
  .have M:b=it:=by simpa using hb
   subst M;exact⟨o,e1,λv z=>by rw[d]at z;cases z⟩
 keep:=λi h m st k=>⟨⟨st.1.choose,k e (by simp) _ st.1.choose_spec⟩,st.2.at λo q=>k it (by simp) o q⟩
 item:=by
  intro X hP hw B hc i aA s σ H E I N st hg;subst hP hw B;obtain⟨⟨old,Y⟩,hi⟩:=st;obtain⟨xs,x,R,hx⟩:=hg;obtain⟨its,rv,p,hz⟩:=I.tuple R;obtain⟨u,hu,ru⟩:=rv.get hx;have ea:a≠e:=λz=>by
   obtain⟨o,q,c,_⟩:=p;rw[z]at q;rw[show s.heap.get? e=_ from Y]at q
   cases q
   injection c with c
   exact absurd c (by decide)
  have F:a≠it:=λz=>by
   obtain⟨o,q,c,_⟩:=p;obtain⟨o',q',c',_⟩:=hi;rw[z,q']at q;cases q;rw[c']at c
   injection c with c
   exact absurd c (by decide)
  have hlt:i<its.toArray.size:=by have:=(Ab0.mp hu).1;simpa using this
  refine wpAny_pyNext_enum_itemD (bQ5 (A:=X.A.in1) (I.ok.hd hc) it a F its.toArray) Y ⟨hi,p⟩ hlt U (by simp[U,Ne.symm ea]) λy m tk D ho hst hT hs kp=>?_
  have ey:y=u:=by
   have h1:its.toArray[i]? = some u:=by simpa using hu
   rw[h1]at D;exact(Ab4 D).symm
  subst ey;obtain⟨hi',p'⟩:=hst;refine⟨_,rfl,?_⟩;have Te:s.heap.objs.size≠e:=λz=>by have h1:=Ab3 Y;rw[z]at h1;exact Ad9 _ h1
  have Ti:s.heap.objs.size≠it:=λz=>by
   obtain⟨o',q',_⟩:=hi;have h1:=Ab3 q';rw[z]at h1;exact Ad9 _ h1
  unfold letOwnedTupleGo;refine Aa (wpAny_load ho ?_);dsimp only;rw[Ac (by simp[rawInt])]
  refine Aa (wpAny_rule ?_);unfold updateField;refine Aa (wpAny_load ho ?_);dsimp only;rw[Ac (by simp)]
  refine wpAny_update ho ?_;have he2:(m.update e (Obj.mapFields λx=>x.setIfInBounds 0 .none)).get? e=some {cls:=.type "enumerate",data:=.fields #[.none,.bool false,.ref it,rawInt ((i:Int)+1),.none,y]}:=Cv (h:=m) (o:={cls:=.type "enumerate",data:=.fields #[rawInt (s.heap.objs.size:Int),.bool false,.ref it,rawInt ((i:Int)+1),.none,y]}) (λo=>Obj.mapFields (λx=>x.setIfInBounds 0 .none) o) ho rfl
  have J:∀b o,b≠e->m.get? b=some o->(m.update e (Obj.mapFields λx=>x.setIfInBounds 0 .none)).get? b=some o:=λb o hb q=>by rw[Heap.get?_update_ne _ _ _ _ hb];exact q
  have hT2:=J s.heap.objs.size _ Te hT
  refine⟨.ref s.heap.objs.size,upd H s.heap.objs.size (.tup [.int (i:Int),x]),?_,rfl,⟨_,x,rfl,I.hok.fresh (Aa7 _),rfl,λys D=>by rw[tuple_inj I D R];exact hx⟩,⟨⟨y,by rw[show((i+1:Nat):Int)=(i:Int)+1 by lia];exact he2⟩,hi'.at λo q=>J it o (Ne.symm U) q⟩,λb hb=>?_⟩
  .refine I.turnedLaid (t':=tk+1) (fp:=[e,it]) (λb o hb q=>J b o (λz=>hb (by simp[z])) (kp b o (λz=>hb (by simp[z])) (λz=>hb (by simp[z])) q)) N (Aa7 _) ?_
   exact⟨by show 2<=sizeLine;decide,[.int (i:Int) tk,y],.cons ⟨_,rfl⟩ (.cons ru .nil),⟨_,hT2,rfl,⟨_,rfl⟩,rfl⟩⟩
  .rw[B9]
   .exact(N b hb).1
   .rcases Aa1.mp hb with rfl | hb
    .exact Ne.symm Te
    .have M:b=it:=by simpa using hb
     subst M;exact Ne.symm Ti
 done:=by
  intro X hP hw B hc i aA s σ H E I N st hg;subst hP hw B;obtain⟨⟨old,Y⟩,hi⟩:=st;obtain⟨xs,R,hx⟩:=hg;obtain⟨its,rv,p,hz⟩:=I.tuple R;have hl:=rv.length;have hD:Draws X.prog X.w X.A.in1 it [it,a] i (λ_ _=>False) (λj h=>j=i/\h.IsTupleIter it a i/\h.IsTuple a its.toArray):=⟨λj h st=>⟨_,st.2.1.choose_spec.1⟩,λj h m st k=>⟨st.1,st.2.1.at λo e=>k it (by simp) o e,by
   obtain⟨o,e,r⟩:=st.2.2;exact⟨o,k a (by simp) o e,r⟩⟩,λj s Q E hj st _=>absurd st.1 (Ab9 hj),λs Q E st h=>j8 (I.ok.hd hc) st.2.1 st.2.2 (by simp;lia) h⟩
  exact wpAny_pyNext_enum_endD hD Y ⟨rfl,hi,p⟩ λm M=>⟨rfl,I.turnedL (t':=s.toks) (λb o hb q=>M b o (λz=>hb (by simp[z])) q) N⟩
 self:=λ_ _ _ _ _ st h=>wpAny_pyIter_enum st.1.choose_spec h
section
def cN9 (K:Frag)(ta:TA):TI:=λσ H R=>ta σ H λvs H1=>∃a xs,vs=[.ref a]/\SqT K H1 a xs/\R (Iet K a) H1
theorem cI4 {l:Expr}{ta:TA}{p pos:Pos}(K:Frag)(J:Gl X "enumerate")(M:X.mg "enumerate" = none)(U:PA X [l] ta)(Y:X.K=K:=by rfl)(Q:starEach [l] X.env=[(false,eval l X.env)]:=by rfl):PI X (.Tuple elts k ps) (.Call (.Name "enumerate" p) [l] [] pos) (cN9 K ta):=by
 subst Y;refine⟨?_⟩;intro m s σ H R I h;refine Call_ (V8 I J M boot_enumerate (Az (thn (U pos m s σ H _ I h) λus z pz=>?_) Q rfl))
 obtain⟨vs,H1,w,B,F⟩:=pz;obtain⟨a,xs,e,N,q⟩:=F;subst e;obtain⟨u,rfl,P⟩:=X4 B;cases P;obtain⟨its,rv,D,hz⟩:=w.tuple N;refine aA0 D λh' j hi kp=>?_
 refine wpAny_pyIter_enum j ?_;refine⟨z.heap.objs.size+1,[z.heap.objs.size+1,z.heap.objs.size],_,_,H1,rfl,w.kept (t':=z.toks) kp,bT1 a _ _ (by simp),⟨⟨_,j⟩,hi⟩,λb hb=>?_,q⟩
 rcases Aa1.mp hb with rfl | hb
 .exact w.fpOk (Nat.le_succ _) (w.hok.fresh (Nat.le_succ _))
 .have e:b=z.heap.objs.size:=by simpa using hb
  subst e;exact w.fpOk (Aa7 _) (w.hok.fresh (Aa7 _))
end
end L2
namespace LV
open PySem PySem.Spec PyProof.Rows L2
section
variable {K:Frag}{ρ:List Sl}{m:Bool}{t ta tb:TE}{d d':PyData}{ds es:AF}
theorem cT1 (s:SqT K Z a xs)(r:Reps K Z xs ds):Wk K Z (Iet K a) (enD ds) where
 stop:=λi H h l=>⟨xs,F0 h s,by rw[r.length,<- bF1];exact l⟩
 go:=λi H d h e=>by
  obtain⟨y,e,_⟩:=aP1 e;obtain⟨v,h1,_⟩:=r.get' e;exact⟨xs,v,F0 h s,h1⟩
 yld:=λi H d x U h e y=>by
  obtain⟨z,e',rfl⟩:=aP1 e;obtain⟨T,v,rfl,j,rfl,y⟩:=y
  have:=y xs (F0 h s)
  obtain⟨d',h1,Y⟩:=r.get this;rw[e']at h1;cases h1;have g:=D8 (o:=.tup [.int (i:Int),v]) j;refine⟨g,λS w=>?_⟩
  have X:Same Z (hid S (upd H T (.tup [.int (i:Int),v]))):=λb o q=>hid_some.mpr ⟨(λz=>by rw[(w b z).1]at q;cases q),g b o (h b o q)⟩
  exact .tup (SqT.of (hid_some.mpr ⟨λz=>(w T z).2 j,C5⟩)) (.cons (.int _) (.cons (Y.mono X) .nil))
theorem cU5 {t:TA}(h:A K m t ρ [.tuple ds]):I K m (cN9 K t) ρ (enD ds):=λS B σ H o J R q=>h S B σ H o J _ λvs H1 w r=>by
 cases r with
 | cons a b=>
  cases b
  cases a with
  | tup s r=>exact⟨_,_,rfl,F0 z6 s,q _ H1 w (cT1 s r)⟩
end
section
variable {K:Frag}{ρ ρ':List Sl}{m:Bool}{t ta tb:TE}{d d':PyData}{ds es:AF}
def spX (K:Frag)(pre:AF->(PyData->Prop)->Prop):Sp:=λvs H Q _=>∃(ds:AF) (S:Addr->Prop) (post:PyData->Prop),(∀b,S b->∃u:HM,H b=some u.ho)/\Reps K (hid S H) vs ds/\pre ds post /\
 ∀d v H',post d->Same H H'->Rep K (hid S H') v d->Q v H'
theorem bT3 {t:TS}{N:AH}{vs:List V}{S:Addr->Prop}{H:Hp}{Q:VK}{post:PyData->Prop}(Y:∀b,S b->∃u:HM,H b=some u.ho)(r:Reps K (hid S H) vs ds)(w:W K t (sl0 N.length ds) {nx:=λ_=>post .none,rt:=post})
  (k:∀d v H',post d->Same H H'->Rep K (hid S H') v d->Q v H'):t {nx:=λ_ H'=>Q .non H',rt:=Q} (L2.Y6 N vs) H:=
 w S H _ _ H _ (env0 Y r) ⟨λρ' J H' U j z=>k _ _ H' z j.base .non,λv e H' s X z=>k e v H' z s X,λ_ _ _ _ _ _ _ _ z=>z.elim,λ_ _ _ _ _ z=>z.elim,λ_ _ _ _ _ z=>z.elim⟩
theorem aW3 {i:Nat}{R:AE}{pre:AF->(PyData->Prop)->Prop}{post:PyData->Prop}{t:TA}{X:XK}(U:A K true t ρ ds)(hp:pre ds post)(J:∀d,post d->R.nx (ρ.set i (.val d))):W K (aP5 (Y7 (spX K pre) [] X t) (F5 i)) ρ R:=λS B D σ H o I s=>
 U S B σ H o I _ λvs H1 j rs=>⟨ds,E3 ρ o S,post,(I.grow j).lists,by rw[Bq];exact rs,hp,λd v w z M r=>(B4 (K:=K) (m:=true) (i:=i) (ρ := ρ) (d:=d)).2 S B σ w o (I.grow (L2.Same.tr j M)) v r _ λN Y=>s.nx _ N w o Y (J d z)⟩
theorem dO3 (h:∀ds d,pre ds d->ds.length=n):∀vs H Q E,spX K pre vs H Q E->vs.length=n:=by
 rintro vs H Q E ⟨ds,S,d,_,r,p,_⟩;have e:=r.length;rw[e];exact h ds d p
theorem dF4 {K:Frag}{ρ:List Sl}(w:List Sl->Prop){c:TT}{t u:TS}{b:Bool}{R:AE}(h:LV.T K c ρ b)(h1:b=true->W K t ρ {R with nx:=w})(Y:b=false->W K u ρ {R with nx:=w})(j:∀ρ',w ρ'->R.nx ρ'):W K (cH6 c t u) ρ R:=
 U8 h (λe=>(h1 e).weak j (λ_ z=>z) (λ_ z=>z) (λ_ z=>z) (λ_ z=>z)) (λe=>(Y e).weak j (λ_ z=>z) (λ_ z=>z) (λ_ z=>z) (λ_ z=>z))
end
section
theorem dW2 {K:Frag}{i j l k n:Nat}(h:i<n)(h':j<n)(w:l<n):aR0 n (bJ6 K k (T0 (F5 i) (T0 (F5 j) (T0 (F5 l) aY4)))):=
 cJ8 (aH8 W4 (o5 W4 (o5 W4 k9)) (J0 h) (aH8 W4 (o5 W4 k9) (J0 h') (aH8 W4 k9 (J0 w) cQ0)))
end
end LV
namespace TT
end TT
namespace LV
open PySem PyProof.Rows L2
theorem bY7 [DecidableEq α]:∀{l m:List α},l.Nodup->(∀x∈l,x∈m)->l.length<=m.length
 | [],_,_,_=>Ci _
 | a::l,m,nd,h=>by
  obtain⟨h1,j⟩:=Aa5.mp nd;have w:=h a (by simp)
  have:=bY7 (l:=l) (m:=m.erase a) j λx z=>(List.mem_erase_of_ne (show x≠a from λe=>h1 (by rw[<- e];exact z))).mpr (h x (by simp[z]))
  rw[Cz w]at this
  have:=Dg w
  simp;lia
end LV
namespace TT
structure Lnk (s:S):Prop where
 l0:∀q x,x∈s.i0 q->3<=x/\x<s.k+3/\s.o0 x=q
 l1:∀q x,x∈s.i1 q->3<=x/\x<s.k+3/\s.o1 x=q
 l2:∀q x,x∈s.i2 q->3<=x/\x<s.k+3/\s.o2 x=q/\3<=q
theorem bB1 (R:Rws F G m):∀i,i<=m->∀q,i+3<=q->(gst F G i).i2 q=[]
 | 0,_,_,_=>rfl
 | i+1,hi,q,hq=>by
  have w:=bJ7 R (i:=i) (by lia)
  have z:(gst F G i).k=i:=w.k
  show put (gst F G i).i2 ((gst F G i).k+3) _ q=[]
  rw[C1 (by lia)]
  exact bB1 R i (by lia) q (by lia)
structure Knl (s:S):Prop where
 k0:∀x,3<=x->x<s.k+3->x∈s.i0 (s.o0 x)
 k1:∀x,3<=x->x<s.k+3->x∈s.i1 (s.o1 x)
 k2:∀x,3<=x->x<s.k+3->s.o2 x≠2->x∈s.i2 (s.o2 x)
theorem cC5 {f:Nat->AC}{a q x:Nat}{l:AC}(h:x∈f q)(w:∀y∈f a,y∈l):x∈put f a l q:=by
 by_cases e:q=a
 .subst e;rw[B8];exact w x h
 .rw[C1 e];exact h
theorem bX7 (R:Rws F G m):∀i,i<=m->Knl (gst F G i)
 | 0,_=>⟨λx h1 j=>absurd j (by show ¬x<0+3;lia),λx h1 j=>absurd j (by show ¬x<0+3;lia),λx h1 j=>absurd j (by show ¬x<0+3;lia)⟩
 | i+1,hi=>by
  have L:=bX7 R i (by lia)
  have J:=bJ7 R (i:=i) (by lia)
  have M:(gst F G i).k=i:=J.k
  refine⟨λx Y w=>?_,λx Y w=>?_,λx Y w=>?_⟩
  .have w:x<(gst F G i).k+1+3:=w
   show x∈put (gst F G i).i0 (((gst F G i).path.drop (F i-pv F i)).headD 0) ((gst F G i).i0 (((gst F G i).path.drop (F i-pv F i)).headD 0)++[(gst F G i).k+3]) (put (gst F G i).o0 ((gst F G i).k+3) (((gst F G i).path.drop (F i-pv F i)).headD 0) x)
   by_cases e:x=(gst F G i).k+3
   .subst e;rw[B8,B8];simp
   .rw[C1 e];exact cC5 (L.k0 x Y (by lia)) λy U=>Al _ U
  .have w:x<(gst F G i).k+1+3:=w
   show x∈put (gst F G i).i1 ((((gst F G i).h1 (F i-pv F i)).drop (G i-pv G i)).headD 0) ((gst F G i).i1 ((((gst F G i).h1 (F i-pv F i)).drop (G i-pv G i)).headD 0)++[(gst F G i).k+3]) (put (gst F G i).o1 ((gst F G i).k+3) ((((gst F G i).h1 (F i-pv F i)).drop (G i-pv G i)).headD 0) x)
   by_cases e:x=(gst F G i).k+3
   .subst e;rw[B8,B8];simp
   .rw[C1 e];exact cC5 (L.k1 x Y (by lia)) λy U=>Al _ U
  .have w:x<(gst F G i).k+1+3:=w
   show(if x=(gst F G i).k+3 then 2 else if x∈((gst F G i).h1 (F i-pv F i)).take (G i-pv G i) then(gst F G i).k+3 else(gst F G i).o2 x)≠2->x∈put (gst F G i).i2 ((gst F G i).k+3) (((gst F G i).h1 (F i-pv F i)).take (G i-pv G i)) (if x=(gst F G i).k+3 then 2 else if x∈((gst F G i).h1 (F i-pv F i)).take (G i-pv G i) then(gst F G i).k+3 else(gst F G i).o2 x)
   by_cases e:x=(gst F G i).k+3
   .rw[Ac e];intro z;exact absurd rfl z
   .rw[Ab e];by_cases e2:x∈((gst F G i).h1 (F i-pv F i)).take (G i-pv G i)
    .rw[Ac e2,B8];exact λ_=>e2
    .rw[Ab e2];intro z;have X:=L.k2 x Y (by lia) z
     by_cases e3:(gst F G i).o2 x=(gst F G i).k+3
     .exfalso
      have:=bB1 R i (by lia) ((gst F G i).o2 x) (by lia)
      rw[this]at X;cases X
     .rw[C1 e3];exact X
theorem cB1 (R:Rws F G m):∀i,i<=m->Lnk (gst F G i)
 | 0,_=>⟨λq x h=>(nomatch h),λq x h=>(nomatch h),λq x h=>(nomatch h)⟩
 | i+1,hi=>by
  have L:=cB1 R i (by lia)
  have I:=P2 R i (by lia)
  have j:=bJ7 R (i:=i) (by lia)
  have X:(gst F G i).k=i:=I.k
  refine⟨λq x h=>?_,λq x h=>?_,λq x h=>?_⟩
  .show 3<=x/\x<(gst F G i).k+1+3/\put (gst F G i).o0 ((gst F G i).k+3) _ x=q
   have h:x∈put (gst F G i).i0 (((gst F G i).path.drop (F i-pv F i)).headD 0) ((gst F G i).i0 (((gst F G i).path.drop (F i-pv F i)).headD 0)++[(gst F G i).k+3]) q:=h
   have w:x∈(gst F G i).i0 q->3<=x/\x<(gst F G i).k+1+3/\put (gst F G i).o0 ((gst F G i).k+3) (((gst F G i).path.drop (F i-pv F i)).headD 0) x=q:=λh=>by
    obtain⟨a,b,c⟩:=L.l0 q x h;exact⟨a,by lia,by rw[C1 (by lia)];exact c⟩
   by_cases e:q=((gst F G i).path.drop (F i-pv F i)).headD 0
   .subst e;rw[B8]at h;rcases Aa0.mp h with h | h
    .exact w h
    .rw[Ad8]at h;subst h;exact⟨by lia,by lia,B8⟩
   .rw[C1 e]at h;exact w h
  .show 3<=x/\x<(gst F G i).k+1+3/\put (gst F G i).o1 ((gst F G i).k+3) _ x=q
   have h:x∈put (gst F G i).i1 ((((gst F G i).h1 (F i-pv F i)).drop (G i-pv G i)).headD 0) ((gst F G i).i1 ((((gst F G i).h1 (F i-pv F i)).drop (G i-pv G i)).headD 0)++[(gst F G i).k+3]) q:=h
   have w:x∈(gst F G i).i1 q->3<=x/\x<(gst F G i).k+1+3/\put (gst F G i).o1 ((gst F G i).k+3) ((((gst F G i).h1 (F i-pv F i)).drop (G i-pv G i)).headD 0) x=q:=λh=>by
    obtain⟨a,b,c⟩:=L.l1 q x h;exact⟨a,by lia,by rw[C1 (by lia)];exact c⟩
   by_cases e:q=(((gst F G i).h1 (F i-pv F i)).drop (G i-pv G i)).headD 0
   .subst e;rw[B8]at h;rcases Aa0.mp h with h | h
    .exact w h
    .rw[Ad8]at h;subst h;exact⟨by lia,by lia,B8⟩
   .rw[C1 e]at h;exact w h
  .show 3<=x/\x<(gst F G i).k+1+3/\(if x=(gst F G i).k+3 then 2 else if x∈((gst F G i).h1 (F i-pv F i)).take (G i-pv G i) then(gst F G i).k+3 else(gst F G i).o2 x)=q/\3<=q
   have h:x∈put (gst F G i).i2 ((gst F G i).k+3) (((gst F G i).h1 (F i-pv F i)).take (G i-pv G i)) q:=h
   by_cases e:q=(gst F G i).k+3
   .subst e;rw[B8]at h;obtain⟨a,b⟩:=j.lo x h;exact⟨a,by lia,by rw[Ab (by lia),Ac h],by lia⟩
   .rw[C1 e]at h;obtain⟨a,b,c,d⟩:=L.l2 q x h;refine⟨a,by lia,?_,d⟩
    rw[Ab (by lia),Ab]
    .exact c
    .intro z;have Y:x∈(gst F G i).path\/x∈(gst F G i).heap:=by
      have:=Bh z
      unfold S.h1 at this;rcases Aa0.mp this with y | y
      .exact .inl (Bh (Bi.mp y))
      .exact .inr y
     have:=(I.inv.bd x Y).2 a
     lia
structure Rg (d t:AA)(n p:Nat)(a b c:AC):Prop where
 rot:∃u w,trn d p=u++w/\w++u=og t 0 p::(a++og t 1 p::(b++og t 2 p::c))
 nd:(og t 0 p::(a++og t 1 p::(b++og t 2 p::c))).Nodup
 ha:∀x∈a,3<=x/\x<n/\og t 2 x=p
 hb:∀x∈b,3<=x/\x<n/\og t 0 x=p
 hc:∀x∈c,3<=x/\x<n/\og t 1 x=p
 ka:∀x,3<=x->x<n->og t 2 x=p->x∈a
 kb:∀x,3<=x->x<n->og t 0 x=p->x∈b
 kc:∀x,3<=x->x<n->og t 1 x=p->x∈c
theorem Bt.ringv (B:Bt F G m f d t)(v3:3<=v)(J:v<m+3):Rg d t (m+3) (f v) (((gst F G m).i2 v).map f) (((gst F G m).i0 v).map f) (((gst F G m).i1 v).reverse.map f):=by
 have D:3<=f v:=by have:=B.N.lo (by lia) J;lia
 have I:=P2 B.R m (Aa7 _)
 have L:=cB1 B.R m (Aa7 _)
 have Q:=bX7 B.R m (Aa7 _)
 have X:(gst F G m).k=m:=I.k
 have hr:(gst F G m).row v=(gst F G m).o0 v::((gst F G m).i2 v++(gst F G m).o1 v::((gst F G m).i0 v++(gst F G m).o2 v::((gst F G m).i1 v).reverse)):=O6 v3 (by rw[X];exact J)
 have e0:TT.og t 0 (f v)=f ((gst F G m).o0 v):=B.og (c:=0) (by lia) v3 J
 have e1:TT.og t 1 (f v)=f ((gst F G m).o1 v):=B.og (c:=1) (by lia) v3 J
 have e2:TT.og t 2 (f v)=f ((gst F G m).o2 v):=B.og (c:=2) (by lia) v3 J
 have P:((gst F G m).row v).map f=TT.og t 0 (f v)::(((gst F G m).i2 v).map f++TT.og t 1 (f v)::(((gst F G m).i0 v).map f++TT.og t 2 (f v)::((gst F G m).i1 v).reverse.map f)):=by
  rw[hr,e0,e1,e2];simp
 have nd:(((gst F G m).row v).map f).Nodup:=aM6 B.N.inj (I.inv.nd v) λx U=>by have:=I.inv.lt v x U;lia
 refine⟨?_,?_,?_,?_,?_,λx D U e=>?_,λx D U e=>?_,λx D U e=>?_⟩
 .have ed:trn d (f v)=T1 (((gst F G m).row v).map f):=by unfold trn;rw[B.dr v J];rfl
  refine⟨(((gst F G m).row v).map f).drop ((((gst F G m).row v).map f).idxOf (mn (((gst F G m).row v).map f))),(((gst F G m).row v).map f).take ((((gst F G m).row v).map f).idxOf (mn (((gst F G m).row v).map f))),ed,?_⟩;rw[Ad3,P]
 .rw[<- P];exact nd
 .intro x U;obtain⟨y,w,rfl⟩:=Aa8.mp U;obtain⟨j,Y,M,_⟩:=L.l2 v y w;rw[X]at Y
  have:=B.N.lo (by lia) Y
  exact⟨by lia,B.N.lt y Y,by rw[B.og (c:=2) (by lia) j Y];show f ((gst F G m).o2 y)=_;rw[M]⟩
 .intro x U;obtain⟨y,w,rfl⟩:=Aa8.mp U;obtain⟨j,Y,M⟩:=L.l0 v y w;rw[X]at Y
  have:=B.N.lo (by lia) Y
  exact⟨by lia,B.N.lt y Y,by rw[B.og (c:=0) (by lia) j Y];show f ((gst F G m).o0 y)=_;rw[M]⟩
 .intro x U;obtain⟨y,w,rfl⟩:=Aa8.mp U;obtain⟨j,Y,M⟩:=L.l1 v y (Bi.mp w);rw[X]at Y
  have:=B.N.lo (by lia) Y
  exact⟨by lia,B.N.lt y Y,by rw[B.og (c:=1) (by lia) j Y];show f ((gst F G m).o1 y)=_;rw[M]⟩
 .obtain⟨y,w,rfl⟩:=B.N.surj x U;have j:3<=y:=by have:=B.N.lo (by lia) w;lia
  rw[B.og (c:=2) (by lia) j w]at e
  have ho:=(bF9 (c:=2) (s:=gst F G m) (by lia) j (by rw[X];exact w))
  have z:=I.inv.lt y _ ho
  have e':(gst F G m).o2 y=v:=B.N.inj _ _ (by rw[X]at z;exact z) J e
  have:=Q.k2 y j (by rw[X];exact w) (by lia)
  rw[e']at this;exact Aa8.mpr ⟨y,this,rfl⟩
 .obtain⟨y,w,rfl⟩:=B.N.surj x U;have j:3<=y:=by have:=B.N.lo (by lia) w;lia
  rw[B.og (c:=0) (by lia) j w]at e
  have ho:=(bF9 (c:=0) (s:=gst F G m) (by lia) j (by rw[X];exact w))
  have z:=I.inv.lt y _ ho
  have e':(gst F G m).o0 y=v:=B.N.inj _ _ (by rw[X]at z;exact z) J e
  have:=Q.k0 y j (by rw[X];exact w)
  rw[e']at this;exact Aa8.mpr ⟨y,this,rfl⟩
 .obtain⟨y,w,rfl⟩:=B.N.surj x U;have j:3<=y:=by have:=B.N.lo (by lia) w;lia
  rw[B.og (c:=1) (by lia) j w]at e
  have ho:=(bF9 (c:=1) (s:=gst F G m) (by lia) j (by rw[X];exact w))
  have z:=I.inv.lt y _ ho
  have e':(gst F G m).o1 y=v:=B.N.inj _ _ (by rw[X]at z;exact z) J e
  have:=Q.k1 y j (by rw[X];exact w)
  rw[e']at this;exact Aa8.mpr ⟨y,Bi.mpr this,rfl⟩
theorem Bt.ring (B:Bt F G m f d t)(z:3<=p)(hp:p<m+3):∃a b c,Rg d t (m+3) p a b c:=by
 obtain⟨v,w,rfl⟩:=B.N.surj p hp;have v3:3<=v:=by have:=B.N.lo (by lia) w;lia
 exact⟨_,_,_,B.ringv v3 w⟩
inductive Sn (t:AA)(c n:Nat):Nat->Nat->Prop
 | zero {q:Nat}:q=c->Sn t c n q 0
 | succ {q k:Nat}:3<=q->q<n->Sn t c n (og t c q) k->Sn t c n q (k+1)
theorem Wy.st (w:Wy (og t c) q l):(∀x∈l,x<n)->(∃p,l=p++[c])->∃k,Sn t c n q k:=by
 induction w with
 | @corner q h=>
  intro _ ⟨p,e⟩;cases p with
  | nil=>simp at e;exact⟨0,.zero e⟩
  | cons x r=>simp at e
 | @step q l h w ih=>
  intro z ⟨p,e⟩;cases p with
  | nil=>
   simp at e
   cases w <;> simp at e
  | cons x r=>
   simp at e
   obtain⟨k,j⟩:=ih (λx m=>z x (by simp[m])) ⟨r,e.2⟩
   exact⟨k+1,.succ h (z q (by simp)) j⟩
theorem Bt.steps (B:Bt F G m f d t)(P:c<3)(M:3<=q)(j:q<m+3):∃k,Sn t c (m+3) q k:=by
 obtain⟨Y,X,U,R,Q,D,J,e1,e2,nd,lt⟩:=B.ways M j;have h:∀l,(∀x∈l,x∈Y++(X++U))->∀x∈q::l,x<m+3:=λl N x w=>by
  rcases Aa1.mp w with rfl | z
  .exact j
  .exact lt x (N x z)
 rcases (show c=0\/c=1\/c=2 by lia) with rfl | rfl | rfl
 .exact R.st (h Y λx w=>by simp[w]) J
 .exact Q.st (h X λx w=>by simp[w]) e1
 .exact D.st (h U λx w=>by simp[w]) e2
structure Gd (m:Nat)(d t:AA):Prop where
 dl:d.length=m+3
 tl:t.length=m
 t3:∀v,v<m->t[v]? = some [og t 0 (v+3),og t 1 (v+3),og t 2 (v+3)]
 ring:∀{p},3<=p->p<m+3->∃a b c,Rg d t (m+3) p a b c
 steps:∀{c q},c<3->3<=q->q<m+3->∃k,Sn t c (m+3) q k
 good:Good (m+3) (trn d)
section
theorem Bt.gd (B:Bt F G m f d t):Gd m d t:=by
 refine⟨B.dl,B.tl,λv U=>?_,λw hp=>B.ring w hp,λj w Y=>B.steps j w Y,B.good⟩
 obtain⟨u,z,e⟩:=B.N.surj (v+3) (by lia)
 have X:3<=u:=by have:=B.N.lo (by lia) z;lia
 have h:=B.tr u X z
 rw[e,show v+3-3=v by lia]at h
 unfold TT.og;rw[show v+3-3=v by lia,h]
 rfl
end
end TT
namespace K39
open PySem L2 LV PyProof.Rows
theorem cW1:C2 ["drawing", "p", "q"] ["drawing", "p", "q"] (B3 bR1):={}
theorem aY2 (l:AC):tN l=tI (l.map λ(x:Nat)=>(x:Int)):=by unfold tN tI nI;simp
structure Dw (m:Nat)(dr tr:AA):Prop where
 m7:m<=7
 bt:∃F G f,TT.Bt F G m f dr tr
theorem Dw.len (h:Dw m dr tr):dr.length=m+3:=by
 obtain⟨_,_,_,_,B⟩:=h;exact B.dl
theorem Dw.gd (h:Dw m dr tr):TT.Gd m dr tr:=by
 obtain⟨_,_,_,_,B⟩:=h;exact B.gd
theorem cM6 (h:p<dr.length):dr[p]? = some (TT.trn dr p):=by
 unfold TT.trn;rw[Aa2 h];rfl
def pD (x:Int×Int):PyData:=tI [x.1,x.2]
theorem cH8 (x y:Int×Int):PyData.eqv (pD x) (pD y)=decide (x=y):=by
 unfold pD;rw[o4];refine Dd.mpr ?_;constructor
 .intro h;simp at h;exact Prod.ext h.1 h.2
 .rintro rfl;rfl
theorem dN2 (x:Int×Int):imm (pD x)=true:=aN7 _
theorem m9 (ps:List (Int×Int)):K6 (ps.map pD)=true:=U9 dN2 ps
theorem aF5 (x:Int×Int)(ps:List (Int×Int)):(ps.map pD).any (λz=>PyData.eqv z (pD x))=decide (x∈ps):=by
 induction ps with
 | nil=>rfl
 | cons y ps w=>
  rw[Ac7,List.any_cons,w,cH8];by_cases h:y=x
  .subst h;simp
  .have:¬x=y:=λz=>h z.symm
   simp[h,this]
theorem dJ5 (q:Int)(l:AC):(nI l).any (λz=>PyData.eqv z (.int q))=decide (q∈l.map λ(x:Nat)=>(x:Int)):=by
 unfold nI;induction l with
 | nil=>rfl
 | cons y l w=>
  rw[Ac7,List.any_cons,w,bI5];by_cases h:(y:Int)=q
  .subst h;simp
  .have:¬q=(y:Int):=λz=>h z.symm
   simp[h,this]
theorem S7 (x:Int×Int):FitN 1 (pD x):=S4 _
theorem cT7 (ps:List (Int×Int)):Fit (.list (ps.map pD)):=(aC2 (n:=1) λd w=>by obtain⟨x,_,rfl⟩:=Aa8.mp w;exact S7 x).fit
def td (dr:AA)(p q:Int):Bool:=(decide (0<=p)&&decide (p<(dr.length:Int)))&&decide (q∈(TT.trn dr p.toNat).map λ(x:Nat)=>(x:Int))
def bY8 (ds:AF)(d:PyData):Prop:=∃(dr:AA) (p q:Int),ds=[tD dr,.int p,.int q]/\d=.bool (td dr p q)
def gp (ps:List (Int×Int))(k:Nat):Int×Int:=ps.getD k (0,0)
theorem aW6 (h:k<ps.length):ps[k]? = some (gp ps k):=by
 unfold gp;rw[Aa2 h,Ac0,Aa2 h];rfl
section
variable {P:Program}{w:World}{K:Frag}{mg:Str->Option Value}{base:Heap}{a:Ad}
theorem bY6 (T:Tx K mg a):K3 P w K mg base CX0 1 a.cN6 a.cQ1 ["drawing", "p", "q"] (spV K bY8):=by
 refine T.bT4.F.ok cW1 (W3 (by rintro ds d ⟨_,_,_,rfl,_⟩;rfl)) (λJ A Y s H vs Q E N h=>?_)
 obtain⟨ds,S,d,M,r,⟨z,p,q,rfl,rfl⟩,k⟩:=h;refine⟨_,(B1 (C8 (bS8 (cN5 dU0 bC2 A7 (pv 1) (B6 (aJ0 K) (by rfl) T.O3 Aw (A0 (pv 0) A5))) (bS6 (l4 (aF8 K N) (pv 2) (B5 (ixK K) (pv 0) (pv 1) (λ_ _=>rfl)) rfl))))),K7 M r ?_ k⟩
 refine L6 (d:=.bool (td z p q)) ?_ rfl;have U:(z.map tN).length=z.length:=Aa3 _;have h:=cJ2 (K:=K) (m:=true) (ρ:=sl0 ["drawing", "p", "q"].length [tD z,.int p,.int q]) (b:=decide (q∈(TT.trn z p.toNat).map λ(x:Nat)=>(x:Int))) (cX1 (r:=rI0 λi j=>.bl (decide (i<=j))) (r':=rI0 λi j=>.bl (decide (i<j))) (g:=λi j=>decide (i<=j)) (g':=λi j=>decide (i<j)) (B0 (i:=0)) v1 (P4 (ds:=z.map tN) (A4 v0 A8))) (λh=>by
  rw[U]at h;have X:=Aq _ _▸h;have h1:(0:Int)<=p:=An X.1;have R:p<(z.length:Int):=An X.2;have e:=aY3 (K:=K) (m:=false) (ρ:=sl0 ["drawing", "p", "q"].length [tD z,.int p,.int q]) v2 (E7 (d':=tN (TT.trn z p.toNat)) (ds:=z.map tN) v0 v1 rfl (U1 p.toNat (by lia) (by rw[Aa9,cM6 (by lia)];rfl))) (ds:=nI (TT.trn z p.toNat)) rfl (bZ7 _) (by rw[aY2];exact(S4 _).fit)
  rw[dJ5]at e;exact e)
 rw[U]at h;exact h
end
theorem cW5 {lo:Int}{n i:Nat}{d:PyData}(h:(U4 lo n)[i]? = some d):d=.int (lo+(i:Int))/\i<n:=by
 have hi:=(Ab0.mp h).1
 have w:i<n:=by simpa[U4]using hi
 unfold U4 at h;rw[Aa9,List.getElem?_range w]at h;exact⟨(Ab4 h).symm,w⟩
def M3 (ts:AB):AB:=ts.mergeSort λa b => !HT.Y4 b a
theorem D1 (ts:AB):(M3 ts).Perm ts:=List.mergeSort_perm _ _
theorem R3 (ts:AB):(M3 ts).Pairwise G9:=by
 have:=List.pairwise_mergeSort (le:=λa b:AD => !HT.Y4 b a) (λa b d h1 w=>by
  have:=aC7 a b d (by unfold G9;simpa using h1) (by unfold G9;simpa using w)
  unfold G9 at this;simp[this]) (λa b=>by
  rcases bC9 a b with h | h <;> unfold G9 at h <;> simp[h]) ts
 refine this.imp λh=>?_
 unfold G9;simpa using h
def toL (x:Int×Int):AD:=[x.1,x.2]
def ofL (l:AD):Int×Int:=(l.getD 0 0,l.getD 1 0)
def sp (ps:List (Int×Int)):List (Int×Int):=(M3 (ps.map toL)).map ofL
theorem aK0 (ps:List (Int×Int)):(sp ps).Perm ps:=by
 have h:=(D1 (ps.map toL)).map ofL
 rw[Ae2]at h;have e:ps.map (ofL ∘ toL)=ps:=(Bg (g:=id) (λx _=>rfl)).trans (List.map_id _)
 rw[e]at h;exact h
theorem dH2 (ps:List (Int×Int)):(M3 (ps.map toL)).map tI=(sp ps).map pD:=by
 unfold sp;rw[Ae2];refine Bg λl w=>?_
 obtain⟨x,_,rfl⟩:=Aa8.mp ((D1 _).mem_iff.mp w);rfl
theorem aX3 {K:Frag}{ρ:List Sl}{t:TA}{ps:List (Int×Int)}(z:LV.A K false t ρ [.list (ps.map pD)])(w:ps.length<64) :
  EF K (tCB (λxs H Q=>∃(p:Addr) (ys:List V) (ts:AB),xs=[.ref p]/\SqL K H p ys/\TupsV K H ys ts/\ys.length<64 /\
   ∀a (q:AC),H a=none->q.Perm (List.range ys.length)->(q.map λi=>ts.getD i []).Pairwise G9->Q (.ref a) (upd H a (.lst (q.map λi=>ys.getD i .non)))) t) ρ ((sp ps).map pD):=by
 have e:ps.map pD=(ps.map toL).map tI:=by rw[Ae2];rfl
 rw[e]at z;rw[<- dH2];exact j9 z (λt j=>by obtain⟨x,_,rfl⟩:=Aa8.mp j;simp[toL]) (by rw[Aa3];exact w) (D1 _) (R3 _)
def ga {α:Type}(g:Nat->List α)(n:Nat):List α:=((List.range n).map g).flatten
theorem S5 (g:Nat->List α)(n:Nat):ga g (n+1)=ga g n++g n:=by
 unfold ga;rw[Ce,Ad2,List.flatten_append];simp
theorem ga_mem:x∈ga g n↔∃i,i<n/\x∈g i:=by
 unfold ga;rw[List.mem_flatten];constructor
 .rintro⟨l,hl,hx⟩;obtain⟨i,hi,rfl⟩:=Aa8.mp hl;exact⟨i,Ab5.mp hi,hx⟩
 .rintro⟨i,hi,hx⟩;exact⟨g i,Aa8.mpr ⟨i,Ab5.mpr hi,rfl⟩,hx⟩
def ga1 (tr:AA)(v:Nat):List (Int×Int):=(tr.getD v []).map λ(q:Nat)=>(3+(v:Int),(q:Int))
def arr (tr:AA):List (Int×Int):=ga (ga1 tr) tr.length
theorem Dw.tl (h:Dw m dr tr):tr.length=m:=by
 obtain⟨_,_,_,_,B⟩:=h;exact B.tl
theorem Dw.t3 (h:Dw m dr tr)(j:v<m):∃r,tr[v]? = some r/\r.length=3:=by
 obtain⟨_,F,G,f,B⟩:=h;obtain⟨u,w,e⟩:=B.N.surj (v+3) (by lia)
 have z:3<=u:=by have:=B.N.lo (by lia) w;lia
 have:=B.tr u z w
 rw[e]at this;exact⟨_,this,rfl⟩
theorem bE7 (h:Dw m dr tr)(hi:i<=tr.length):(ga (ga1 tr) i).length<=3*i:=by
 induction i with
 | zero=>simp[ga]
 | succ i z=>
  rw[S5,Ab7]
  have:=z (by lia)
  have j:=h.tl
  obtain⟨r,h1,w⟩:=h.t3 (v:=i) (by lia)
  have:(ga1 tr i).length=3:=by unfold ga1;rw[Aa3,Ac0,h1];exact w
  lia
end K39
namespace L2
open PySem PySem.Spec PyProof.Rows
abbrev KvR:List (AD×Addr×V)->List (AD×Addr×Value)->Prop:=Paired (λp q=>p.1=q.1/\p.2.1=q.2.1/\RelV p.2.2 q.2.2)
def atK (kv:List (AD×Addr×V))(k:AD):Option V:=(kv.find? λx=>decide (x.1=k)).map (·.2.2)
def aY6 (kv:List (AD×Addr×V))(k:AD)(b:Addr)(v:V):List (AD×Addr×V):=
 if(atK kv k).isSome then kv.map (λx=>if x.1=k then(x.1,x.2.1,v) else x) else kv++[(k,b,v)]
theorem bC6 (r:cF8 o u):o.isSome=u.isSome:=by
 cases o <;> cases u <;> first | rfl | exact r.elim
theorem KvR.at_ {kv:List (AD×Addr×V)}{xs:List (AD×Addr×Value)}(r:KvR kv xs)(k:AD):cF8 (atK kv k) ((atKey xs k).map (·.2)):=by
 induction r with
 | nil=>exact True.intro
 | @cons p q ps qs h t ih=>
  by_cases e:p.1=k
  .have e':q.1=k:=h.1.symm.trans e
   simpa[atK,atKey,Bv,e,e',cF8]using h.2.2
  .have e':¬q.1=k:=λz=>e (h.1.trans z)
   simpa[atK,atKey,Bv,e,e',cF8]using ih
theorem KvR.repl (r:KvR kv xs)(k:AD)(w:RelV y u):KvR (kv.map λx=>if x.1=k then(x.1,x.2.1,y) else x) (xs.map (putAt k u)):=by
 induction r with
 | nil=>exact .nil
 | @cons p q ps qs h t ih=>
  rw[Ac7,Ac7];refine .cons ?_ ih;by_cases e:p.1=k
  .have e':q.1=k:=h.1.symm.trans e
   rw[Ac e,putAt,Ac e'];exact⟨h.1.trans rfl |>.trans (by simp[e']),h.2.1,w⟩
  .have e':¬q.1=k:=λz=>e (h.1.trans z)
   rw[Ab e,putAt,Ab e'];exact h
theorem KvR.snoc (r:KvR kv xs)(h:p.1=q.1/\p.2.1=q.2.1/\RelV p.2.2 q.2.2):KvR (kv++[p]) (xs++[q]):=by
 induction r with
 | nil=>exact .cons h .nil
 | cons a _ w=>exact .cons a w
theorem KvR.put (r:KvR kv xs)(k:AD)(b:Addr)(w:RelV y u):KvR (aY6 kv k b y) (storedH xs k b u):=by
 have e:=bC6 (KvR.at_ r k)
 rw[Option.isSome_map]at e;unfold aY6 storedH;rw[e];split
 .exact KvR.repl r k w
 .exact KvR.snoc r ⟨rfl,rfl,w⟩
theorem KvR.mem (r:KvR kv xs)(h:x∈xs):∃y∈kv,y.1=x.1/\y.2.1=x.2.1:=by
 induction r with
 | nil=>cases h
 | @cons p q ps qs a _ ih=>
  rcases Aa1.mp h with rfl | h
  .exact⟨p,by simp,a.1,a.2.1⟩
  .obtain⟨y,w,e⟩:=ih h;exact⟨y,by simp[w],e⟩
theorem cM0 (kv:List (AD×Addr×V))(k:AD)(b:Addr)(v:V):(aY6 kv k b v).length<=kv.length+1:=by
 unfold aY6;split <;> simp
theorem bA6:∀{ks:AD} {us:AG},Vals (ks.map V.int) us->ItemsAre (intKind P w) ks us
 | [],_,r=>by rw[Cj]at r;cases r;exact .nil
 | k::ks,_,r=>by
  rw[Ac7]at r;cases r with
  | cons h t=>
   obtain⟨t',rfl⟩:=h;exact .cons (by show Value.isInt k (Value.int k t')=true;simp[Value.isInt]) (bA6 t)
section
theorem aL2 (I:Inv X aA σ H s)(h:SqT X.K H b (ks.map V.int)):(tupleKind (intKind X.prog X.w)).is s.heap ks b:=by
 obtain⟨its,r,⟨o,h1,z,⟨n,j⟩,_⟩,_⟩:=I.tuple0 h;exact⟨o,its.toArray,n,h1,z,j,by simpa using bA6 r⟩
def aZ6 (K:Frag)(H:Hp)(kv:List (AD×Addr×V)):Prop:=∀z∈kv,SqT K H z.2.1 (z.1.map V.int)
theorem bH7 (I:Inv X aA σ H s)(e:H a=some (dicO a kv))(R:aZ6 X.K H kv):∃xs,KvR kv xs/\kv.length<=sizeLine/\(a==sysModules)=false/\s.heap.DictOfH (tupleKind (intKind X.prog X.w)) a xs:=by
 obtain⟨⟨xs,r,z,N,o,m,j,h1,Y,U,J,M⟩,_⟩:=(show ObjOk X.prog X.w H s.heap a (dicO a kv) from I.hok a _ e)
 refine⟨xs,r,z,N,o,m,j,h1,Y,U,J,λx Q=>?_,M⟩
 obtain⟨y,D,e1,e2⟩:=KvR.mem r Q
 have:=aL2 I (R y D)
 rw[e1,e2]at this;exact this
def cL8 (K:Frag)(neg:Bool):R2:=λx y H Q=>∃b a ks kv,x=.ref b/\SqT K H b (ks.map V.int)/\y=.ref a/\H a=some (dicO a kv)/\aZ6 K H kv/\Q (.bl (xor neg (atK kv ks).isSome)) H
theorem aQ5 (K:Frag)(M:Room k X.A)(h:X.K=K:=by rfl):OpR X (compareOp .NotIn) (cL8 K true):=by
 subst h;intro F s σ H x y v u Q I R D ⟨b,a,N,kv,ex,Y,j,m,J,q⟩;subst ex j;cases (show v=Value.ref b from R)
 cases (show u=Value.ref a from D)
 obtain⟨xs,r,z,U,w⟩:=bH7 I m J;refine wpAny_notIn_heap (tupleKind_room_in1 (by have:=M.un;lia)) (aL2 I Y) U w ?_
 have e:=bC6 (KvR.at_ r N)
 rw[Option.isSome_map]at e;rw[<- e];exact⟨.bl _,H,I.tok _,rfl,by simpa using q⟩
end
theorem aR9 (r:KvR kv xs)(z:kv.length<=sizeLine)(U:(a==sysModules)=false)(h1:h'.get? a=some o)(j:o.ExactDict)(m:o.data=.dict es ep)
  (Y:es.toList=xs.map dEnt) (X:(xs.map (·.1)).Nodup):ObjOk P w H' h' a (dicO a kv):=
 ⟨⟨xs,r,z,U,o,es,ep,h1,j,m,Y,X⟩,⟨o,h1⟩,λJ M ⟨xs,r,z,U,o,es,ep,h1,j,m,Y,X⟩ k=>⟨xs,r,z,U,o,es,ep,k _ h1,j,m,Y,X⟩⟩
def cB3:TE:=λ_ H Q=>∀p,H p=none->Q (.ref p) (upd H p (dicO p []))
theorem _root_.L2.Inv.big' (I:Inv X aA σ H s):sysModules<s.heap.objs.size:=by
 have h:mainGlobals<s.heap.objs.size:=(I.mod.glob.keeps I.bk).lt
 exact Nat.lt_trans (by decide) h
theorem bC4:PE X (.Dict [] [] pos) cB3:=⟨λw s σ H Q I h=>
 wpAny_Dict_empty ⟨.ref s.heap.objs.size,_,I.laid (a:=s.heap.objs.size) (o:=dicO s.heap.objs.size []) (t':=s.toks) (λ_ _ q=>Aa6 _ q) (Aa7 _)
  (aR9 .nil (Ci _) (beq_eq_false_iff_ne.mpr (Ne.symm (Ab9 I.big'))) (Ac3 _ rfl) ⟨rfl,rfl,rfl⟩ rfl rfl List.nodup_nil),rfl,h _ (I.hok.fresh (Aa7 _))⟩⟩
def bW7 (K:Frag)(td ty tv:TE):TS:=λD σ H=>tv σ H λv H1=>td σ H1 λx H2=>ty σ H2 λy H3=>∃a b ks kv,x=.ref a/\y=.ref b/\SqT K H3 b (ks.map V.int)/\H3 a=some (dicO a kv)/\aZ6 K H3 kv/\kv.length<sizeLine/\D.nx σ (upd H3 a (dicO a (aY6 kv ks b v)))
theorem aP3 (K:Frag)(hr:Room k X.A)(ho:PE X o td)(hi:PE X i ty)(hv:PE X value tv)(hs:swapsWith value (some (.Subscript o i pos')) pos.line X.env=pure false:=by rfl)(h:X.K=K:=by rfl) :
  PS X (.Assign [.Subscript o i pos'] value pos) (bW7 K td ty tv):=by
 subst h;refine⟨?_⟩;intro m s σ H D I h;refine wpAny_Assign_Subscript (thn (hv m s σ H _ I h) λr s1 ⟨v,H1,F,rv,q1⟩=>thn (ho m s1 σ H1 _ F q1) λu s2 ⟨x,Q,B,rx,q2⟩=>thn (hi m s2 σ Q _ B q2) λiv s3 pz=>?_) hs
 obtain⟨y,H3,j,ry,a,b,R,kv,ex,ey,U,M,hk,hl,q3⟩:=pz;subst ex ey;obtain rfl:u=Value.ref a:=rx;obtain rfl:iv=Value.ref b:=ry;obtain⟨xs,w,z,hd,P⟩:=bH7 j M hk;have hz:xs.length<=sizeLine:=by rw[<- Paired.length w];exact z
 refine wpAny_setItem_heap (hsz:=hz) (tupleKind_room_in1 (by have:=hr.un;lia)) (aL2 j U) P λh' Y J=>⟨σ,_,?_,q3⟩
 obtain⟨q,es,ep,N,h2,h3,h4,_,h5⟩:=Y;have hp:=cM0 kv R b v;exact j.write (x:=a) (e:=a) (by rw[M];exact True.intro) (.inl rfl) (λc q U z=>(J.2 c U).trans z) ⟨q,N⟩ (aR9 (KvR.put w R b rv) (by lia) hd N h2 h3 h4 h5)
end L2
namespace LV
open PySem L2
section
variable {K:Frag}{ρ:List Sl}{m:Bool}{ta tb tv:TE}{d:PyData}{ks:AD}{kvs:List (AD×PyData)}
def X1 (kvs:List (AD×PyData))(k:AD)(d:PyData):List (AD×PyData):=
 if kvs.any (λx=>decide (x.1=k)) then kvs.map (λx=>if x.1=k then(x.1,d) else x) else kvs++[(k,d)]
theorem aO0:∀{kv:List (AD×Addr×V)} {kvs:List (AD×PyData)},kv.map (·.1)=kvs.map (·.1)->Reps K Z (kv.map λx=>V.ref x.2.1) (kvs.map λx=>PyData.tuple (x.1.map PyData.int))->aZ6 K Z kv
 | [],_,_,_=>λz hz=>by cases hz
 | x::kv,[],e,_=>by simp at e
 | x::kv,y::kvs,e,r=>by
  simp only[Ac7,Bj]at e r;cases r with
  | cons a b=>
   intro z hz;rcases Aa1.mp hz with rfl | hz
   .cases a with
    | tup s q=>rw[e.1,<- Reps.ints q];exact s
   .exact aO0 e.2 b z hz
theorem bD0 (h:aZ6 K H kv)(s:Same H H'):aZ6 K H' kv:=λz w=>F0 s (h z w)
theorem bF8:∀{kv:List (AD×Addr×V)} {kvs:List (AD×PyData)},kv.map (·.1)=kvs.map (·.1)->(atK kv ks).isSome=kvs.any λx=>decide (x.1=ks)
 | [],[],_=>rfl
 | [],_::_,e=>by simp at e
 | _::_,[],e=>by simp at e
 | x::kv,y::kvs,e=>by
  simp only[Ac7,Bj]at e;have ih:=bF8 e.2;unfold atK at ih ⊢;rw[Bv,List.any_cons,e.1];by_cases h:y.1=ks
  .simp[h]
  .simp[h];simpa using ih
theorem aV1:EFT K cB3 ρ (.dic []):=λS B σ H o I Q q p hp=>
 q (.ref p) [p] _ (D8 hp) (λb w=>by rw[Ad8.mp w];exact hp) (by simp) (.dic C5 rfl .nil .nil)
theorem cB2 (z:E K false ta ρ (.tuple (ks.map PyData.int)))(h:ρ[i]? = some (.tr (.dic kvs))):E K m (tOp (cL8 K neg) ta (C4 i)) ρ (.bool (xor neg (kvs.any λx=>decide (x.1=ks)))):=E.bor (E.imm (m:=false) λS B σ H o I Q q=>z S B σ H o I _ λv H1 w j=>by
 obtain⟨_,u,a,b⟩:=(I.grow w).tr i _ h;refine⟨u,a,?_⟩;generalize o i=L at b;cases b with
 | @dic p kv _ e k r2 r3=>
  cases j with
  | @tup b xs _ s r=>
   rw[Reps.ints r]at s;refine⟨b,p,ks,kv,rfl,s,rfl,e,bD0 (aO0 k r2) P5,?_⟩;rw[bF8 k];exact q _ H1 w (.bl _))
theorem bA9 (U:Rep K Z v d):∀{kv:List (AD×Addr×V)} {kvs:List (AD×PyData)},kv.map (·.1)=kvs.map (·.1)->Reps K Z (kv.map λx=>V.ref x.2.1) (kvs.map λx=>PyData.tuple (x.1.map PyData.int))->Reps K Z (kv.map (·.2.2)) (kvs.map (·.2)) ->
  (kv.map λx=>if x.1=ks then(x.1,x.2.1,v) else x).map (·.1)=(kvs.map λx=>if x.1=ks then(x.1,d) else x).map (·.1) /\
  Reps K Z ((kv.map λx=>if x.1=ks then(x.1,x.2.1,v) else x).map λx=>V.ref x.2.1) ((kvs.map λx=>if x.1=ks then(x.1,d) else x).map λx=>PyData.tuple (x.1.map PyData.int)) /\
  Reps K Z ((kv.map λx=>if x.1=ks then(x.1,x.2.1,v) else x).map (·.2.2)) ((kvs.map λx=>if x.1=ks then(x.1,d) else x).map (·.2))
 | [],[],_,_,_=>⟨rfl,.nil,.nil⟩
 | [],_::_,e,_,_=>by simp at e
 | _::_,[],e,_,_=>by simp at e
 | x::kv,y::kvs,e,r1,r2=>by
  simp only[Ac7,Bj]at e r1 r2;cases r1 with
  | cons j M=>
   cases r2 with
   | cons J N=>
    obtain⟨h1,Y,X⟩:=bA9 U e.2 M N;simp only[Ac7];by_cases h:y.1=ks
    .have w:x.1=ks:=e.1.trans h
     rw[Ac h,Ac w];exact⟨by rw[h1];simp[h,w],.cons j Y,.cons U X⟩
    .have w:¬x.1=ks:=λz=>h (e.1.symm.trans z)
     rw[Ab h,Ab w];exact⟨by rw[h1,e.1],.cons j Y,.cons J X⟩
theorem cJ1 (j:Rep K Z v d)(rb:Rep K Z (.ref b) (.tuple (ks.map PyData.int)))(e:kv.map (·.1)=kvs.map (·.1))(w:Reps K Z (kv.map λx=>V.ref x.2.1) (kvs.map λx=>PyData.tuple (x.1.map PyData.int)))(z:Reps K Z (kv.map (·.2.2)) (kvs.map (·.2))) :
  (aY6 kv ks b v).map (·.1)=(X1 kvs ks d).map (·.1)/\Reps K Z ((aY6 kv ks b v).map λx=>V.ref x.2.1) ((X1 kvs ks d).map λx=>PyData.tuple (x.1.map PyData.int))/\Reps K Z ((aY6 kv ks b v).map (·.2.2)) ((X1 kvs ks d).map (·.2)):=by
 unfold aY6 X1;rw[bF8 e];split
 .exact bA9 j e w z
 .simp only[Ad2,Ac7,Cj];exact⟨by rw[e],w.append (.cons rb .nil),z.append (.cons j .nil)⟩
theorem aW5 (hv:E K true tv ρ d)(hi:ρ[i]? = some (.tr (.dic kvs)))(hk:E K true tb ρ (.tuple (ks.map PyData.int)))(hl:kvs.length<sizeLine)(hn:R.nx (ρ.set i (.tr (.dic (X1 kvs ks d)))))(nb:O0 ρ=true:=by rfl) :
  W K (bW7 K (C4 i) tb tv) ρ R:=λS B D σ H o I s=>hv S B σ H o I _ λv H1 M rv=>by
 obtain⟨Y,u,a,b⟩:=(I.grow M).tr i _ hi;refine⟨u,a,hk S B σ H1 o (I.grow M) _ λy w s2 ry=>?_⟩
 have Q:=(I.grow M).grow s2
 obtain⟨Y,u2,F,b2⟩:=Q.tr i _ hi;rw[a]at F;cases F;have j:i<ρ.length:=(Ab0.mp hi).1;generalize ho:o i=L at b2;cases b2 with
 | @dic p kv _ e k r2 r3=>
  cases ry with
  | @tup q xs _ sq r=>
   have hq:=Reps.ints r
   have N:SqT K w q (ks.map V.int):=by rw[<- hq];exact F0 P5 sq
   have len:kv.length=kvs.length:=by have:=congrArg List.length k;simpa using this
   refine⟨p,q,ks,kv,rfl,rfl,N,e,bD0 (aO0 k r2) P5,by lia,?_⟩
   have J:Rep K (hid (E3 ρ o S) w) v d:=rv.mono (aS2 (m:=true) s2)
   obtain⟨k',X,U⟩:=cJ1 J (b:=q) (.tup (by rw[<- hq];exact sq) (R5 ks)) k r2 r3
   have oi:cE0 ρ o i p:=⟨_,hi,rfl,by rw[ho];simp⟩
   have os:E3 ρ o S p:=.inr ⟨i,_,hi,rfl,by rw[ho];simp⟩
   have g:Same (hid (E3 ρ o S) w) (hid (λb=>E3 ρ o S b\/b∈[p]) (upd w p (dicO p (aY6 kv ks q v)))):=λc y z=>by
    obtain⟨q1,q2⟩:=hid_some.mp z;refine hid_some.mpr ⟨λz=>q1 (z.elim id λz=>by rw[Ad8.mp z];exact os),?_⟩
    rw[B9 (λz=>q1 (by rw[z];exact os))];exact q2
   have P:=Q.put (H':=upd w p (dicO p (aY6 kv ks q v))) (v:=.ref p) (x:=.tr (.dic (X1 kvs ks d))) (L:=[p]) i j (λb=>b=p) (λb z=>by rw[z];exact oi) (λb y q z=>by rw[B9 z];exact q) (λb z=>.inl (by rw[Ad8.mp z];exact oi))
    (.inr ⟨_,rfl,by simp,.dic C5 k' (X.mono g) (U.mono g)⟩) (.inr (J4 nb))
   rw[aT2 a]at P;exact s.nx _ _ _ _ P hn
end
section
theorem dM5 (hi:ρ[i]? = some (.val (.int x)))(h:E K true t ρ (.int y))(X:R.nx (ρ.set i (.val (.int (x+y))))):W K (dU9 i t (ipI λi j=>i+j)) ρ R:=λS B D σ H o I s=>by
 obtain⟨v,z,Y⟩:=I.val i _ hi;cases Y;refine⟨_,z,h S B σ H o I _ λv w U r=>?_⟩
 cases r
 exact⟨_,_,rfl,rfl,s.nx _ _ w o ((I.grow U).set (m:=true) i (d:=.int (x+y)) (.int _)) X⟩
end
theorem cQ7 (kvs:List (AD×PyData))(k w:AD)(d:PyData):(X1 kvs k d).any (λx=>decide (x.1=w))=(kvs.any (λx=>decide (x.1=w))||decide (k=w)):=by
 unfold X1;split
 .rename_i h;have e:(kvs.map λx=>if x.1=k then(x.1,d) else x).any (λx=>decide (x.1=w))=kvs.any (λx=>decide (x.1=w)):=by
   rw[List.any_map]
   congr 1
   funext x
   simp only[Function.comp];split <;> rfl
  rw[e];by_cases z:k=w
  .subst z;rw[h];rfl
  .simp[z]
 .simp
theorem bO2 (kvs:List (AD×PyData))(k:AD)(d:PyData):(X1 kvs k d).length<=kvs.length+1:=by
 unfold X1;split <;> simp
end LV
namespace TT
open Classical
def par (w:Nat->Bool):AC->Bool
 | []=>false
 | a::l=>xor (w a) (par w l)
theorem Z7 (w:Nat->Bool):∀l m:AC,par w (l++m)=xor (par w l) (par w m)
 | [],m=>by simp[par]
 | a::l,m=>by simp[par,Z7 w l m]
theorem aB2:∀{l:AC},(∀a∈l,w a=false)->par w l=false
 | [],_=>rfl
 | a::l,h=>by simp[par,h a (by simp),aB2 (l:=l) λb hb=>h b (by simp[hb])]
theorem bH0 (w u:Nat->Bool):∀l:AC,par (λa=>xor (w a) (u a)) l=xor (par w l) (par u l)
 | []=>rfl
 | a::l=>by
  simp only[par,bH0 w u l];cases w a <;> cases u a <;> cases par w l <;> cases par u l <;> rfl
theorem aD0:∀{l:AC},(∀a∈l,w a=u a)->par w l=par u l
 | [],_=>rfl
 | a::l,h=>by simp[par,h a (by simp),aD0 (l:=l) λb hb=>h b (by simp[hb])]
theorem bK2:∀{l:AC},l.Nodup->s∈l->(∀a∈l,a≠s->w a=false)->par w l=w s
 | [],_,h,_=>by cases h
 | a::l,nd,h,hz=>by
  rw[Aa5]at nd;by_cases e:a=s
  .subst e
   simp[par,aB2 (l:=l) λb hb=>hz b (by simp[hb]) λe=>nd.1 (e▸hb)]
  .have hs:s∈l:=by rcases Aa1.mp h with h | h;exact absurd h.symm e;exact h
   simp[par,hz a (by simp) e,bK2 nd.2 hs λb hb=>hz b (by simp[hb])]
theorem bH1 (j:s≠t)(nd:l.Nodup)(Y:s∈l)(X:t∈l)(U:∀a∈l,a≠s->a≠t->w a=false):par w l=xor (w s) (w t):=by
 have e:par w l=par (λa=>xor (if a=s then w s else false) (if a=t then w t else false)) l:=aD0 λa m=>by
  by_cases h1:a=s
  .subst h1;simp[j]
  .by_cases z:a=t
   .subst z;simp[h1]
   .simp[h1,z,U a m h1 z]
 rw[e,bH0,bK2 nd Y λa _ h=>by simp[h],bK2 nd X λa _ h=>by simp[h]]
 simp
theorem lin_iff:∀{l:AC} {a b:Nat},lin l a b↔∃p s,l=p++a::b::s
 | [],a,b=>by simp[lin]
 | [c],a,b=>by
  simp only[lin,false_iff];rintro⟨p,s,e⟩
  have:=congrArg List.length e
  simp at this
  lia
 | c::d::l,a,b=>by
  rw[C7,lin_iff (l:=d::l)];constructor
  .rintro (⟨rfl,rfl⟩ | ⟨p,s,e⟩)
   .exact⟨[],l,rfl⟩
   .exact⟨c::p,s,by rw[e];rfl⟩
  .rintro⟨p,s,e⟩;cases p with
   | nil=>simp at e;exact .inl ⟨e.1.symm,e.2.1.symm⟩
   | cons c' p=>simp at e;exact .inr ⟨p,s,e.2⟩
theorem adj_iff:adj l a b↔(∃p s,l=p++a::b::s)\/∃p,l=p++[a]/\l.head? = some b:=by
 unfold adj;rw[lin_iff];cases l with
 | nil=>simp
 | cons c l=>
  simp only[List.take_succ_cons,List.take_zero,List.head?_cons,Option.some.injEq];constructor
  .rintro⟨p,s,e⟩;rcases Ac5 s with w | ⟨z,d,w⟩
   .subst w;have e':(c::l)++[c]=(p++[a])++[b]:=by rw[e];simp
    have:=List.append_inj' e' rfl
    exact .inr ⟨p,this.1,by simpa using this.2⟩
   .subst w;have e':(c::l)++[c]=(p++a::b::z)++[d]:=by rw[e];simp
    exact .inl ⟨p,z,(List.append_inj' e' rfl).1⟩
  .rintro (⟨p,s,e⟩ | ⟨p,e,rfl⟩)
   .exact⟨p,s++[c],by rw[e];simp⟩
   .exact⟨p,[],by rw[e];simp⟩
theorem G5 {l p s:AC}{u:Nat}(nd:l.Nodup)(e:l=p++u::s):l.idxOf u=p.length:=by
 have hp:u∉p:=λw=>by rw[e]at nd;exact(Aa4.mp nd).2.2 u w u (by simp) rfl
 rw[e,List.idxOf_append,Ab hp];simp
theorem pot (nd:l.Nodup)(h:par w l=false):∃G:Nat->Bool,∀a b,adj l a b->xor (G a) (G b)=w b:=by
 refine⟨λu=>par w (l.take (l.idxOf u+1)),λa b z=>?_⟩
 have at_:∀(p s:AC) (u:Nat),l=p++u::s->l.take (l.idxOf u+1)=p++[u]:=λp s u e=>by
  rw[G5 nd e,e,show p++u::s=(p++[u])++s by simp]
  exact List.take_left' (by simp)
 rcases adj_iff.mp z with⟨p,s,e⟩ | ⟨p,e,j⟩
 .dsimp only
  rw[at_ p (b::s) a e,at_ (p++[a]) s b (by rw[e];simp),Z7,Z7,Z7]
  simp only[par];cases par w p <;> cases w a <;> cases w b <;> rfl
 .dsimp only
  rw[at_ p [] a e];cases l with
  | nil=>simp at j
  | cons c r=>
   simp at j;subst j
   rw[<- e,h,at_ [] r c rfl]
   simp[par]
structure Cyc (r:Nat->AC)(z:Nat->Nat->Bool):Prop where
 sym:∀p q,z p q=z q p
 sup:∀p q,z p q=true->q∈r p
 ev:∀p,par (z p) (r p)=false
def H1 (r:Nat->AC):Prop:=∀z,Cyc r z->∃f:Nat->Nat->Bool,(∀q a b,adj (r q) a b->f q a=f a b)/\∀p s q,adj (r p) s q->xor (f p s) (f p q)=z p q
theorem bI0 (nd:l.Nodup)(m:3<=l.length)(h1:adj l a b)(M:adj l b a):False:=by
 have U:a≠b:=λe=>by
  subst e;rcases adj_iff.mp h1 with⟨p,s,e⟩ | ⟨p,e,j⟩
  .rw[e]at nd
   have:=(Aa4.mp nd).2.1
   simp at this
  .cases p with
   | nil=>rw[e]at m;simp at m
   | cons c p=>rw[e]at j nd;simp at j;subst j;simp at nd
 rcases adj_iff.mp h1 with⟨p,s,e⟩ | ⟨p,e,j⟩
 .rcases adj_iff.mp M with⟨Y,J,e'⟩ | ⟨Y,e',z⟩
  .have Q:=G5 nd e
   have D:=G5 nd e'
   have N:=G5 (p:=p++[a]) (u:=b) (s:=s) nd (by rw[e];simp)
   have R:=G5 (p:=Y++[b]) (u:=a) (s:=J) nd (by rw[e'];simp)
   simp at N R
   lia
  .
   cases p with
   | cons c p=>rw[e]at z nd;simp at z;subst z;simp at nd
   | nil=>
    cases s with
    | nil=>rw[e]at m;simp at m
    | cons d s=>
     rw[e]at e' nd;rcases Ac5 (d::s) with h | ⟨w,g,h⟩
     .cases h
     .rw[h]at e' nd;have X:([]++a::b::w.concat g)=(a::b::w)++[g]:=by simp
      rw[X]at e' nd
      have:=(List.append_inj' e' rfl).2
      simp at this
      subst this;simp at nd
 .rcases adj_iff.mp M with⟨Y,J,e'⟩ | ⟨Y,e',z⟩
  .cases Y with
   | cons c Y=>rw[e']at j nd;simp at j;subst j;simp at nd
   | nil=>
    cases J with
    | nil=>rw[e']at m;simp at m
    | cons d s=>
     rw[e']at e nd;rcases Ac5 (d::s) with h | ⟨w,g,h⟩
     .cases h
     .rw[h]at e nd;have X:([]++b::a::w.concat g)=(b::a::w)++[g]:=by simp
      rw[X]at e nd
      have:=(List.append_inj' e rfl).2
      simp at this
      subst this;simp at nd
  .have:=List.append_inj' (e.symm.trans e') rfl
   exact U (by simpa using this.2)
theorem cK0 {g:Nat->Bool}:∀(a:Nat) (l:AC),(∀s q,lin (a::l) s q->g s=g q)->∀c∈l,g c=g a
 | a,[],_,c,hc=>by cases hc
 | a,b::l,h,c,hc=>by
  have w:g a=g b:=h a b (by rw[C7];exact .inl ⟨rfl,rfl⟩)
  rcases Aa1.mp hc with rfl | hc
  .exact w.symm
  .rw[w];exact cK0 b l (λs q z=>h s q (by rw[C7];exact .inr z)) c hc
theorem cI9:H1 S.first.row:=by
 intro z Z;have j:S.first.row 0=[1,2]:=rfl;have m:S.first.row 1=[2,0]:=rfl;have Y:S.first.row 2=[0,1]:=rfl;have rh:∀q,3<=q->S.first.row q=[]:=λq w=>aU0 (s:=S.first) w
 have X:=Z.ev 0
 have e1:=Z.ev 1
 have e2:=Z.ev 2
 rw[j]at X;rw[m]at e1;rw[Y]at e2;simp only[par,Bool.xor_false]at X e1 e2;have U:=Z.sym 0 1;have J:=Z.sym 0 2;have M:=Z.sym 1 2;refine⟨λp q=>if(p=0/\q=1)\/(p=1/\q=2)\/(p=2/\q=0) then z 0 1 else false,λq a b h=>?_,λp s q h=>?_⟩
 .have w:q<3:=by
   by_cases w:q<3
   .exact w
   .rw[rh q (by lia)]at h;exact absurd (C6 h).1 (by simp)
  rcases (show q=0\/q=1\/q=2 by lia) with rfl | rfl | rfl
  .rw[j]at h;simp[adj,lin]at h;rcases h with⟨rfl,rfl⟩ | ⟨rfl,rfl⟩ <;> simp
  .rw[m]at h;simp[adj,lin]at h;rcases h with⟨rfl,rfl⟩ | ⟨rfl,rfl⟩ <;> simp
  .rw[Y]at h;simp[adj,lin]at h;rcases h with⟨rfl,rfl⟩ | ⟨rfl,rfl⟩ <;> simp
 .have w:p<3:=by
   by_cases w:p<3
   .exact w
   .rw[rh p (by lia)]at h;exact absurd (C6 h).1 (by simp)
  rcases (show p=0\/p=1\/p=2 by lia) with rfl | rfl | rfl
  .rw[j]at h;simp[adj,lin]at h;rcases h with⟨rfl,rfl⟩ | ⟨rfl,rfl⟩ <;> simp <;> grind
  .rw[m]at h;simp[adj,lin]at h;rcases h with⟨rfl,rfl⟩ | ⟨rfl,rfl⟩ <;> simp <;> grind
  .rw[Y]at h;simp[adj,lin]at h;rcases h with⟨rfl,rfl⟩ | ⟨rfl,rfl⟩ <;> simp <;> grind
theorem bx1:∀A X V Y B:Bool,xor A (xor X (xor V (xor Y B)))=false->xor A (xor X (xor false (xor Y B)))=V:=by decide
theorem bx2:∀A X V Y B:Bool,xor A (xor X (xor V (xor Y B)))=false->xor A (xor X (xor Y B))=V:=by decide
theorem bx3:∀A T V B:Bool,xor A (xor T (xor V B))=false->xor A (xor T B)=V:=by decide
theorem bx4:∀A Z V B:Bool,xor A (xor Z (xor V B))=false->xor A (xor Z (xor false B))=V:=by decide
section
theorem Edit.sym' (E:Edit row row' v x y L C R)(h:q∈row' p):p∈row' q:=by
 obtain⟨b,w⟩:=aI1 h;exact(C6 (E.tri' _ _ _ w)).2
theorem Edit.mem_old (E:Edit row row' v x y L C R)(hp:p≠v)(U:q≠v)(h:q∈row' p):q∈row p:=by
 by_cases j:p=2
 .subst j;rw[E.new2]at h;rw[E.two];simp only[Aa0,Aa1]at h ⊢;grind
 by_cases Y:p=x
 .subst Y;obtain⟨u,z,w,e1,e2⟩:=E.rx;rw[e2]at h;rw[e1];simp only[Aa0,Aa1]at h ⊢;grind
 by_cases X:p=y
 .subst X;obtain⟨u,w,e1,e2⟩:=E.ry;rw[e2]at h;rw[e1];simp only[Aa0,Aa1]at h ⊢;grind
 by_cases m:p∈C
 .obtain⟨u,z,w,e1,e2⟩:=E.rc p m;rw[e2]at h;rw[e1];simp only[Aa0,Aa1]at h ⊢;grind
 .rw[E.rest p j hp Y X m]at h;exact h
theorem Edit.par_old (E:Edit row row' v x y L C R)(Z:Cyc row' w)(hp:p≠v):par (w p) (row p)=w p v:=by
 obtain⟨⟨f1,f2,f3,Q,D⟩,J,nd2⟩:=E.facts;have ev:=Z.ev p;have no:∀q,q∉row' p->w p q=false:=λq M=>by
  cases h:w p q with
  | false=>rfl
  | true=>exact absurd (Z.sup p q h) M
 have nd':=E.nd' p
 by_cases m:p=2
 .subst m;rw[E.new2]at ev;rw[E.two];have j:par (w 2) C=false:=aB2 λc j=>no c (by
   rw[E.new2]
   have:=J c j
   simp only[Aa4,Aa5,Aa0,Aa1,not_or]at nd2;simp only[Aa0,Aa1,not_or];grind)
  simp only[Z7,par,j]at ev ⊢;exact bx1 _ _ _ _ _ ev
 by_cases Y:p=x
 .subst Y;obtain⟨u,z,U,e1,e2⟩:=E.rx;rw[e2]at ev;rw[e1];simp only[Z7,par]at ev ⊢;exact bx2 _ _ _ _ _ ev
 by_cases X:p=y
 .subst X;obtain⟨u,U,e1,e2⟩:=E.ry;rw[e2]at ev;rw[e1];simp only[Z7,par]at ev ⊢;exact bx3 _ _ _ _ ev
 by_cases j:p∈C
 .obtain⟨u,z,U,e1,e2⟩:=E.rc p j;have N:w p 2=false:=no 2 (by
   have:=E.nd p
   rw[e1]at this;have v2:=E.v2;rw[e2];simp only[Aa4,Aa5,Aa0,Aa1,not_or]at this ⊢;grind)
  rw[e2]at ev;rw[e1];simp only[Z7,par,N]at ev ⊢;exact bx4 _ _ _ _ ev
 .have e:=E.rest p m hp Y X j
  rw[e]at ev;rw[ev,no v (by rw[e];exact E.fresh p)]
theorem dA0 (E:Edit row row' v x y L C R)(h:H1 row):H1 row':=by
 intro F Z;obtain⟨⟨f1,f2,f3,f4,f5⟩,fC,nd2⟩:=E.facts;have v2:=E.v2;have Q:=E.nd' v;have hD3:3<=(row' v).length:=by rw[E.newv];simp
 obtain⟨G,hG⟩:=pot Q (Z.ev v);have nv:∀{q},q∈row' v->q≠v:=λ{q} U e=>E.self' v (e▸U)
 have Y:∀{a b},adj (row' v) a b->a∈row' b/\b∈row' a/\a≠v/\b≠v:=λ{a b} X=>by
  have M:=E.tri' _ _ _ X
  have t2:=E.tri' _ _ _ M
  exact⟨(C6 t2).2,(C6 M).1,nv (C6 X).1,nv (C6 X).2⟩
 let j:Nat->Nat->Bool:=λp q=>if adj (row' v) p q then G p else if adj (row' v) q p then G q else false
 have lksym:∀p q,j p q=j q p:=λp q=>by
  simp only[j];by_cases h1:adj (row' v) p q <;> by_cases N:adj (row' v) q p
  .exact(bI0 Q hD3 h1 N).elim
  .simp[h1,N]
  .simp[h1,N]
  .simp[h1,N]
 let z:Nat->Nat->Bool:=λp q=>if p=v\/q=v then false else xor (F p q) (j p q)
 have zz:∀p q,p≠v->q≠v->z p q=xor (F p q) (j p q):=λp q h1 N=>by simp[z,h1,N]
 have Z0:Cyc row z:=by
  refine⟨λp q=>?_,λp q B=>?_,λp=>?_⟩
  .simp only[z];rw[Z.sym p q,lksym p q];by_cases h1:p=v <;> by_cases N:q=v <;> simp[h1,N]
  .by_cases h1:p=v\/q=v
   .simp only[z]at B;rw[Ac h1]at B;cases B
   .have P:p≠v/\q≠v:=by simpa using h1
    rw[zz p q P.1 P.2]at B;refine E.mem_old P.1 P.2 ?_;cases hz':F p q with
    | true=>exact Z.sup p q hz'
    | false=>
     rw[hz']at B;by_cases a1:adj (row' v) p q
     .exact(Y a1).2.1
     .by_cases a2:adj (row' v) q p
      .exact(Y a2).1
      .simp[j,a1,a2]at B
  .by_cases hp:p=v
   .subst hp;rw[E.oldv];rfl
   .have e1:par (z p) (row p)=par (λq=>xor (F p q) (j p q)) (row p):=aD0 λq U=>zz p q hp λe=>E.fresh p (e▸U)
    rw[e1,bH0,E.par_old Z hp];by_cases hm:p∈row' v
    .obtain⟨s,J⟩:=aI1 hm;obtain⟨t,ht⟩:=bO8 hm;have hst:s≠t:=λe=>bI0 Q hD3 J (e▸ht)
     have e2:=bH1 (w:=j p) hst (E.nd p) (E.mem_old hp (Y J).2.2.2 (Y J).2.1) (E.mem_old hp (Y ht).2.2.1 (Y ht).1) (λq _ h1 N=>by
      simp only[j];rw[Ab λm=>h1 (aM9 Q m J),Ab λm=>N (bP5 Q m ht)])
     have l1:j p s=G p:=by simp[j,J]
     have l2:j p t=G t:=by
      simp only[j];rw[Ab λm=>hst (aM9 Q J m),Ac ht]
     rw[e2,l1,l2,Z.sym p v,<- hG t p ht];cases G t <;> cases G p <;> rfl
    .rw[aB2 λq _=>by simp only[j];rw[Ab λm=>hm (C6 m).1,Ab λm=>hm (C6 m).2]]
     cases B:F p v with
     | false=>rfl
     | true=>exact absurd (E.sym' (Z.sup p v B)) hm
 obtain⟨f,fr,fb⟩:=h z Z0;have fb':∀p q,q∈row p->xor (f p q) (f q p)=z p q:=λp q U=>by
  obtain⟨s,J⟩:=bO8 U
  have:=fb p s q J
  have M:=E.tri _ _ _ J
  rw[<- this,fr _ _ _ J,fr _ _ _ M];cases f q p <;> cases f p q <;> rfl
 have lkC:∀c∈C,j 2 c=false:=λc hc=>by
  have fc:=fC c hc
  have aD:∀a b,adj (row' v) a b↔EE x y C a b\/(a=y/\b=2)\/(a=2/\b=x):=λa b=>by
   rw[E.newv];unfold adj EE
   have:x::(C++[y,2])++List.take 1 (x::(C++[y,2]))=(x::C)++y::[2,x]:=by simp
   rw[this,D9];simp only[C7,aC4,or_false]
   simp
  simp only[j];have m1:¬adj (row' v) 2 c:=λm=>by
   rcases (aD _ _).mp m with h | h | h
   .have:=aA1 h;grind
   .exact absurd h.1.symm f3
   .exact fc.1 h.2
  have m2:¬adj (row' v) c 2:=λm=>by
   rcases (aD _ _).mp m with h | h | h
   .have:=aA1 h;grind
   .exact fc.2.1 h.1
   .exact fc.2.2.1 h.1
  rw[Ab m1,Ab m2]
 have k2:∀c∈C,f 2 c=f 2 x:=cK0 (g:=f 2) x C λs q J=>by
  have U:q∈C:=W9 J
  have he:EE x y C s q:=by
   unfold EE
   have:x::(C++[y])=(x::C)++[y]:=rfl
   rw[lin_iff]at J ⊢;obtain⟨p,w,e⟩:=J;exact⟨p,w++[y],by rw[this,e];simp⟩
  have:=fb 2 s q (p9 E he)
  have fc:=fC q U
  have z2:z 2 q=false:=by
   rw[zz 2 q (Ne.symm v2) fc.2.2.2,lkC q U];cases B:F 2 q with
   | false=>rfl
   | true=>
    have:=Z.sup 2 q B
    rw[E.new2]at this;simp only[Aa4,Aa5,Aa0,Aa1,not_or]at nd2 this;grind
  rw[z2]at this;cases h1:f 2 s <;> cases N:f 2 q <;> simp[h1,N]at this ⊢
 generalize hκ:f 2 x=κ at k2;have aD:∀a b,adj (row' v) a b↔EE x y C a b\/(a=y/\b=2)\/(a=2/\b=x):=λa b=>by
  rw[E.newv];unfold adj EE
  have:x::(C++[y,2])++List.take 1 (x::(C++[y,2]))=(x::C)++y::[2,x]:=by simp
  rw[this,D9];simp only[C7,aC4,or_false]
  simp
 have fk:∀a b,adj (row' v) a b->f a b=κ:=λa b m=>by
  have ee:∀{a b},EE x y C a b->f 2 a=κ:=λ{a b} he=>by
   rcases (aA1 he).1 with rfl | hc
   .exact hκ
   .exact k2 a hc
  rcases (aD a b).mp m with he | ⟨rfl,rfl⟩ | ⟨rfl,rfl⟩
  .rw[<- fr 2 a b (p9 E he)];exact ee he
  .
   obtain⟨t,ht⟩:∃t,EE x a C t a:=by
    unfold EE;rcases Ac5 (x::C) with h | ⟨p,t,h⟩
    .cases h
    .refine⟨t,lin_iff.mpr ⟨p,[],?_⟩⟩
     have:x::(C++[a])=(x::C)++[a]:=rfl
     rw[this,h];simp
   have h1:=p9 E ht
   have M:=E.tri _ _ _ h1
   rw[<- fr _ _ _ M,<- fr _ _ _ h1];exact ee ht
  .exact hκ
 refine⟨λp q=>if p=v then xor κ (G q) else if q=v then xor κ (xor (G p) (F v p)) else if adj (row' v) p q then xor κ (G p) else f p q,λq a b X=>?_,λp s q D=>?_⟩
 .have M:=E.tri' _ _ _ X
  have t2:=E.tri' _ _ _ M
  have gp:∀{a b},adj (row' v) a b->xor (G b) (F v b)=G a:=λ{a b} h=>by rw[<- hG a b h];cases G a <;> cases G b <;> rfl
  dsimp only
  by_cases U:q=v
  .subst U;have i:=Y X;rw[Ac rfl,Ab i.2.2.1,Ab i.2.2.2,Ac X]
  by_cases m:a=v
  .subst m;have i:=Y M;rw[Ab U,Ac rfl,Ac rfl,gp M]
  by_cases hb:b=v
  .subst hb;rw[Ab U,Ab m,Ac t2,Ab m,Ac rfl,gp t2]
  .have n1:¬adj (row' v) q a:=λh=>hb (aM9 (E.nd' q) X (E.tri' _ _ _ h))
   have n2:¬adj (row' v) a b:=λh=>U (aM9 (E.nd' a) M (E.tri' _ _ _ h))
   rw[Ab U,Ab m,Ab n1,Ab m,Ab hb,Ab n2];rcases (bR5 E q a b).mp X with⟨h1,_⟩ | h1
   .exact fr _ _ _ h1
   .unfold W' at h1;grind
 .have M:=E.tri' _ _ _ D
  have t2:=E.tri' _ _ _ M
  dsimp only
  by_cases hp:p=v
  .subst hp;rw[Ac rfl,Ac rfl,<- hG s q D];cases κ <;> cases G s <;> cases G q <;> rfl
  by_cases J:s=v
  .subst J;have i:=Y M;have n1:¬adj (row' s) p q:=λh=>bI0 Q hD3 M h
   rw[Ab hp,Ac rfl,Ab hp,Ab i.2.2.1,Ab n1];have e1:=fb' p q (E.mem_old hp i.2.2.1 i.1);rw[fk q p M,zz p q hp i.2.2.1]at e1;have l1:j p q=G q:=by simp only[j];rw[Ab n1,Ac M]
   rw[l1]at e1;have e2:=hG q p M;rw[<- e2];cases h1:f p q <;> cases N:F p q <;> cases h3:G q <;> cases h4:G p <;> cases h5:κ <;> simp[h1,N,h3,h5]at e1 ⊢
  by_cases U:q=v
  .subst U;have i:=Y t2;rw[Ab hp,Ab J,Ac t2,Ab hp,Ac rfl,Z.sym p q];cases κ <;> cases G p <;> cases F q p <;> rfl
  .have n1:¬adj (row' v) p s:=λh=>U (aM9 (E.nd' p) D (E.tri' _ _ _ h))
   have n2:¬adj (row' v) q p:=λh=>J (bP5 (E.nd' p) D (E.tri' _ _ _ (E.tri' _ _ _ h)))
   have o:adj (row p) s q:=by
    rcases (bR5 E p s q).mp D with⟨h1,_⟩ | h1
    .exact h1
    .unfold W' at h1;grind
   have e1:=fb p s q o
   rw[zz p q hp U]at e1;rw[Ab hp,Ab J,Ab n1,Ab hp,Ab U];by_cases n3:adj (row' v) p q
   .have l1:j p q=G p:=by simp only[j];rw[Ac n3]
    rw[Ac n3];rw[l1,fk p q n3]at e1;cases h1:f p s <;> cases N:F p q <;> cases h3:G p <;> cases h5:κ <;> simp[h1,N,h3,h5]at e1 ⊢
   .have l1:j p q=false:=by simp only[j];rw[Ab n3,Ab n2]
    rw[Ab n3,e1,l1];simp
end
theorem cK3 (R:Rws F G m):∀i,i<=m->H1 (gst F G i).row
 | 0,_=>cI9
 | i+1,hi=>by
  have I:=P2 R i (by lia)
  have f1:=R.f1 i (by lia)
  have f2:=R.f2 i (by lia)
  have z:=R.g1 i (by lia)
  have j:=R.g2 i (by lia)
  have h1:=I.p
  have Y:=I.h
  obtain⟨x,U,y,X,ex,w,E,_⟩:=bH4 I.inv (a:=F i-pv F i) (b:=G i-pv G i) (by lia) (by lia)
  exact dA0 E (cK3 R i (by lia))
theorem cB9 (w:Nat->Bool)(f:Nat->Nat):∀l:AC,par w (l.map f)=par (λa=>w (f a)) l
 | []=>rfl
 | a::l=>by simp[par,cB9 w f l]
theorem aU5 (h:l.Perm m):par w l=par w m:=by
 induction h with
 | nil=>rfl
 | cons a _ j=>simp[par,j]
 | swap a b l=>simp only[par];cases w a <;> cases w b <;> cases par w l <;> rfl
 | trans _ _ h1 z=>exact h1.trans z
theorem H1.named (G:Good n r)(F:Nm n f)(h:∀v,v<n->r' (f v)=T1 ((r v).map f))(B:∀q,n<=q->r' q=[])(H:H1 r):H1 r':=by
 intro z' Z;have G':=G.named F h B;have gi:∀q,∃v,q<n->v<n/\f v=q:=λq=>by
  by_cases j:q<n
  .obtain⟨v,h1,X⟩:=F.surj q j;exact⟨v,λ_=>⟨h1,X⟩⟩
  .exact⟨0,λz=>absurd z j⟩
 let g:Nat->Nat:=λq=>Classical.choose (gi q)
 have hg:∀q,q<n->g q<n/\f (g q)=q:=λq j=>Classical.choose_spec (gi q) j
 have M:∀v,v<n->g (f v)=v:=λv m=>F.inj _ _ (hg _ (F.lt v m)).1 m (hg _ (F.lt v m)).2
 have N:∀v,v<n->∀x,x∈r' (f v)↔∃a,a∈r v/\x=f a:=λv m x=>by
  rw[h v m,begun_mem,Aa8];exact⟨λ⟨a,h1,X⟩=>⟨a,h1,X.symm⟩,λ⟨a,h1,X⟩=>⟨a,h1,X.symm⟩⟩
 have Y:∀v,v<n->∀x y,adj (r' (f v)) x y↔∃a b,x=f a/\y=f b/\adj (r v) a b:=λv m x y=>by rw[h v m,bB7,bZ3]
 have Z0:Cyc r λp q=>if p<n/\q<n then z' (f p) (f q) else false:=by
  refine⟨λp q=>?_,λp q Q=>?_,λp=>?_⟩
  .by_cases h1:p<n <;> by_cases X:q<n <;> simp[h1,X,Z.sym (f p) (f q)]
  .by_cases h1:p<n/\q<n
   .rw[Ac h1]at Q;obtain⟨a,P,e⟩:=(N p h1.1 _).mp (Z.sup _ _ Q);rw[F.inj q a h1.2 (G.lt p a P) e];exact P
   .rw[Ab h1]at Q;cases Q
  .by_cases hp:p<n
   .have ev:=Z.ev (f p)
    rw[h p hp,aU5 (t9 _),cB9]at ev;rw[<- ev];exact aD0 λq j=>by simp[hp,G.lt p q j]
   .rw[G.hi p (by lia)];rfl
 obtain⟨f0,fr,fb⟩:=H _ Z0;refine⟨λp q=>f0 (g p) (g q),λq a b U=>?_,λp s q J=>?_⟩
 .have j:q<n:=by
   by_cases j:q<n
   .exact j
   .rw[B q (by lia)]at U;exact absurd (C6 U).1 (by simp)
  obtain⟨v,m,rfl⟩:=F.surj q j;obtain⟨c,d,rfl,rfl,w⟩:=(Y v m a b).mp U;have D:=G.lt v c (C6 w).1;have R:=G.lt v d (C6 w).2;dsimp only;rw[M v m,M c D,M d R];exact fr _ _ _ w
 .have j:p<n:=by
   by_cases j:p<n
   .exact j
   .rw[B p (by lia)]at J;exact absurd (C6 J).1 (by simp)
  obtain⟨v,m,rfl⟩:=F.surj p j;obtain⟨c,d,rfl,rfl,w⟩:=(Y v m s q).mp J;have D:=G.lt v c (C6 w).1;have R:=G.lt v d (C6 w).2;dsimp only;rw[M v m,M c D,M d R,fb _ _ _ w]
  simp[m,R]
theorem Bt.h1 {F G:Nat->Nat}{m:Nat}{f:Nat->Nat}{d t:AA}(B:Bt F G m f d t):H1 (trn d):=by
 refine H1.named (bQ2 B.R) B.N (λv z=>?_) (λq w=>?_) (cK3 B.R m (Aa7 _))
 .unfold trn;rw[B.dr v z];rfl
 .unfold trn;rw[Ad6 (by rw[B.dl];exact w)];rfl
theorem seg {f w:Nat->Bool}:∀(s:Nat) (l:AC) (b:Nat),(∀a q,lin (s::(l++[b])) a q->xor (f a) (f q)=w q)->xor (f s) (f b)=par w (l++[b])
 | s,[],b,h=>by
  have:=h s b (by simp[lin])
  simp[par,this]
 | s,c::l,b,h=>by
  have h1:=h s c (by rw[Ab6,C7];exact .inl ⟨rfl,rfl⟩)
  have z:=seg c l b λa q j=>h a q (by rw[Ab6,C7];exact .inr j)
  simp only[Ab6,par];rw[<- h1,<- z];cases f s <;> cases f c <;> cases f b <;> rfl
theorem aW7 (e:l=u++w)(h:adj (w++u) s q):adj l s q:=by
 rw[e];exact(p7 u w s q).mp h
section
variable {r:Nat->AC}{n:Nat}{rim:AC}{R:Nat->Prop}
def gi (rim:AC)(k:Nat):Nat:=rim.getD k 0
theorem aE6 {k:Nat}(h:k<rim.length):rim[k]? = some (gi rim k):=by
 unfold gi;rw[Ac0,Aa2 h];rfl
theorem cQ3 (h:k<rim.length):gi rim k∈rim:=Av (aE6 h)
theorem bU0 (nd:rim.Nodup)(w:j<rim.length)(z:k<rim.length)(e:gi rim j=gi rim k):j=k:=by
 have h1:=aE6 w
 have m:=aE6 z
 rw[<- e]at m;rw[Aa2 w]at h1;rw[Aa2 z]at m;have e':rim[j]=rim[k]:=by rw[Ab4 h1,Ab4 m]
 by_cases X:j<k
 .exact absurd e' (List.pairwise_iff_getElem.mp nd j k w z X)
 .by_cases Y:k<j
  .exact absurd e'.symm (List.pairwise_iff_getElem.mp nd k j z w Y)
  .lia
theorem aY7 (h:k+1<rim.length):adj rim (gi rim k) (gi rim (k+1)):=by
 refine adj_iff.mpr (.inl ⟨rim.take k,rim.drop (k+2),?_⟩);have h1:=aE6 (rim:=rim) (k:=k) (by lia)
 have w:=aE6 h
 rw[Aa2 (by lia)]at h1
 rw[Aa2 h]at w;rw[<- Ab4 h1,<- Ab4 w];rw[<- List.drop_eq_getElem_cons h,<- List.drop_eq_getElem_cons (show k<rim.length by lia),Ad3]
theorem bJ8 (h:0<rim.length):adj rim (gi rim (rim.length-1)) (gi rim 0):=by
 refine adj_iff.mpr (.inr ⟨rim.take (rim.length-1),?_,?_⟩)
 .have h1:=aE6 (rim:=rim) (k:=rim.length-1) (by lia)
  rw[Aa2 (by lia)]at h1
  rw[<- Ab4 h1]
  have:=Ad3 (rim.length-1) rim
  rw[Cd (by lia),List.drop_eq_nil_of_le (by lia)]at this
  exact this.symm
 .rw[List.head?_eq_getElem?];exact aE6 h
theorem aV5 {z f:Nat->Nat->Bool}(Y:∀p s q,adj (r p) s q->xor (f p s) (f p q)=z p q){p:Nat}(U:∀q,z p q=false){q q':Nat}(h:q∈r p)(h':q'∈r p):f p q=f p q':=by
 cases e:r p with
 | nil=>rw[e]at h;cases h
 | cons a l=>
  have w:=cK0 (g:=f p) a l λs t j=>by
   have:=Y p s t (by rw[e];unfold adj;rw[lin_iff]at j ⊢;obtain⟨x,y,e'⟩:=j;exact⟨x,y++List.take 1 (a::l),by rw[e'];simp⟩)
   rw[U t]at this;cases h1:f p s <;> cases X:f p t <;> simp[h1,X]at this ⊢
  have m:∀t∈r p,f p t=f p a:=λt ht=>by
   rw[e]at ht;rcases Aa1.mp ht with rfl | ht
   .rfl
   .exact w t ht
  rw[m q h,m q' h']
end
theorem N5 {L:AC}{q:Nat}(h:q∈L):gi L (L.idxOf q)=q:=by
 unfold gi;rw[Ac0,Aa2 (Ai.mpr h)]
 simp
theorem bF6 {L:AC}(nd:L.Nodup){k:Nat}(h:k<L.length):L.idxOf (gi L k)=k:=
 bU0 nd (Ai.mpr (cQ3 h)) h (N5 (cQ3 h))
theorem dJ2 {L:AC}{f:Nat->Bool}{u w:Nat}(nd:L.Nodup)(h:∀a b,adj L a b->xor (f a) (f b)=decide (b=u\/b=w))(Y:u∈L)(X:w∈L)(m:u≠w) :
  ∀k,k<L.length->(f (gi L k)=f (gi L 0)↔((0<L.idxOf w/\L.idxOf w<=k)↔(0<L.idxOf u/\L.idxOf u<=k)))
 | 0,hk=>by simp;lia
 | k+1,hk=>by
  have U:=dJ2 nd h Y X m k (by lia)
  have j:=h _ _ (aY7 hk)
  have M:gi L (k+1)=u↔L.idxOf u=k+1:=⟨λe=>by rw[<- e];exact bF6 nd hk,λe=>by rw[<- e];exact N5 Y⟩
  have N:gi L (k+1)=w↔L.idxOf w=k+1:=⟨λe=>by rw[<- e];exact bF6 nd hk,λe=>by rw[<- e];exact N5 X⟩
  have R:L.idxOf u≠L.idxOf w:=λe=>m (by rw[<- N5 Y,<- N5 X,e])
  by_cases h1:L.idxOf u=k+1
  .have j:xor (f (gi L k)) (f (gi L (k+1)))=true:=by rw[j];simp[M.mpr h1]
   have e:(f (gi L (k+1))=f (gi L 0))↔¬(f (gi L k)=f (gi L 0)):=by
    revert j;cases f (gi L k) <;> cases f (gi L (k+1)) <;> cases f (gi L 0) <;> simp
   rw[e,U];lia
  .by_cases J:L.idxOf w=k+1
   .have j:xor (f (gi L k)) (f (gi L (k+1)))=true:=by rw[j];simp[N.mpr J]
    have e:(f (gi L (k+1))=f (gi L 0))↔¬(f (gi L k)=f (gi L 0)):=by
     revert j;cases f (gi L k) <;> cases f (gi L (k+1)) <;> cases f (gi L 0) <;> simp
    rw[e,U];lia
   .have j:xor (f (gi L k)) (f (gi L (k+1)))=false:=by
     rw[j];rw[Cb];intro z;rcases z with z | z
     .exact h1 (M.mp z)
     .exact J (N.mp z)
    have e:f (gi L (k+1))=f (gi L k):=by
     revert j;cases f (gi L k) <;> cases f (gi L (k+1)) <;> simp
    rw[e,U];lia
theorem arc {L:AC}{f:Nat->Bool}{u w:Nat}(nd:L.Nodup)(h:∀a b,adj L a b->xor (f a) (f b)=decide (b=u\/b=w))(X:u∈L)(m:w∈L)(j:u≠w){q:Nat}(Y:q∈L) :
  (L.idxOf w<L.idxOf u->(f q=f w↔L.idxOf w<=L.idxOf q/\L.idxOf q<L.idxOf u))/\(L.idxOf u<L.idxOf w->(f q=f w↔¬(L.idxOf u<=L.idxOf q/\L.idxOf q<L.idxOf w))):=by
 have a:=dJ2 nd h X m j _ (Ai.mpr Y)
 have b:=dJ2 nd h X m j _ (Ai.mpr m)
 rw[N5 Y]at a;rw[N5 m]at b;have e:(f q=f w)↔((f q=f (gi L 0))↔(f w=f (gi L 0))):=by
  cases f q <;> cases f w <;> cases f (gi L 0) <;> simp
 rw[e,a,b];constructor <;> intro z <;> lia
structure Cy (r:Nat->AC)(g:Nat->Nat)(n:Nat):Prop where
 n2:2<=n
 inj:∀j k,j<=n->k<=n->g j=g k->j=k
 tie:∀k,k<n->g (k+1)∈r (g k)
 tie0:g 0∈r (g n)
def nz (g:Nat->Nat)(n k:Nat):Nat:=if k=n then g 0 else g (k+1)
def pz (g:Nat->Nat)(n k:Nat):Nat:=if k=0 then g n else g (k-1)
noncomputable def zc (g:Nat->Nat)(n x y:Nat):Bool:=decide (∃k,k<=n/\((x=g k/\y=nz g n k)\/(y=g k/\x=nz g n k)))
theorem dF5 (h:k<=n):∃k',k'<=n/\nz g n k=g k':=by
 unfold nz;by_cases e:k=n
 .rw[Ac e];exact⟨0,by lia,rfl⟩
 .rw[Ab e];exact⟨k+1,by lia,rfl⟩
theorem dO8 (h:k<=n):∃k',k'<=n/\pz g n k=g k':=by
 unfold pz;by_cases e:k=0
 .rw[Ac e];exact⟨n,by lia,rfl⟩
 .rw[Ab e];exact⟨k-1,by lia,rfl⟩
section
theorem Cy.at_ (C:Cy r g n){k y:Nat}(h:k<=n):zc g n (g k) y=true↔(y=pz g n k\/y=nz g n k):=by
 unfold zc;rw[decide_eq_true_iff];constructor
 .rintro⟨k',h',⟨e1,e2⟩ | ⟨e1,e2⟩⟩
  .have:=C.inj _ _ h h' e1
   subst this;exact .inr e2
  .left
   unfold nz at e2;unfold pz;by_cases z:k'=n
   .rw[Ac z]at e2
    have:=C.inj _ _ h (by lia) e2
    rw[Ac this,e1,z]
   .rw[Ab z]at e2
    have:=C.inj _ _ h (by lia) e2
    rw[Ab (by lia),e1,this];rfl
 .rintro (e | e)
  .unfold pz at e;by_cases z:k=0
   .rw[Ac z]at e;exact⟨n,by lia,.inr ⟨e,by unfold nz;rw[Ac rfl,z]⟩⟩
   .rw[Ab z]at e;exact⟨k-1,by lia,.inr ⟨e,by unfold nz;rw[Ab (by lia)];congr 1;lia⟩⟩
  .exact⟨k,h,.inl ⟨rfl,e⟩⟩
theorem aO9 (x y:Nat):zc g n x y=zc g n y x:=by
 unfold zc
 congr 1
 apply propext
 constructor <;> rintro⟨k,h,z⟩ <;> exact⟨k,h,z.symm⟩
theorem u6 (h:∀k,k<=n->x≠g k):zc g n x y=false:=by
 unfold zc;rw[Cb];rintro⟨k,w,⟨e,_⟩ | ⟨_,e⟩⟩
 .exact h k w e
 .obtain⟨j,z,e'⟩:=dF5 (g:=g) w;exact h j z (e.trans e')
theorem Cy.ne (C:Cy r g n){k:Nat}(h:k<=n):pz g n k≠nz g n k:=by
 have w:=C.n2
 unfold pz nz;intro e;by_cases a:k=0 <;> by_cases b:k=n
 .lia
 .rw[Ac a,Ab b]at e
  have:=C.inj _ _ (by lia) (by lia) e;lia
 .rw[Ab a,Ac b]at e
  have:=C.inj _ _ (by lia) (by lia) e;lia
 .rw[Ab a,Ab b]at e
  have:=C.inj _ _ (by lia) (by lia) e;lia
structure Rs (r:Nat->AC):Prop where
 nd:∀q,(r q).Nodup
 self:∀q,q∉r q
 tri:∀q a b,adj (r q) a b->adj (r a) b q
 sym:∀p q,q∈r p->p∈r q
 h1:H1 r
theorem Cy.nz_mem (S:Rs r)(C:Cy r g n){k:Nat}(h:k<=n):nz g n k∈r (g k):=by
 unfold nz;by_cases e:k=n
 .rw[Ac e,e];exact C.tie0
 .rw[Ab e];exact C.tie k (by lia)
theorem Cy.pz_mem (S:Rs r)(C:Cy r g n){k:Nat}(h:k<=n):pz g n k∈r (g k):=by
 unfold pz;by_cases e:k=0
 .rw[Ac e,e];exact S.sym _ _ C.tie0
 .rw[Ab e]
  have:=C.tie (k-1) (by lia)
  rw[show k-1+1=k by lia]at this
  exact S.sym _ _ this
theorem Cy.cyc (S:Rs r)(C:Cy r g n):Cyc r (zc g n):=by
 refine⟨aO9,λp q h=>?_,λp=>?_⟩
 .by_cases hp:∃k,k<=n/\p=g k
  .obtain⟨k,w,rfl⟩:=hp;rcases (C.at_ w).mp h with e | e
   .rw[e];exact C.pz_mem S w
   .rw[e];exact C.nz_mem S w
  .rw[u6 λk w e=>hp ⟨k,w,e⟩]at h;cases h
 .by_cases hp:∃k,k<=n/\p=g k
  .obtain⟨k,w,rfl⟩:=hp;rw[bH1 (C.ne w) (S.nd _) (C.pz_mem S w) (C.nz_mem S w) λa _ h1 j=>by
    rw[Bool.eq_false_iff];intro z;rcases (C.at_ w).mp z with e | e;exact h1 e;exact j e]
   rw[(C.at_ w).mpr (.inl rfl),(C.at_ w).mpr (.inr rfl)];rfl
  .exact aB2 λa _=>u6 λk w e=>hp ⟨k,w,e⟩
theorem aT7 {l:AC}{y:Nat}(h:y∈l):∃q,adj l y q:=by
 obtain⟨p,s,e⟩:=Ad5 h;cases s with
 | cons q s=>exact⟨q,adj_iff.mpr (.inl ⟨p,s,e⟩)⟩
 | nil=>
  cases w:l.head? with
  | none=>rw[List.head?_eq_none_iff]at w;rw[w]at h;cases h
  | some q=>exact⟨q,adj_iff.mpr (.inr ⟨p,e,w⟩)⟩
structure Sd (r:Nat->AC)(g:Nat->Nat)(n:Nat)(f:Nat->Nat->Bool)(s:Bool):Prop where
 fa:∀q a b,adj (r q) a b->f q a=f a b
 fb:∀p s q,adj (r p) s q->xor (f p s) (f p q)=zc g n p q
 fs:∀k,k<=n->f (g k) (nz g n k)=s
theorem cP3 {z f:Nat->Nat->Bool}(S:Rs r)(j:∀q a b,adj (r q) a b->f q a=f a b)(m:∀p s q,adj (r p) s q->xor (f p s) (f p q)=z p q){x y:Nat}(h:y∈r x)(Y:z y x=false):f x y=f y x:=by
 obtain⟨q,w⟩:=aT7 h;have e1:=j _ _ _ w;have e2:=m _ _ _ (S.tri _ _ _ w);rw[Y]at e2;rw[e1]
 revert e2
 cases f y q <;> cases f y x <;> simp
theorem Cy.arc (S:Rs r)(C:Cy r g n){f:Nat->Nat->Bool}(m:∀p s q,adj (r p) s q->xor (f p s) (f p q)=zc g n p q){k:Nat}(z:k<=n){u w L:AC}(e1:r (g k)=u++w)(e2:w++u=L){q:Nat}(Y:q∈L) :
  (L.idxOf (nz g n k)<L.idxOf (pz g n k)->(f (g k) q=f (g k) (nz g n k)↔L.idxOf (nz g n k)<=L.idxOf q/\L.idxOf q<L.idxOf (pz g n k)))/\(L.idxOf (pz g n k)<L.idxOf (nz g n k)->(f (g k) q=f (g k) (nz g n k)↔¬(L.idxOf (pz g n k)<=L.idxOf q/\L.idxOf q<L.idxOf (nz g n k)))):=by
 have mem:∀x,x∈r (g k)->x∈L:=λx j=>by rw[<- e2,Aa0];rw[e1,Aa0]at j;exact j.symm
 have nd:L.Nodup:=by
  have:=S.nd (g k)
  rw[e1]at this;rw[<- e2];exact(Cw.nodup_iff).mp this
 refine TT.arc (f:=f (g k)) nd (λa b h=>?_) (mem _ (C.pz_mem S z)) (mem _ (C.nz_mem S z)) (C.ne z) Y
 rw[m _ _ _ (aW7 e1 (by rw[e2];exact h)),Ck,C.at_ z]
 simp
theorem Cy.sd (S:Rs r)(C:Cy r g n):∃f s,Sd r g n f s:=by
 obtain⟨f,X,j⟩:=S.h1 _ (C.cyc S);refine⟨f,f (g 0) (nz g n 0),X,j,?_⟩;intro k;induction k with
 | zero=>intro _;rfl
 | succ k Y=>
  intro w;have Y:=Y (by lia)
  rw[<- Y];have e:nz g n k=g (k+1):=by unfold nz;rw[Ab (by lia)]
  have e':pz g n (k+1)=g k:=by unfold pz;rw[Ab (by lia)];rfl
  rw[e];obtain⟨q,J⟩:=aT7 (C.tie k (by lia))
  rw[X _ _ _ J];have U:=j _ _ _ (S.tri _ _ _ J);rw[(C.at_ w).mpr (.inl e'.symm)]at U;have m:=C.arc S j w (u:=[]) rfl rfl (q:=g k) (by simpa using S.sym _ _ (C.tie k (by lia)))
  rw[e']at m;have N:(r (g (k+1))++[]).idxOf (nz g n (k+1))≠(r (g (k+1))++[]).idxOf (g k):=λz=>C.ne w (by
   rw[<- N5 (L:=r (g (k+1))++[]) (q:=nz g n (k+1)) (by simpa using C.nz_mem S w),z,N5 (by simpa[e']using C.pz_mem S w),e'])
  have M:f (g (k+1)) (g k)≠f (g (k+1)) (nz g n (k+1)):=by
   intro z;rcases Nat.lt_or_gt_of_ne N with l | l
   .have:=(m.1 l).mp z;lia
   .have:=(m.2 l).mp z;lia
  revert U M
  cases f (g (k+1)) q <;> cases f (g (k+1)) (g k) <;> cases f (g (k+1)) (nz g n (k+1)) <;> simp
end
structure Cl3 (T:Nat->Nat->Nat->Prop):Prop where
 rot:∀{i j k},T i j k->T j k i
 lt:∀{i j k},T i j k->i<3/\j<3/\k<3/\i≠j/\j≠k/\i≠k
 ex:∀i,i<3->∃j k,T i j k
 un:∀{i j k j' k'},T i j k->T i j' k'->j=j'/\k=k'
theorem dX0:∀i j k m:_root_.Fin 3,i≠j->j≠k->i≠k->m=i\/m=j\/m=k:=by decide
theorem Cl3.or (cl:Cl3 T)(t:T i j k)(Y:m<3):m=i\/m=j\/m=k:=by
 obtain⟨h1,w,z,X,U,J⟩:=cl.lt t
 have:=dX0 ⟨i,h1⟩ ⟨j,w⟩ ⟨k,z⟩ ⟨m,Y⟩ (λe=>X (congrArg _root_.Fin.val e)) (λe=>U (congrArg _root_.Fin.val e)) (λe=>J (congrArg _root_.Fin.val e))
 exact this.imp (congrArg _root_.Fin.val) (Or.imp (congrArg _root_.Fin.val) (congrArg _root_.Fin.val))
def Rot (l L:AC):Prop:=∃u w,l=u++w/\w++u=L
theorem Rot.trans (h:Rot l L)(h':Rot L M):Rot l M:=by
 obtain⟨u,w,rfl,rfl⟩:=h;obtain⟨z,j,e,rfl⟩:=h';rcases List.append_eq_append_iff.mp e with⟨x,e1,e2⟩ | ⟨x,e1,e2⟩
 .subst e1 e2;exact⟨x,j++w,by simp,by simp⟩
 .subst e1 e2;exact⟨u++z,x,by simp,by simp⟩
theorem Rot.mem (h:Rot l L):x∈L↔x∈l:=by
 obtain⟨u,w,rfl,rfl⟩:=h
 simp[or_comm]
theorem Rot.nd (h:Rot l L)(n:l.Nodup):L.Nodup:=by
 obtain⟨u,w,rfl,rfl⟩:=h;exact(Cw.nodup_iff).mp n
theorem Rot.at_ (L:AC)(k:Nat):Rot L (L.drop k++L.take k):=⟨L.take k,L.drop k,by simp,rfl⟩
theorem cD1 {L:AC}(nd:L.Nodup){k:Nat}(U:k<L.length){x:Nat}(m:x∈L) :
  (k<=L.idxOf x->(L.drop k++L.take k).idxOf x+k=L.idxOf x)/\(L.idxOf x<k->(L.drop k++L.take k).idxOf x+k=L.idxOf x+L.length):=by
 have nd':(L.drop k++L.take k).Nodup:=(Rot.at_ L k).nd nd
 have Y:=Ai.mpr m
 have z:∀j,j<L.length->(L.drop k++L.take k)[j]? = some x->(L.drop k++L.take k).idxOf x=j:=λj X h=>by
  have e:gi (L.drop k++L.take k) j=x:=by unfold gi;rw[Ac0,h];rfl
  rw[<- e];exact bF6 nd' (by simp;lia)
 have w:L[L.idxOf x]? = some x:=by rw[aE6 Y,N5 m]
 constructor
 .intro h
  have:=z (L.idxOf x-k) (by lia) (by
   rw[Bk (by simp;lia),List.getElem?_drop,show k+(L.idxOf x-k)=L.idxOf x by lia];exact w)
  lia
 .intro h
  have:=z (L.length-k+L.idxOf x) (by lia) (by
   rw[Br (by simp),Bs,show L.length-k+L.idxOf x-(L.length-k)=L.idxOf x by lia,Dz,Ac h];exact w)
  lia
structure Sec (n:Nat)(l:AC)(o:Nat->Nat->Nat)(p i j k:Nat)(L:AC):Prop where
 rot:Rot l L
 p0:L.idxOf (o i p)=0
 p1:0<L.idxOf (o j p)
 p2:L.idxOf (o j p)<L.idxOf (o k p)
 p3:L.idxOf (o k p)<L.length
 q0:∀x,3<=x->x<n->o i x=p->L.idxOf (o j p)<L.idxOf x/\L.idxOf x<L.idxOf (o k p)
 q1:∀x,3<=x->x<n->o j x=p->L.idxOf (o k p)<L.idxOf x/\L.idxOf x<L.length
 q2:∀x,3<=x->x<n->o k x=p->0<L.idxOf x/\L.idxOf x<L.idxOf (o j p)
 al:∀x∈L,(o i p=x\/o j p=x\/o k p=x)\/(3<=x/\x<n/\(o i x=p\/o j x=p\/o k x=p))
theorem Sec.m0 (S:Sec n l o p i j k L):o i p∈L:=Ai.mp (by have:=S.p0;have:=S.p1;have:=S.p2;have:=S.p3;lia)
theorem Sec.m1 (S:Sec n l o p i j k L):o j p∈L:=Ai.mp (by have:=S.p0;have:=S.p1;have:=S.p2;have:=S.p3;lia)
theorem Sec.m2 (S:Sec n l o p i j k L):o k p∈L:=Ai.mp (by have:=S.p0;have:=S.p1;have:=S.p2;have:=S.p3;lia)
theorem Sec.turn (nd:l.Nodup)(S:Sec n l o p i j k L):∃L',Sec n l o p j k i L':=by
 have R:=S.p0;have Q:=S.p1;have D:=S.p2;have F:=S.p3
 have Y:=S.rot.nd nd
 have U:L.idxOf (o j p)<L.length:=by lia
 have len:(L.drop (L.idxOf (o j p))++L.take (L.idxOf (o j p))).length=L.length:=by simp;lia
 have I:=λ{x:Nat} (w:x∈L)=>cD1 Y U w
 have J:=I S.m0
 have M:=I S.m1
 have N:=I S.m2
 have m:∀{x:Nat},L.idxOf x<L.length->x∈L:=λh=>Ai.mp h
 refine⟨L.drop (L.idxOf (o j p))++L.take (L.idxOf (o j p)),S.rot.trans (Rot.at_ _ _),?_,?_,?_,?_,λx z w e=>?_,λx z w e=>?_,λx z w e=>?_,λx w=>?_⟩
 .lia
 .lia
 .lia
 .rw[len];lia
 .obtain⟨a,b⟩:=S.q1 x z w e;have X:=I (m (by lia:L.idxOf x<L.length))
  lia
 .obtain⟨a,b⟩:=S.q2 x z w e;have X:=I (m (by lia:L.idxOf x<L.length))
  rw[len]
  lia
 .obtain⟨a,b⟩:=S.q0 x z w e;have X:=I (m (by lia:L.idxOf x<L.length))
  lia
 .have:=S.al x ((Rot.at_ L _).mem.mp w)
  grind
inductive Sk (o:Nat->Nat)(e n:Nat):Nat->Nat->Prop
 | zero {q:Nat}:q=e->Sk o e n q 0
 | succ {q k:Nat}:3<=q->q<n->Sk o e n (o q) k->Sk o e n q (k+1)
structure Sw (n:Nat)(r:Nat->AC)(T:Nat->Nat->Nat->Prop)(o:Nat->Nat->Nat):Prop where
 cl:Cl3 T
 rs:Rs r
 ec:∀j k,j<3->k<3->j≠k->k∈r j
 lt:∀q p,p∈r q->p<n
 sec1:∀p,3<=p->p<n->∃i j k,T i j k/\∃L,Sec n (r p) o p i j k L
 st:∀j p,j<3->3<=p->p<n->∃k,Sk (o j) j n p k
section
theorem Sw.sec (W:Sw n r T o)(X:3<=p)(hp:p<n)(h:T i j k):∃L,Sec n (r p) o p i j k L:=by
 obtain⟨U,J,M,w,L,S⟩:=W.sec1 p X hp;obtain⟨m,z⟩:=S.turn (W.rs.nd _);obtain⟨L2,Y⟩:=z.turn (W.rs.nd _);have a:=W.cl.lt h;rcases W.cl.or w a.1 with e | e | e
 .subst e;obtain⟨rfl,rfl⟩:=W.cl.un h w;exact⟨L,S⟩
 .subst e;obtain⟨rfl,rfl⟩:=W.cl.un h (W.cl.rot w);exact⟨m,z⟩
 .subst e;obtain⟨rfl,rfl⟩:=W.cl.un h (W.cl.rot (W.cl.rot w));exact⟨L2,Y⟩
theorem Sw.om (W:Sw n r T o)(w:3<=p)(hp:p<n)(h:i<3):o i p∈r p:=by
 obtain⟨j,k,t⟩:=W.cl.ex i h;obtain⟨L,S⟩:=W.sec w hp t;exact S.rot.mem.mp S.m0
variable {g:Nat->Nat}{N:Nat}{f:Nat->Nat->Bool}{s:Bool}
theorem Sw.corners (W:Sw n r T o)(inn:∀k,k<=N->3<=g k/\g k<n)(D:Sd r g N f s)(m:j<3)(U:y∈r j):f j y=f 0 1:=by
 have Y:∀j,j<3->∀k,k<=N->j≠g k:=λj m k M e=>by have:=(inn k M).1;lia
 have w:∀j,j<3->∀y X,y∈r j->X∈r j->f j y=f j X:=λj m y X h J=>aV5 D.fb (λq=>u6 (Y j m)) h J
 by_cases e:j=0
 .subst e;exact w 0 (by lia) _ _ U (W.ec 0 1 (by lia) (by lia) (by lia))
 .rw[w j m _ _ U (W.ec j 0 m (by lia) e),cP3 W.rs D.fa D.fb (W.ec j 0 m (by lia) e) (u6 (Y 0 (by lia)))]
  exact w 0 (by lia) _ _ (W.ec 0 j (by lia) m (λz=>e z.symm)) (W.ec 0 1 (by lia) (by lia) (by lia))
theorem Sw.princ (W:Sw n r T o)(inn:∀k,k<=N->3<=g k/\g k<n)(C:Cy r g N)(D:Sd r g N f s)(R:j<3) :
  ∃k,k<=N/\o j (g k)≠pz g N k/\o j (g k)≠nz g N k/\f (g k) (o j (g k))=f 0 1:=by
 have U:∀x k,Sk (o j) j n x k->(∃k,k<=N/\o j (g k)≠pz g N k/\o j (g k)≠nz g N k/\f (g k) (o j (g k))=f 0 1)\/((∀k,k<=N->x≠g k)/\∀y,y∈r x->f x y=f 0 1):=by
  intro x k h;induction h with
  | @zero x e=>
   subst e;exact .inr ⟨λk X z=>by have:=(inn k X).1;lia,λy F=>W.corners inn D R F⟩
  | @succ x k h3 hx _ B=>
   rcases B with B | ⟨w,J⟩
   .exact .inl B
   .have Q:=W.om h3 hx R
    have he:f x (o j x)=f 0 1:=by rw[cP3 W.rs D.fa D.fb Q (u6 w)];exact J _ (W.rs.sym _ _ Q)
    by_cases hc:∃k,k<=N/\x=g k
    .obtain⟨k',Y,rfl⟩:=hc;refine .inl ⟨k',Y,λz=>?_,λz=>?_,he⟩
     .obtain⟨P,M,e2⟩:=dO8 (g:=g) Y;exact w P M (z.trans e2)
     .obtain⟨P,M,e2⟩:=dF5 (g:=g) Y;exact w P M (z.trans e2)
    .have m:∀k,k<=N->x≠g k:=λk X e=>hc ⟨k,X,e⟩
     exact .inr ⟨m,λy F=>by rw[aV5 D.fb (λq=>u6 m) F Q];exact he⟩
 obtain⟨k,X⟩:=W.st j (g 0) R (inn 0 (by lia)).1 (inn 0 (by lia)).2
 rcases U _ _ X with h | ⟨w,_⟩
 .exact h
 .exact absurd rfl (w 0 (by lia))
def it (o:Nat->Nat):Nat->Nat->Nat
 | 0,q=>q
 | k+1,q=>o (it o k q)
theorem Sk.at_ (h:Sk o e n q K):∀m,m<=K->Sk o e n (it o m q) (K-m)
 | 0,_=>h
 | m+1,hm=>by
  have:=h.at_ m (by lia)
  rw[show K-m=K-(m+1)+1 by lia]at this
  cases this with
  | succ _ _ s=>exact s
theorem Sk.un (m:e<3)(h:Sk o e n q K):∀{K'},Sk o e n q K'->K=K':=by
 induction h with
 | zero e=>intro K' w;cases w with
  | zero _=>rfl
  | succ z _ _=>lia
 | succ z _ _ j=>intro K' w;cases w with
  | zero _=>lia
  | succ _ _ s=>rw[j s]
theorem Sk.inn (h:Sk o e n q K)(w:0<K):3<=q/\q<n:=by
 cases h with
 | zero _=>lia
 | succ a b _=>exact⟨a,b⟩
theorem Sw.path (W:Sw n r T o)(hi:i<3)(j:3<=c)(m:c<n)(U:3<=it (o i) N c)(X:2<=N)(z:c∈r (it (o i) N c))(hN:∀K,Sk (o i) i n c K->N<=K) :
  (∀k,k<=N->3<=it (o i) k c/\it (o i) k c<n)/\Cy r (λk=>it (o i) k c) N:=by
 obtain⟨K,w⟩:=W.st i c hi j m;have h1:=hN K w;have J:N<K:=by
  rcases Ct N K with h | h
  .exact h
  .have:=w.at_ N h1
   rw[show K-N=0 by lia]at this
   cases this with
   | zero e=>lia
 have inn:∀k,k<=N->3<=it (o i) k c/\it (o i) k c<n:=λk Y=>(w.at_ k (by lia)).inn (by lia)
 refine⟨inn,X,λa b M R e=>?_,λk Y=>?_,z⟩
 .have A:=w.at_ a (by lia)
  have B:=w.at_ b (by lia)
  rw[<- e]at B
  have:=A.un hi B
  lia
 .exact W.om (inn k (by lia)).1 (inn k (by lia)).2 hi
theorem Sw.no1 (W:Sw n r T o)(t:T i j k)(M:3<=c)(Q:c<n)(a3:3<=it (o i) N c)(e:it (o i) N c=o k c)(hN:∀K,Sk (o i) i n c K->N<=K):False:=by
 obtain⟨li,lj,lk,_⟩:=W.cl.lt t;obtain⟨Lc,F⟩:=W.sec M Q t;have Y:=W.om M Q lk;have n2:2<=N:=by
  rcases (show N=0\/N=1\/2<=N by lia) with h | h | h
  .subst h;have e:c=o k c:=e;rw[<- e]at Y;exact absurd Y (W.rs.self c)
  .subst h;have e:o i c=o k c:=e
   have:=F.p0;have:=F.p1;have:=F.p2;rw[e]at *;lia
  .exact h
 obtain⟨inn,C⟩:=W.path li M Q a3 n2 (by rw[e];exact W.rs.sym _ _ Y) hN
 obtain⟨f,s,D⟩:=C.sd W.rs;have e1:f 0 1=s:=by
  obtain⟨m,Y,z1,z2,B⟩:=W.princ inn C D lj;rw[<- B];obtain⟨L,S⟩:=W.sec (inn m Y).1 (inn m Y).2 t;have ⟨u,w,P,J⟩:=S.rot;have A:=C.arc W.rs D.fb Y P J S.m1;rw[D.fs m Y]at A;have p0:=S.p0;have p1:=S.p1;have p2:=S.p2;have p3:=S.p3;by_cases R:m=0
  .subst R;have X:nz (λk=>it (o i) k c) N 0=o i (it (o i) 0 c):=by unfold nz;rw[Ab (by lia)];rfl
   have U:pz (λk=>it (o i) k c) N 0=o k (it (o i) 0 c):=by unfold pz;rw[Ac rfl];exact e
   rw[X,U]at A;exact(A.1 (by lia)).mpr (by lia)
  .have U:pz (λk=>it (o i) k c) N m=it (o i) (m-1) c:=by unfold pz;rw[Ab R]
   have q:=S.q0 (it (o i) (m-1) c) (inn _ (by lia)).1 (inn _ (by lia)).2 (by show it (o i) (m-1+1) c=_;rw[show m-1+1=m by lia])
   by_cases h1:m=N
   .have X:nz (λk=>it (o i) k c) N m=c:=by unfold nz;rw[Ac h1];rfl
    have q':=S.q2 c M Q (by rw[h1];exact e.symm)
    rw[X,U]at A;exact(A.1 (by lia)).mpr (by lia)
   .have X:nz (λk=>it (o i) k c) N m=o i (it (o i) m c):=by unfold nz;rw[Ab h1];rfl
    rw[X,U]at A;exact(A.1 (by lia)).mpr (by lia)
 have e2:f 0 1≠s:=by
  obtain⟨m,Y,z1,z2,B⟩:=W.princ inn C D lk;rw[<- B];obtain⟨L,S⟩:=W.sec (inn m Y).1 (inn m Y).2 t;have ⟨u,w,P,J⟩:=S.rot;have A:=C.arc W.rs D.fb Y P J S.m2;rw[D.fs m Y]at A;have p0:=S.p0;have p1:=S.p1;have p2:=S.p2;have p3:=S.p3;by_cases R:m=0
  .subst R;have U:pz (λk=>it (o i) k c) N 0=o k (it (o i) 0 c):=by unfold pz;rw[Ac rfl];exact e
   exact absurd U.symm z1
  .have U:pz (λk=>it (o i) k c) N m=it (o i) (m-1) c:=by unfold pz;rw[Ab R]
   have q:=S.q0 (it (o i) (m-1) c) (inn _ (by lia)).1 (inn _ (by lia)).2 (by show it (o i) (m-1+1) c=_;rw[show m-1+1=m by lia])
   by_cases h1:m=N
   .have X:nz (λk=>it (o i) k c) N m=c:=by unfold nz;rw[Ac h1];rfl
    have q':=S.q2 c M Q (by rw[h1];exact e.symm)
    rw[X,U]at A;intro z
    have:=(A.1 (by lia)).mp z
    lia
   .have X:nz (λk=>it (o i) k c) N m=o i (it (o i) m c):=by unfold nz;rw[Ab h1];rfl
    rw[X,U]at A;intro z
    have:=(A.1 (by lia)).mp z
    lia
 exact e2 e1
theorem Sw.no2 (W:Sw n r T o)(t:T i j k)(c3:3<=c)(hc:c<n)(Q:3<=it (o i) N c)(n2:2<=N)(e:o k (it (o i) N c)=c)(hN:∀K,Sk (o i) i n c K->N<=K):False:=by
 obtain⟨P,lj,lk,_⟩:=W.cl.lt t;have M:it (o i) N c<n:=by
  obtain⟨K,hK⟩:=W.st i c P c3 hc;have h:=hN K hK;have F:=hK.at_ N h;rcases Ct N K with h' | h'
  .exact(F.inn (by lia)).2
  .rw[show K-N=0 by lia]at F
   cases F with
   | zero z=>lia
 obtain⟨inn,C⟩:=W.path P c3 hc Q n2 (by have:=W.om Q M lk;rw[e]at this;exact this) hN
 obtain⟨f,s,D⟩:=C.sd W.rs;have e1:f 0 1=s:=by
  obtain⟨m,Y,z1,z2,B⟩:=W.princ inn C D P;rw[<- B];obtain⟨L,S⟩:=W.sec (inn m Y).1 (inn m Y).2 t;have ⟨u,w,ru,U⟩:=S.rot;have A:=C.arc W.rs D.fb Y ru U S.m0;rw[D.fs m Y]at A;have p0:=S.p0;have p1:=S.p1;have p2:=S.p2;have p3:=S.p3;by_cases h1:m=N
  .have R:m≠0:=by lia
   have J:pz (λk=>it (o i) k c) N m=it (o i) (m-1) c:=by unfold pz;rw[Ab R]
   have q:=S.q0 (it (o i) (m-1) c) (inn _ (by lia)).1 (inn _ (by lia)).2 (by show it (o i) (m-1+1) c=_;rw[show m-1+1=m by lia])
   have X:nz (λk=>it (o i) k c) N m=o k (it (o i) m c):=by unfold nz;rw[Ac h1,h1];exact e.symm
   rw[X,J]at A;exact(A.2 (by lia)).mpr (by lia)
  .have X:nz (λk=>it (o i) k c) N m=o i (it (o i) m c):=by unfold nz;rw[Ab h1];rfl
   exact absurd X.symm z2
 have e2:f 0 1≠s:=by
  obtain⟨m,Y,z1,z2,B⟩:=W.princ inn C D lk;rw[<- B];obtain⟨L,S⟩:=W.sec (inn m Y).1 (inn m Y).2 t;have ⟨u,w,ru,U⟩:=S.rot;have A:=C.arc W.rs D.fb Y ru U S.m2;rw[D.fs m Y]at A;have p0:=S.p0;have p1:=S.p1;have p2:=S.p2;have p3:=S.p3;by_cases h1:m=N
  .have X:nz (λk=>it (o i) k c) N m=o k (it (o i) m c):=by unfold nz;rw[Ac h1,h1];exact e.symm
   exact absurd X.symm z2
  .have X:nz (λk=>it (o i) k c) N m=o i (it (o i) m c):=by unfold nz;rw[Ab h1];rfl
   by_cases R:m=0
   .subst R;have J:pz (λk=>it (o i) k c) N 0=it (o i) N c:=by unfold pz;rw[Ac rfl]
    have q':=S.q2 (it (o i) N c) Q M e
    rw[X,J]at A;intro z
    have:=(A.1 (by lia)).mp z
    lia
   .have J:pz (λk=>it (o i) k c) N m=it (o i) (m-1) c:=by unfold pz;rw[Ab R]
    have q:=S.q0 (it (o i) (m-1) c) (inn _ (by lia)).1 (inn _ (by lia)).2 (by show it (o i) (m-1+1) c=_;rw[show m-1+1=m by lia])
    rw[X,J]at A;intro z
    have:=(A.1 (by lia)).mp z
    lia
 exact e2 e1
end
theorem aI3 (h:adj l.reverse a b):adj l b a:=by
 rcases adj_iff.mp h with⟨p,s,e⟩ | ⟨p,e,w⟩
 .have e:=congrArg List.reverse e
  simp at e
  exact adj_iff.mpr (.inl ⟨s.reverse,p.reverse,by rw[e]⟩)
 .have e':=congrArg List.reverse e
  simp at e'
  refine adj_iff.mpr (.inr ?_);rw[e]at w;cases p with
  | nil=>simp at w;subst w;exact⟨[],by rw[e'];rfl,by rw[e'];rfl⟩
  | cons x p=>
   simp at w;subst w
   exact⟨a::p.reverse,by rw[e'];simp,by rw[e'];rfl⟩
theorem cL6 {l:AC}(h:l.Nodup):l.reverse.Nodup:=((List.reverse_perm l).nodup_iff).mpr h
theorem cY4 {h:Nat}{tl:AC}(nd:(h::tl).Nodup){x:Nat}(z:x∈tl):(h::tl.reverse).idxOf x+(h::tl).idxOf x=(h::tl).length/\0<(h::tl).idxOf x/\0<(h::tl.reverse).idxOf x:=by
 have nd2:(h::tl.reverse).Nodup:=by rw[Aa5]at nd ⊢;exact⟨by simpa using nd.1,cL6 nd.2⟩
 have w:x≠h:=λe=>(Aa5.mp nd).1 (e▸z)
 have e1:(h::tl).idxOf x=tl.idxOf x+1:=by rw[List.idxOf_cons,beq_false_of_ne (Ne.symm w)];rfl
 have j:=Ai.mpr z
 have e2:(h::tl.reverse).idxOf x=tl.length-tl.idxOf x:=by
  have e:gi (h::tl.reverse) (tl.length-tl.idxOf x)=x:=by
   unfold gi;rw[Ac0,show tl.length-tl.idxOf x=(tl.length-1-tl.idxOf x)+1 by lia,List.getElem?_cons_succ,List.getElem?_reverse (by lia),show tl.length-1-(tl.length-1-tl.idxOf x)=tl.idxOf x by lia]
   rw[aE6 j,N5 z];rfl
  have:=bF6 nd2 (k:=tl.length-tl.idxOf x) (by simp;lia)
  rw[e]at this;exact this
 rw[e1,e2,Ay]
 lia
section
theorem H1.mir (S:Rs r):H1 (λq=>(r q).reverse):=by
 intro z Z;have N:∀p,par (z p) (r p)=false:=λp=>by rw[aU5 (List.reverse_perm (r p)).symm];exact Z.ev p
 obtain⟨f,j,w⟩:=S.h1 z ⟨Z.sym,λp q h=>by simpa using Z.sup p q h,N⟩
 refine⟨λp q=>xor (f p q) (z p q),λq a b h=>?_,λp s q h=>?_⟩
 .have h:=aI3 h
  have m:=S.tri _ _ _ h
  have M:=S.tri _ _ _ m
  have Y:=j _ _ _ h
  have X:=j _ _ _ m
  have U:=w _ _ _ h
  have J:=w _ _ _ M
  dsimp only
  rw[<- U,<- J,Y,X];cases f q a <;> cases f a b <;> cases f a q <;> rfl
 .have h:=aI3 h
  have b:=w _ _ _ h
  dsimp only
  rw[<- b];cases f p s <;> cases f p q <;> cases z p q <;> rfl
theorem Rs.mir (S:Rs r):Rs (λq=>(r q).reverse):=by
 refine⟨λq=>cL6 (S.nd q),λq=>by simpa using S.self q,λq a b h=>?_,λp q h=>?_,H1.mir S⟩
 .have h:=S.tri _ _ _ (S.tri _ _ _ (aI3 h))
  refine aI3 ?_;simpa using h
 .simpa using S.sym p q (by simpa using h)
theorem Sec.mir (nd:l.Nodup)(S:Sec n l o p i j k L):∃L',Sec n l.reverse o p i k j L':=by
 have N:=S.p0;have R:=S.p1;have F:=S.p2;have X:=S.p3
 have Y:=S.rot.nd nd
 cases L with
 | nil=>simp at X
 | cons h tl=>
  have U:o i p=h:=by
   have:=N5 S.m0
   rw[N]at this;simpa[gi]using this.symm
  have I:∀{x:Nat},0<(h::tl).idxOf x->(h::tl).idxOf x<(h::tl).length->(h::tl.reverse).idxOf x+(h::tl).idxOf x=(h::tl).length/\0<(h::tl.reverse).idxOf x:=λ{x} h1 J=>by
   have M:=Ai.mp J
   have z:x∈tl:=by
    rcases Aa1.mp M with e | e
    .rw[e]at h1;simp at h1
    .exact e
   have:=cY4 Y z
   exact⟨this.1,this.2.2⟩
  have len:(h::tl.reverse).length=(h::tl).length:=by simp
  have Q:=I R (by lia)
  have D:=I (by lia) X
  refine⟨h::tl.reverse,?_,by rw[U];simp,by lia,by lia,by lia,λx m z e=>?_,λx m z e=>?_,λx m z e=>?_,λx z=>?_⟩
  .have h1:Rot l.reverse (tl.reverse++[h]):=by
    obtain⟨u,w,e1,e2⟩:=S.rot;refine⟨w.reverse,u.reverse,by rw[e1];simp,?_⟩
    rw[<- List.reverse_append,e2];simp
   exact h1.trans ⟨tl.reverse,[h],rfl,rfl⟩
  .obtain⟨a,b⟩:=S.q0 x m z e
   have:=I (x:=x) (by lia) (by lia)
   lia
  .obtain⟨a,b⟩:=S.q2 x m z e
   have:=I (x:=x) (by lia) (by lia)
   rw[len];lia
  .obtain⟨a,b⟩:=S.q1 x m z e
   have:=I (x:=x) (by lia) (by lia)
   lia
  .have:=S.al x (by simpa using z)
   grind
theorem Sw.mir (W:Sw n r T o):Sw n (λq=>(r q).reverse) (λi j k=>T i k j) o:=by
 refine⟨⟨λh=>W.cl.rot (W.cl.rot h),λh=>?_,λi h=>?_,λh z=>(W.cl.un h z).symm⟩,W.rs.mir,λj k a b c=>by simpa using W.ec j k a b c,λq p h=>W.lt q p (by simpa using h),λp m hp=>?_,W.st⟩
 .obtain⟨a,b,c,d,e,f⟩:=W.cl.lt h;exact⟨a,c,b,f,Ne.symm e,d⟩
 .obtain⟨j,k,t⟩:=W.cl.ex i h;exact⟨k,j,t⟩
 .obtain⟨i,j,k,t,L,S⟩:=W.sec1 p m hp;obtain⟨L',w⟩:=S.mir (W.rs.nd p);exact⟨i,k,j,t,L',w⟩
theorem Sw.two (W:Sw n r T o)(J:3<=a)(m:3<=b)(Y:3<=c)(M:a<n)(N:b<n)(X:c<n)(hi:i<3)(U:y<3)(z:y≠i)(e1:o i c=a)(e2:o i a=b)(e3:o y b=c):False:=by
 obtain⟨j,k,t⟩:=W.cl.ex i hi;have lt:=W.cl.lt t;have w:it (o i) 2 c=b:=by show o i (o i c)=b;rw[e1,e2]
 have hN:∀K,Sk (o i) i n c K->2<=K:=λK s=>by
  cases s with
  | zero e=>lia
  | succ _ _ s=>
   rw[e1]at s;cases s with
   | zero e=>lia
   | succ _ _ _=>lia
 rcases (W.cl.or t U).resolve_left z with h | h
 .exact W.mir.no2 (i:=i) (j:=k) (k:=j) t Y X (by rw[w];exact m) (by lia) (by rw[w,<- h];exact e3) hN
 .exact W.no2 t Y X (by rw[w];exact m) (by lia) (by rw[w,<- h];exact e3) hN
theorem Sw.ring3 (W:Sw n r T o)(U:3<=a)(N:3<=b)(R:3<=c)(J:a<n)(D:b<n)(F:c<n)(X:x<3)(B:y<3)(M:w<3)(e1:o x a=b)(e2:o y b=c)(e3:o w c=a):T x y w\/T x w y:=by
 by_cases h1:x=y
 .subst h1;by_cases m:w=x
  .subst m
   exfalso
   obtain⟨K,Y⟩:=W.st w a X U J;have P:it (o w) 1 a=b:=e1;have i2:it (o w) 2 a=c:=by show o w (o w a)=c;rw[e1,e2]
   have i3:it (o w) 3 a=a:=by show o w (o w (o w a))=a;rw[e1,e2,e3]
   rcases (show K=0\/K=1\/K=2\/3<=K by lia) with h | h | h | h
   .have:=Y.at_ 0 (by lia);rw[h]at this
    cases this with | zero e=>have e:a=w:=e;lia
   .have:=Y.at_ 1 (by lia);rw[h,P]at this
    cases this with | zero e=>lia
   .have:=Y.at_ 2 (by lia);rw[h,i2]at this
    cases this with | zero e=>lia
   .have:=Y.at_ 3 (by lia);rw[i3]at this
    have:=Y.un X this;lia
  .exact(W.two N R U D F J X M m e1 e2 e3).elim
 .by_cases m:y=w
  .subst m;exact(W.two R U N F J D B X h1 e2 e3 e1).elim
  .by_cases Q:w=x
   .subst Q;exact(W.two U N R J D F M B (Ne.symm h1) e3 e1 e2).elim
   .obtain⟨j,k,t⟩:=W.cl.ex x X;have lt:=W.cl.lt t;rcases (show(y=j/\w=k)\/(y=k/\w=j) from((W.cl.or t B).resolve_left (Ne.symm h1)).elim (λe=>.inl ⟨e,((W.cl.or t M).resolve_left Q).resolve_left λz=>m (e.trans z.symm)⟩) λe=>.inr ⟨e,((W.cl.or t M).resolve_left Q).resolve_right λz=>m (e.trans z.symm)⟩) with⟨rfl,rfl⟩ | ⟨rfl,rfl⟩
    .exact .inl t
    .exact .inr t
end
section
def Vd (n:Nat)(r:Nat->AC)(o:Nat->Nat->Nat)(f:Nat->Nat->Bool)(s:Bool)(a c i j k:Nat):Prop:=
 ∃L,Sec n (r a) o a i j k L/\0<L.idxOf c/\L.idxOf c<L.idxOf (o j a)/\∀q,q∈r a->(f a q=s↔L.idxOf q<L.idxOf c)
structure Rf (n:Nat)(r:Nat->AC)(T:Nat->Nat->Nat->Prop)(o:Nat->Nat->Nat)(f:Nat->Nat->Bool)(s:Bool)(I:Nat->Prop)(i j k a b c:Nat):Prop where
 t:T i j k
 a3:3<=a/\a<n
 b3:3<=b/\b<n
 c3:3<=c/\c<n
 ab:o i a=b
 bc:o j b=c
 ca:o k c=a
 dab:a≠b
 dbc:b≠c
 dca:c≠a
 ed:∀x y,y∈r x->((x≠a/\x≠b/\x≠c)\/(y≠a/\y≠b/\y≠c))->f x y=f y x
 cs:∀x,x≠a->x≠b->x≠c->∀y y',y∈r x->y'∈r x->f x y=f x y'
 va:Vd n r o f s a c i j k
 vb:Vd n r o f s b a j k i
 vc:Vd n r o f s c b k i j
 co:∀e y,e<3->y∈r e->f e y≠s
 hI:∀x,I x↔(3<=x/\x<n/\x≠a/\x≠b/\x≠c/\∀y,y∈r x->f x y=s)
 fa:∀q x y,adj (r q) x y->f q x=f x y
variable {f:Nat->Nat->Bool}{s:Bool}{I:Nat->Prop}{i j k a b c:Nat}
theorem Rf.rot (W:Sw n r T o)(R:Rf n r T o f s I i j k a b c):Rf n r T o f s I j k i b c a:=
 ⟨W.cl.rot R.t,R.b3,R.c3,R.a3,R.bc,R.ca,R.ab,R.dbc,R.dca,R.dab,λx y h z=>R.ed x y h (by grind),λx h1 w m=>R.cs x m h1 w,R.vb,R.vc,R.va,R.co,λx=>by rw[R.hI x];grind,R.fa⟩
theorem Sw.rf (W:Sw n r T o)(t:T i j k)(F:3<=a/\a<n)(B:3<=b/\b<n)(P:3<=c/\c<n)(ab:o i a=b)(bc:o j b=c)(ca:o k c=a):∃f s I,Rf n r T o f s I i j k a b c:=by
 obtain⟨li,lj,lk,_⟩:=W.cl.lt t;have N:=W.om F.1 F.2 li;have R:=W.om B.1 B.2 lj;have Q:=W.om P.1 P.2 lk;rw[ab]at N;rw[bc]at R;rw[ca]at Q;have dab:a≠b:=λe=>W.rs.self a (by rw[<- e]at N;exact N)
 have dbc:b≠c:=λe=>W.rs.self b (by rw[<- e]at R;exact R)
 have dca:c≠a:=λe=>W.rs.self c (by rw[<- e]at Q;exact Q)
 let g:Nat->Nat:=λm=>if m=0 then a else if m=1 then b else c
 have g0:g 0=a:=rfl
 have g1:g 1=b:=rfl
 have g2:g 2=c:=rfl
 have X:∀m,m<=2->m=0\/m=1\/m=2:=λm h=>by lia
 have C:Cy r g 2:=by
  refine⟨by lia,λx y hx Y e=>?_,λm hm=>?_,Q⟩
  .rcases X x hx with rfl | rfl | rfl <;> rcases X y Y with rfl | rfl | rfl <;> simp only[g0,g1,g2]at e <;> first | rfl | exact absurd e (by assumption) | exact absurd e.symm (by assumption)
  .rcases (show m=0\/m=1 by lia) with rfl | rfl
   .exact N
   .exact R
 have inn:∀m,m<=2->3<=g m/\g m<n:=λm hm=>by
  rcases X m hm with rfl | rfl | rfl
  .exact F
  .exact B
  .exact P
 obtain⟨f,s,D⟩:=C.sd W.rs;have off:∀x,x≠a->x≠b->x≠c->∀m,m<=2->x≠g m:=λx h1 J M m hm=>by
  rcases X m hm with rfl | rfl | rfl
  .exact h1
  .exact J
  .exact M
 have n0:nz g 2 0=b:=rfl
 have n1:nz g 2 1=c:=rfl
 have n2:nz g 2 2=a:=rfl
 have z0:pz g 2 0=c:=rfl
 have z1:pz g 2 1=a:=rfl
 have z2:pz g 2 2=b:=rfl
 have va:Vd n r o f s a c i j k:=by
  obtain⟨L,S⟩:=W.sec F.1 F.2 t;have q:=S.q2 c P.1 P.2 ca;have ⟨u,w,ru,U⟩:=S.rot;refine⟨L,S,q.1,q.2,λy Y=>?_⟩
  have A:=C.arc W.rs D.fb (show 0<=2 by lia) ru U (S.rot.mem.mpr Y)
  rw[D.fs 0 (by lia),n0,z0,g0,<- ab,S.p0]at A
  rw[A.1 (by lia)];lia
 have vb:Vd n r o f s b a j k i:=by
  obtain⟨L,S⟩:=W.sec B.1 B.2 (W.cl.rot t);have q:=S.q2 a F.1 F.2 ab;have ⟨u,w,ru,U⟩:=S.rot;refine⟨L,S,q.1,q.2,λy Y=>?_⟩
  have A:=C.arc W.rs D.fb (show 1<=2 by lia) ru U (S.rot.mem.mpr Y)
  rw[D.fs 1 (by lia),n1,z1,g1,<- bc,S.p0]at A
  rw[A.1 (by lia)];lia
 have vc:Vd n r o f s c b k i j:=by
  obtain⟨L,S⟩:=W.sec P.1 P.2 (W.cl.rot (W.cl.rot t));have q:=S.q2 b B.1 B.2 bc;have ⟨u,w,ru,U⟩:=S.rot;refine⟨L,S,q.1,q.2,λy Y=>?_⟩
  have A:=C.arc W.rs D.fb (show 2<=2 by lia) ru U (S.rot.mem.mpr Y)
  rw[D.fs 2 (by lia),n2,z2,g2,<- ca,S.p0]at A
  rw[A.1 (by lia)];lia
 have os:f 0 1≠s:=by
  obtain⟨m,hm,h1,J,M⟩:=W.princ inn C D li;rw[<- M];rcases X m hm with rfl | rfl | rfl
  .exact absurd ab J
  .obtain⟨L,S,q1,q2,hq⟩:=vb
   have:=S.p2
   rw[g1,Ne,hq _ (S.rot.mem.mp S.m2)];lia
  .obtain⟨L,S,q1,q2,hq⟩:=vc;rw[g2,Ne,hq _ (S.rot.mem.mp S.m1)];lia
 refine⟨f,s,λx=>3<=x/\x<n/\x≠a/\x≠b/\x≠c/\∀y,y∈r x->f x y=s,t,F,B,P,ab,bc,ca,dab,dbc,dca,λx y h z=>?_,λx h1 J M y y' Y hy'=>aV5 D.fb (λq=>u6 (off x h1 J M)) Y hy',va,vb,vc,λe y he Y=>?_,λx=>Iff.rfl,D.fa⟩
 .refine cP3 W.rs D.fa D.fb h ?_;rcases z with⟨h1,J,M⟩ | ⟨h1,J,M⟩
  .rw[aO9];exact u6 (off x h1 J M)
  .exact u6 (off y h1 J M)
 .rw[W.corners inn D he Y];exact os
structure Nw (n:Nat)(T:Nat->Nat->Nat->Prop)(o o':Nat->Nat->Nat)(I:Nat->Prop)(i j k a b c:Nat):Prop where
 na:o' i a=c
 na':∀m,m<3->m≠i->o' m a=o m a
 nb:o' j b=a
 nb':∀m,m<3->m≠j->o' m b=o m b
 nc:o' k c=b
 nc':∀m,m<3->m≠k->o' m c=o m c
 ni:∀x,I x->∀m m' m'',T m m' m''->o' m x=o m' x
 no:∀x,3<=x->x<n->x≠a->x≠b->x≠c->¬I x->∀m,m<3->o' m x=o m x
variable {o':Nat->Nat->Nat}
theorem Nw.rot (N:Nw n T o o' I i j k a b c):Nw n T o o' I j k i b c a:=
 ⟨N.nb,N.nb',N.nc,N.nc',N.na,N.na',N.ni,λx z Y h1 w m=>N.no x z Y m h1 w⟩
theorem Rf.nw (W:Sw n r T o)(R:Rf n r T o f s I i j k a b c):∃o',Nw n T o o' I i j k a b c:=by
 have U:=R.dab;have J:=R.dbc;have w:=R.dca
 have Y:=U.symm;have X:=J.symm;have N:=w.symm
 have ia:¬I a:=λh=>((R.hI a).mp h).2.2.1 rfl
 have ib:¬I b:=λh=>((R.hI b).mp h).2.2.2.1 rfl
 have ic:¬I c:=λh=>((R.hI c).mp h).2.2.2.2.1 rfl
 refine⟨λm x=>if x=a then(if m=i then c else o m a) else if x=b then(if m=j then a else o m b) else if x=c then(if m=k then b else o m c) else if I x then(if m=i then o j x else if m=j then o k x else o i x) else o m x,by simp,λm _ h=>by simp[h],by simp[Y],λm _ h=>by simp[h,Y],by simp[w,X],λm _ h=>by simp[h,w,X],λx M m m' P t=>?_,λx h3 M h1 Q D F m hm=>by simp[h1,Q,D,F]⟩
 have z:=(R.hI x).mp M
 have lt:=W.cl.lt t
 have B:=W.cl.lt R.t
 simp only[z.2.2.1,z.2.2.2.1,z.2.2.2.2.1,M,if_true,if_false];rcases W.cl.or R.t lt.1 with e | e | e
 .subst e;rw[Ac rfl,(W.cl.un t R.t).1]
 .subst e;rw[Ab (by lia),Ac rfl,(W.cl.un t (W.cl.rot R.t)).1]
 .subst e;rw[Ab (by lia),Ab (by lia),(W.cl.un t (W.cl.rot (W.cl.rot R.t))).1]
theorem Rf.out_a (W:Sw n r T o)(R:Rf n r T o f s I i j k a b c)(z:m<3)(h:m≠i):f a (o m a)≠s:=by
 obtain⟨L,S,Y,X,w⟩:=R.va;have lt:=W.cl.lt R.t
 have:=S.p2
 rcases (W.cl.or R.t z).resolve_left h with e | e <;> subst e
 .rw[Ne,w _ (S.rot.mem.mp S.m1)];lia
 .rw[Ne,w _ (S.rot.mem.mp S.m2)];lia
theorem Rf.inn_f (W:Sw n r T o)(R:Rf n r T o f s I i j k a b c)(h:I p)(w:y∈r p):f y p=s:=by
 have hp:=(R.hI p).mp h
 rw[<- R.ed p y w (.inl ⟨hp.2.2.1,hp.2.2.2.1,hp.2.2.2.2.1⟩)];exact hp.2.2.2.2.2 y w
theorem Rf.inn_tie (W:Sw n r T o)(R:Rf n r T o f s I i j k a b c)(h:I p)(w:y∈r p)(h1:y≠a)(m:y≠b)(Y:y≠c):I y:=by
 have X:=R.inn_f W h w
 have U:=W.rs.sym _ _ w
 rw[R.hI y];refine⟨?_,W.lt _ _ w,h1,m,Y,λz J=>by rw[R.cs y h1 m Y z p J U];exact X⟩
 rcases Ct y 3 with z | z
 .exact absurd X (R.co y p z U)
 .exact z
theorem Rf.not_a (W:Sw n r T o)(R:Rf n r T o f s I i j k a b c)(h:I p)(Y:m<3)(e:o m a=p):False:=by
 by_cases z:m=i
 .subst z;exact((R.hI p).mp h).2.2.2.1 (e.symm.trans R.ab)
 .have w:=W.om R.a3.1 R.a3.2 Y
  have:=R.out_a W Y z
  rw[e]at this w;exact this (R.inn_f W h (W.rs.sym _ _ w))
theorem Rf.from_in (W:Sw n r T o)(R:Rf n r T o f s I i j k a b c)(h:I p)(U:3<=x)(J:x<n)(z:m<3)(e:o m x=p):I x:=by
 have w:=W.om U J z
 rw[e]at w;by_cases ea:x=a
 .subst ea;exact(R.not_a W h z e).elim
 .by_cases Y:x=b
  .subst Y;exact((R.rot W).not_a W h z e).elim
  .by_cases X:x=c
   .subst X;exact(((R.rot W).rot W).not_a W h z e).elim
   .exact R.inn_tie W h (W.rs.sym _ _ w) ea Y X
theorem Rf.ring_off (R:Rf n r T o f s I i j k a b c):¬I a/\¬I b/\¬I c:=
 ⟨λh=>((R.hI a).mp h).2.2.1 rfl,λh=>((R.hI b).mp h).2.2.2.1 rfl,λh=>((R.hI c).mp h).2.2.2.2.1 rfl⟩
theorem Rf.from_in' (W:Sw n r T o)(R:Rf n r T o f s I i j k a b c)(N:Nw n T o o' I i j k a b c)(h:I p)(Y:3<=x)(X:x<n)(t:T m m' m'')(e:o' m x=p):I x/\o m' x=p:=by
 have lt:=W.cl.lt t
 obtain⟨M,Q,oc⟩:=R.ring_off;by_cases w:I x
 .exact⟨w,by rw[<- N.ni x w m m' m'' t];exact e⟩
 .exfalso
  by_cases ea:x=a
  .subst ea;by_cases z:m=i
   .subst z;rw[N.na]at e;rw[<- e]at h;exact oc h
   .rw[N.na' m lt.1 z]at e;exact w (R.from_in W h Y X lt.1 e)
  .by_cases U:x=b
   .subst U;by_cases z:m=j
    .subst z;rw[N.nb]at e;rw[<- e]at h;exact M h
    .rw[N.nb' m lt.1 z]at e;exact w (R.from_in W h Y X lt.1 e)
   .by_cases J:x=c
    .subst J;by_cases z:m=k
     .subst z;rw[N.nc]at e;rw[<- e]at h;exact Q h
     .rw[N.nc' m lt.1 z]at e;exact w (R.from_in W h Y X lt.1 e)
    .rw[N.no x Y X ea U J w m lt.1]at e;exact w (R.from_in W h Y X lt.1 e)
theorem Rf.sec_in (W:Sw n r T o)(R:Rf n r T o f s I i j k a b c)(N:Nw n T o o' I i j k a b c)(h:I p):∃L,Sec n (r p) o' p i j k L:=by
 have hp:=(R.hI p).mp h
 have U:=R.t
 have J:=W.cl.rot U
 have t3:=W.cl.rot J
 have lt:=W.cl.lt U
 obtain⟨L,S⟩:=W.sec hp.1 hp.2.1 J;have Q:=N.ni p h _ _ _ U;have Y:=N.ni p h _ _ _ J;have X:=N.ni p h _ _ _ t3;refine⟨L,S.rot,by rw[Q];exact S.p0,by rw[Y];exact S.p1,by rw[Y,X];exact S.p2,by rw[X];exact S.p3,λx w z e=>?_,λx w z e=>?_,λx w z e=>?_,λx z=>?_⟩
 .rw[Y,X];exact S.q0 x w z (R.from_in' W N h w z U e).2
 .rw[X];exact S.q1 x w z (R.from_in' W N h w z J e).2
 .rw[Y];exact S.q2 x w z (R.from_in' W N h w z t3 e).2
 .rw[Q,Y,X];rcases S.al x z with e | ⟨w,m,e⟩
  .exact .inl e
  .refine .inr ⟨w,m,?_⟩;have M:I x:=by
    rcases e with e | e | e
    .exact R.from_in W h w m lt.2.1 e
    .exact R.from_in W h w m lt.2.2.1 e
    .exact R.from_in W h w m lt.1 e
   rw[N.ni x M _ _ _ U,N.ni x M _ _ _ J,N.ni x M _ _ _ t3];exact e
theorem Rf.sec_out (W:Sw n r T o)(R:Rf n r T o f s I i j k a b c)(N:Nw n T o o' I i j k a b c)(p3:3<=p)(hp:p<n)(D:p≠a)(F:p≠b)(B:p≠c)(h:¬I p):∃L,Sec n (r p) o' p i j k L:=by
 have t1:=R.t
 have lt:=W.cl.lt t1
 obtain⟨L,S⟩:=W.sec p3 hp t1;have P:∀m,m<3->o' m p=o m p:=N.no p p3 hp D F B h;have X:∀x,3<=x->x<n->∀m,m<3->(o' m x=p↔o m x=p):=λx w Y m J=>by
  by_cases ix:I x
  .have no:∀m,m<3->o m x≠p:=λm J e=>h (R.inn_tie W ix (by rw[<- e];exact W.om w Y J) D F B)
   obtain⟨m',m'',t⟩:=W.cl.ex m J;rw[N.ni x ix _ _ _ t];exact iff_of_false (no m' (W.cl.lt t).2.1) (no m J)
  .by_cases ea:x=a
   .subst ea;by_cases z:m=i
    .subst z;rw[N.na,R.ab];exact iff_of_false (λe=>B e.symm) (λe=>F e.symm)
    .rw[N.na' m J z]
   .by_cases eb:x=b
    .subst eb;by_cases z:m=j
     .subst z;rw[N.nb,R.bc];exact iff_of_false (λe=>D e.symm) (λe=>B e.symm)
     .rw[N.nb' m J z]
    .by_cases ec:x=c
     .subst ec;by_cases z:m=k
      .subst z;rw[N.nc,R.ca];exact iff_of_false (λe=>F e.symm) (λe=>D e.symm)
      .rw[N.nc' m J z]
     .rw[N.no x w Y ea eb ec ix m J]
 have ei:=P i lt.1
 have M:=P j lt.2.1
 have Q:=P k lt.2.2.1
 refine⟨L,S.rot,by rw[ei];exact S.p0,by rw[M];exact S.p1,by rw[M,Q];exact S.p2,by rw[Q];exact S.p3,λx w Y e=>?_,λx w Y e=>?_,λx w Y e=>?_,λx Y=>?_⟩
 .rw[M,Q];exact S.q0 x w Y ((X x w Y i lt.1).mp e)
 .rw[Q];exact S.q1 x w Y ((X x w Y j lt.2.1).mp e)
 .rw[M];exact S.q2 x w Y ((X x w Y k lt.2.2.1).mp e)
 .rw[ei,M,Q];rcases S.al x Y with e | ⟨w,U,e⟩
  .exact .inl e
  .refine .inr ⟨w,U,?_⟩;rw[X x w U i lt.1,X x w U j lt.2.1,X x w U k lt.2.2.1];exact e
theorem Rf.sec_a (W:Sw n r T o)(R:Rf n r T o f s I i j k a b c)(N:Nw n T o o' I i j k a b c):∃L,Sec n (r a) o' a i j k L:=by
 have t1:=R.t
 have t2:=W.cl.rot t1
 have t3:=W.cl.rot t2
 have lt:=W.cl.lt t1
 obtain⟨L,S,c1,c2,hq⟩:=R.va;have p0:=S.p0;have p1:=S.p1;have p2:=S.p2;have p3:=S.p3;have ndL:=S.rot.nd (W.rs.nd a);have hk:L.idxOf c<L.length:=by lia
 have hcL:=Ai.mp hk
 have len:(L.drop (L.idxOf c)++L.take (L.idxOf c)).length=L.length:=by simp;lia
 have J:=λ{x:Nat} (Y:x∈L)=>cD1 ndL hk Y
 have B:∀{x:Nat},L.idxOf x<L.length->x∈L:=λh=>Ai.mp h
 have jc:=J hcL
 have j0:=J S.m0
 have j1:=J S.m1
 have j2:=J S.m2
 rw[R.ab]at j0 p0;have ej:=N.na' j lt.2.1 (Ne.symm lt.2.2.2.1);have ek:=N.na' k lt.2.2.1 (Ne.symm lt.2.2.2.2.2);have ei:=N.na;have F:∀m,m<3->o m a≠a:=λm B e=>W.rs.self a (by have:=W.om R.a3.1 R.a3.2 B;rw[e]at this;exact this)
 have ina:∀x,I x->∀m,m<3->o m x=a->L.idxOf x<L.idxOf c:=λx X m B e=>by
  have Y:=(R.hI x).mp X
  have w:=W.om Y.1 Y.2.1 B
  rw[e]at w;exact(hq x (W.rs.sym _ _ w)).mp (R.inn_f W X w)
 have outa:∀x,3<=x->x<n->x≠a->x≠b->x≠c->¬I x->∀m,m<3->o m x=a->L.idxOf c<L.idxOf x:=λx U Y Q D M X m B e=>by
  have w:=W.om U Y B
  rw[e]at w;have hs:=W.rs.sym _ _ w;have h1:¬f a x=s:=λz=>X ((R.hI x).mpr ⟨U,Y,Q,D,M,λy hy=>by rw[R.cs x Q D M y a hy w,R.ed x a w (.inl ⟨Q,D,M⟩)];exact z⟩)
  rw[hq x hs]at h1;have h2:L.idxOf x≠L.idxOf c:=λz=>M (by rw[<- N5 (S.rot.mem.mpr hs),z,N5 hcL])
  lia
 refine⟨L.drop (L.idxOf c)++L.take (L.idxOf c),S.rot.trans (Rot.at_ _ _),by rw[ei];lia,by rw[ej];lia,by rw[ej,ek];lia,by rw[ek,len];lia,λx U Y e=>?_,λx U Y e=>?_,λx U Y e=>?_,λx Y=>?_⟩
 .rw[ej,ek];have e:o i x=a:=by
   by_cases X:I x
   .rw[N.ni x X _ _ _ t1]at e;have h1:=ina x X j lt.2.1 e;have h2:=S.q1 x U Y e
    lia
   .by_cases Q:x=a
    .subst Q;rw[ei]at e;exact absurd e R.dca
    .by_cases D:x=b
     .subst D;rw[N.nb' i lt.1 lt.2.2.2.1]at e;exact e
     .by_cases M:x=c
      .subst M;rw[N.nc' i lt.1 lt.2.2.2.2.2]at e;exact e
      .rw[N.no x U Y Q D M X i lt.1]at e;exact e
  have h:=S.q0 x U Y e
  have jx:=J (B (by lia:L.idxOf x<L.length))
  lia
 .rw[ek,len];by_cases X:I x
  .rw[N.ni x X _ _ _ t2]at e;have h1:=ina x X k lt.2.2.1 e;have h2:=S.q2 x U Y e;have jx:=J (B (by lia:L.idxOf x<L.length))
   lia
  .by_cases Q:x=a
   .subst Q;rw[ej]at e;exact absurd e (F j lt.2.1)
   .by_cases D:x=b
    .subst D;lia
    .by_cases M:x=c
     .subst M;rw[N.nc' j lt.2.1 lt.2.2.2.2.1]at e
      have:=S.q1 x U Y e;lia
     .rw[N.no x U Y Q D M X j lt.2.1]at e;have h:=S.q1 x U Y e;have jx:=J (B h.2)
      lia
 .rw[ej];by_cases X:I x
  .rw[N.ni x X _ _ _ t3]at e;have h1:=ina x X i lt.1 e;have h2:=S.q0 x U Y e
   lia
  .by_cases Q:x=a
   .subst Q;rw[ek]at e;exact absurd e (F k lt.2.2.1)
   .by_cases D:x=b
    .subst D;rw[N.nb' k lt.2.2.1 (Ne.symm lt.2.2.2.2.1)]at e
     have:=S.q2 x U Y e;lia
    .by_cases M:x=c
     .subst M;rw[N.nc]at e;exact absurd e.symm R.dab
     .rw[N.no x U Y Q D M X k lt.2.2.1]at e;have h:=S.q2 x U Y e;have h':=outa x U Y Q D M X k lt.2.2.1 e;have jx:=J (B (by lia:L.idxOf x<L.length))
      lia
 .have Y:=(Rot.at_ L _).mem.mp Y
  rw[ei,ej,ek];rcases S.al x Y with (e | e | e) | ⟨U,P,e⟩
  .rw[R.ab]at e;subst e;exact .inr ⟨R.b3.1,R.b3.2,.inr (.inl N.nb)⟩
  .exact .inl (.inr (.inl e))
  .exact .inl (.inr (.inr e))
  .by_cases M:x=c
   .exact .inl (.inl M.symm)
   .refine .inr ⟨U,P,?_⟩;by_cases X:I x
    .rw[N.ni x X _ _ _ t1,N.ni x X _ _ _ t2,N.ni x X _ _ _ t3];rcases e with e | e | e
     .exact .inr (.inr e)
     .exact .inl e
     .exact .inr (.inl e)
    .by_cases Q:x=a
     .subst Q;rcases e with e | e | e
      .exact absurd e (F i lt.1)
      .exact absurd e (F j lt.2.1)
      .exact absurd e (F k lt.2.2.1)
     .by_cases D:x=b
      .subst D;exact .inr (.inl N.nb)
      .rw[N.no x U P Q D M X i lt.1,N.no x U P Q D M X j lt.2.1,N.no x U P Q D M X k lt.2.2.1];exact e
end
inductive Ea (o:Nat->Nat)(e n a:Nat):Nat->Prop
 | zero {q:Nat}:q=e->Ea o e n a q
 | succ {q:Nat}:3<=q->q<n->q≠a->Ea o e n a (o q)->Ea o e n a q
theorem dP9:∀N,it o N (o q)=it o (N+1) q
 | 0=>rfl
 | N+1=>by show o (it o N (o q))=o (it o (N+1) q);rw[dP9 N]
theorem Sk.ea (a:Nat)(h:Sk o e n q K):Ea o e n a q\/∃N,N<=K/\it o N q=a:=by
 induction h with
 | zero e=>exact .inl (.zero e)
 | @succ q k h3 hq _ w=>
  by_cases z:q=a
  .exact .inr ⟨0,by lia,z⟩
  .rcases w with w | ⟨N,hN,e⟩
   .exact .inl (.succ h3 hq z w)
   .exact .inr ⟨N+1,by lia,by rw[<- dP9];exact e⟩
section
variable {n:Nat}{r:Nat->AC}{T:Nat->Nat->Nat->Prop}{o o':Nat->Nat->Nat}{f:Nat->Nat->Bool}{s:Bool}{I:Nat->Prop}{i j k a b c:Nat}
theorem Rf.avoid (W:Sw n r T o)(R:Rf n r T o f s I i j k a b c):Ea (o i) i n a c:=by
 have lt:=W.cl.lt R.t
 obtain⟨K,w⟩:=W.st i c lt.1 R.c3.1 R.c3.2;rcases w.ea a with h | ⟨N,hN,e⟩
 .exact h
 .exact(W.no1 R.t R.c3.1 R.c3.2 (by rw[e];exact R.a3.1) (by rw[e,R.ca]) (λm z=>by rw[<- w.un lt.1 z];exact hN)).elim
theorem Rf.next (W:Sw n r T o)(R:Rf n r T o f s I i j k a b c)(N:Nw n T o o' I i j k a b c)(w:3<=x)(m:x<n)(h:¬I x)(U:x≠a):o' i x=o i x/\¬I (o i x):=by
 have lt:=W.cl.lt R.t
 refine⟨?_,λz=>h (R.from_in W z w m lt.1 rfl)⟩
 by_cases Y:x=b
 .subst Y;exact N.nb' i lt.1 lt.2.2.2.1
 .by_cases X:x=c
  .subst X;exact N.nc' i lt.1 lt.2.2.2.2.2
  .exact N.no x w m U Y X h i lt.1
theorem Rf.e1 (W:Sw n r T o)(R:Rf n r T o f s I i j k a b c)(N:Nw n T o o' I i j k a b c){x:Nat}(e:Ea (o i) i n a x):¬I x->∃K,Sk (o' i) i n x K:=by
 induction e with
 | zero e=>exact λ_=>⟨0,.zero e⟩
 | @succ x h3 hx ha _ ih=>
  intro h;obtain⟨e1,e2⟩:=R.next W N h3 hx h ha;obtain⟨K,w⟩:=ih e2;exact⟨K+1,.succ h3 hx (by rw[e1];exact w)⟩
theorem Rf.e2 (W:Sw n r T o)(R:Rf n r T o f s I i j k a b c)(N:Nw n T o o' I i j k a b c){x K:Nat}(e:Sk (o i) i n x K):¬I x->∃K,Sk (o' i) i n x K:=by
 induction e with
 | zero e=>exact λ_=>⟨0,.zero e⟩
 | @succ x _ h3 hx _ ih=>
  intro h;by_cases z:x=a
  .subst z;obtain⟨K,w⟩:=R.e1 W N (R.avoid W) R.ring_off.2.2;exact⟨K+1,.succ h3 hx (by rw[N.na];exact w)⟩
  .obtain⟨e1,e2⟩:=R.next W N h3 hx h z;obtain⟨K,w⟩:=ih e2;exact⟨K+1,.succ h3 hx (by rw[e1];exact w)⟩
theorem Rf.e3 (W:Sw n r T o)(R:Rf n r T o f s I i j k a b c)(N:Nw n T o o' I i j k a b c)(e:Sk (o j) j n x K):I x->∃K,Sk (o' i) i n x K:=by
 have lt:=W.cl.lt R.t
 induction e with
 | zero e=>exact λh=>absurd ((R.hI _).mp h).1 (by lia)
 | @succ x _ h3 hx _ ih=>
  intro h;have X:=W.om h3 hx lt.2.1;have Y:=N.ni x h _ _ _ R.t;by_cases hi:I (o j x)
  .obtain⟨K,w⟩:=ih hi;exact⟨K+1,.succ h3 hx (by rw[Y];exact w)⟩
  .have U:3<=o j x:=by
    have M:=R.a3;have Q:=R.b3;have D:=R.c3
    rcases Ct (o j x) 3 with z | z
    .exact absurd (R.inn_tie W h X (by lia) (by lia) (by lia)) hi
    .exact z
   obtain⟨J,m⟩:=W.st i (o j x) lt.1 U (W.lt _ _ X);obtain⟨K,w⟩:=R.e2 W N m hi;exact⟨K+1,.succ h3 hx (by rw[Y];exact w)⟩
theorem Rf.st_i (W:Sw n r T o)(R:Rf n r T o f s I i j k a b c)(N:Nw n T o o' I i j k a b c)(z:3<=x)(m:x<n):∃K,Sk (o' i) i n x K:=by
 have lt:=W.cl.lt R.t
 by_cases h:I x
 .obtain⟨K,w⟩:=W.st j x lt.2.1 z m;exact R.e3 W N w h
 .obtain⟨K,w⟩:=W.st i x lt.1 z m;exact R.e2 W N w h
theorem Rf.sw (W:Sw n r T o)(R:Rf n r T o f s I i j k a b c)(N:Nw n T o o' I i j k a b c):Sw n r T o':=by
 have lt:=W.cl.lt R.t
 refine⟨W.cl,W.rs,W.ec,W.lt,λp w hp=>?_,λm p U w hp=>?_⟩
 .by_cases X:I p
  .exact⟨i,j,k,R.t,R.sec_in W N X⟩
  .by_cases ea:p=a
   .subst ea;exact⟨i,j,k,R.t,R.sec_a W N⟩
   .by_cases z:p=b
    .subst z;exact⟨j,k,i,W.cl.rot R.t,(R.rot W).sec_a W N.rot⟩
    .by_cases Y:p=c
     .subst Y;exact⟨k,i,j,W.cl.rot (W.cl.rot R.t),((R.rot W).rot W).sec_a W N.rot.rot⟩
     .exact⟨i,j,k,R.t,R.sec_out W N w hp ea z Y X⟩
 .rcases W.cl.or R.t U with e | e | e <;> subst e
  .exact R.st_i W N w hp
  .exact(R.rot W).st_i W N.rot w hp
  .exact((R.rot W).rot W).st_i W N.rot.rot w hp
theorem Sw.oinj (W:Sw n r T o)(X:3<=p)(hp:p<n)(U:m<3)(w:m'<3)(e:o m p=o m' p):m=m':=by
 obtain⟨j,k,t⟩:=W.cl.ex m U;have lt:=W.cl.lt t;obtain⟨L,S⟩:=W.sec X hp t;have Y:=S.p0;have J:=S.p1;have M:=S.p2;rcases W.cl.or t w with z | z | z
 .exact z.symm
 .subst z;rw[e]at Y;lia
 .subst z;rw[e]at Y;lia
def Tn (n:Nat)(o o':Nat->Nat->Nat)(a b c:Nat):Prop:=∀x y,3<=x->x<n->((∃m,m<3/\o' m x=y)↔(((∃m,m<3/\o m x=y)/\¬(x=a/\y=b)/\¬(x=b/\y=c)/\¬(x=c/\y=a))\/(x=a/\y=c)\/(x=b/\y=a)\/(x=c/\y=b)))
theorem Rf.tn_a (W:Sw n r T o)(R:Rf n r T o f s I i j k a b c)(N:Nw n T o o' I i j k a b c):(∃m,m<3/\o' m a=y)↔((∃m,m<3/\o m a=y)/\y≠b)\/y=c:=by
 have lt:=W.cl.lt R.t
 constructor
 .rintro⟨m,hm,e⟩;by_cases z:m=i
  .subst z;rw[N.na]at e;exact .inr e.symm
  .rw[N.na' m hm z]at e;refine .inl ⟨⟨m,hm,e⟩,λw=>z ?_⟩
   exact W.oinj R.a3.1 R.a3.2 hm lt.1 (by rw[e,w,R.ab])
 .rintro (⟨⟨m,hm,e⟩,h⟩ | h)
  .have z:m≠i:=λz=>h (by subst z;rw[<- e,R.ab])
   exact⟨m,hm,by rw[N.na' m hm z];exact e⟩
  .exact⟨i,lt.1,by rw[N.na,h]⟩
theorem Rf.tn (W:Sw n r T o)(R:Rf n r T o f s I i j k a b c)(N:Nw n T o o' I i j k a b c):Tn n o o' a b c:=by
 intro x y D F;have lt:=W.cl.lt R.t;have w:=R.dab;have z:=R.dbc;have Y:=R.dca;by_cases J:x=a
 .subst J;rw[R.tn_a W N]
  simp[w,w.symm,Y.symm]
 .by_cases M:x=b
  .subst M;rw[(R.rot W).tn_a W N.rot]
   simp[w.symm,z]
  .by_cases Q:x=c
   .subst Q;rw[((R.rot W).rot W).tn_a W N.rot.rot]
    simp[Y,z.symm]
   .simp only[J,M,Q,false_and,not_false_eq_true,and_true,or_false];by_cases U:I x
    .constructor
     .rintro⟨m,hm,e⟩;obtain⟨B,X,t⟩:=W.cl.ex m hm;rw[N.ni x U _ _ _ t]at e;exact⟨B,(W.cl.lt t).2.1,e⟩
     .rintro⟨m,hm,e⟩;obtain⟨B,X,t⟩:=W.cl.ex m hm;have P:=W.cl.rot (W.cl.rot t);exact⟨X,(W.cl.lt P).1,by rw[N.ni x U _ _ _ P];exact e⟩
    .constructor
     .rintro⟨m,hm,e⟩;rw[N.no x D F J M Q U m hm]at e;exact⟨m,hm,e⟩
     .rintro⟨m,hm,e⟩;exact⟨m,hm,by rw[N.no x D F J M Q U m hm];exact e⟩
theorem Sw.turn (W:Sw n r T o)(z:3<=a/\a<n)(m:3<=b/\b<n)(Y:3<=c/\c<n)(Q:x<3)(D:y<3)(M:w<3)(X:o x a=b)(U:o y b=c)(J:o w c=a):∃o',Sw n r T o'/\Tn n o o' a b c:=by
 rcases W.ring3 z.1 m.1 Y.1 z.2 m.2 Y.2 Q D M X U J with t | t
 .obtain⟨f,s,I,R⟩:=W.rf t z m Y X U J;obtain⟨o',N⟩:=R.nw W;exact⟨o',R.sw W N,R.tn W N⟩
 .obtain⟨f,s,I,R⟩:=W.mir.rf (i:=x) (j:=y) (k:=w) t z m Y X U J;obtain⟨o',N⟩:=R.nw W.mir;refine⟨o',?_,R.tn W.mir N⟩
  have:=(R.sw W.mir N).mir
  simpa using this
end
def Tr (i j k:Nat):Prop:=(i=0/\j=1/\k=2)\/(i=1/\j=2/\k=0)\/(i=2/\j=0/\k=1)
theorem dH5:Cl3 Tr:=by
 refine⟨λh=>?_,λh=>?_,λi h=>?_,λ{i j k z m} h w=>?_⟩
 .rcases h with⟨rfl,rfl,rfl⟩ | ⟨rfl,rfl,rfl⟩ | ⟨rfl,rfl,rfl⟩
  .exact .inr (.inl ⟨rfl,rfl,rfl⟩)
  .exact .inr (.inr ⟨rfl,rfl,rfl⟩)
  .exact .inl ⟨rfl,rfl,rfl⟩
 .rcases h with⟨rfl,rfl,rfl⟩ | ⟨rfl,rfl,rfl⟩ | ⟨rfl,rfl,rfl⟩ <;> decide
 .match i,h with
  | 0,_=>exact⟨1,2,.inl ⟨rfl,rfl,rfl⟩⟩
  | 1,_=>exact⟨2,0,.inr (.inl ⟨rfl,rfl,rfl⟩)⟩
  | 2,_=>exact⟨0,1,.inr (.inr ⟨rfl,rfl,rfl⟩)⟩
 .rcases h with⟨rfl,rfl,rfl⟩ | ⟨rfl,rfl,rfl⟩ | ⟨rfl,rfl,rfl⟩ <;> rcases w with⟨e,rfl,rfl⟩ | ⟨e,rfl,rfl⟩ | ⟨e,rfl,rfl⟩ <;> first | exact⟨rfl,rfl⟩ | exact absurd e (by decide)
theorem Sn.sk (h:Sn t c n q k):Sk (og t c) c n q k:=by
 induction h with
 | zero e=>exact .zero e
 | succ a b _ w=>exact .succ a b w
section
variable {m:Nat}{d t:AA}
theorem aS1 (h:adj l a b):a∈l/\b∈l:=by
 rcases adj_iff.mp h with⟨p,s,e⟩ | ⟨p,e,w⟩
 .rw[e];simp
 .exact⟨by rw[e];simp,List.mem_of_mem_head? w⟩
theorem Rg.sec (R:Rg d t n p A B C):∃L,Sec n (trn d p) (og t) p 0 1 2 L:=by
 have nd:=R.nd
 have J:=G5 (p:=[]) (u:=og t 0 p) nd rfl
 have M:=G5 (p:=og t 0 p::A) (u:=og t 1 p) nd (by simp;rfl)
 have N:=G5 (p:=og t 0 p::(A++og t 1 p::B)) (u:=og t 2 p) (s:=C) nd (by simp)
 simp only[Ay,Ab7,List.length_nil]at J M N;have Q:(og t 0 p::(A++og t 1 p::(B++og t 2 p::C))).length=A.length+B.length+C.length+3:=by simp;lia
 refine⟨_,R.rot,J,by lia,by lia,by lia,λx X Y e=>?_,λx X Y e=>?_,λx X Y e=>?_,λx Y=>?_⟩
 .obtain⟨w,z,j⟩:=Ad5 (R.kb x X Y e);have U:=G5 (p:=og t 0 p::(A++og t 1 p::w)) (u:=x) (s:=z++og t 2 p::C) nd (by rw[j];simp)
  have:B.length=w.length+z.length+1:=by rw[j];simp;lia
  simp only[Ay,Ab7]at U
  lia
 .obtain⟨w,z,j⟩:=Ad5 (R.kc x X Y e);have U:=G5 (p:=og t 0 p::(A++og t 1 p::(B++og t 2 p::w))) (u:=x) (s:=z) nd (by rw[j];simp)
  have:C.length=w.length+z.length+1:=by rw[j];simp;lia
  simp only[Ay,Ab7]at U
  lia
 .obtain⟨w,z,j⟩:=Ad5 (R.ka x X Y e);have U:=G5 (p:=og t 0 p::w) (u:=x) (s:=z++og t 1 p::(B++og t 2 p::C)) nd (by rw[j];simp)
  have:A.length=w.length+z.length+1:=by rw[j];simp;lia
  simp only[Ay,Ab7]at U
  lia
 .simp only[Aa1,Aa0]at Y;rcases Y with h | h | h | h | h | h
  .exact .inl (.inl h.symm)
  .exact .inr ⟨(R.ha x h).1,(R.ha x h).2.1,.inr (.inr (R.ha x h).2.2)⟩
  .exact .inl (.inr (.inl h.symm))
  .exact .inr ⟨(R.hb x h).1,(R.hb x h).2.1,.inl (R.hb x h).2.2⟩
  .exact .inl (.inr (.inr h.symm))
  .exact .inr ⟨(R.hc x h).1,(R.hc x h).2.1,.inr (.inl (R.hc x h).2.2)⟩
theorem Gd.sw (W:Gd m d t)(h1:H1 (trn d)):Sw (m+3) (trn d) Tr (og t):=by
 have X:=W.good.out
 have Y:=W.good.tri _ _ _ X
 have D:=W.good.tri _ _ _ Y
 refine⟨dH5,⟨W.good.nd,W.good.self,W.good.tri,λp q h=>W.good.sym h,h1⟩,λj k N Q z=>?_,W.good.lt,λp w hp=>?_,λj p N w hp=>?_⟩
 .have U:=aS1 D;have J:=aS1 Y;have M:=aS1 X
  rcases (show j=0\/j=1\/j=2 by lia) with rfl | rfl | rfl <;> rcases (show k=0\/k=1\/k=2 by lia) with rfl | rfl | rfl <;> first | exact absurd rfl z | exact U.1 | exact U.2 | exact J.1 | exact J.2 | exact M.1 | exact M.2
 .obtain⟨A,B,C,R⟩:=W.ring w hp;exact⟨0,1,2,.inl ⟨rfl,rfl,rfl⟩,R.sec⟩
 .obtain⟨k,Q⟩:=W.steps N w hp;exact⟨k,Q.sk⟩
end
inductive Rc (r:Nat->AC)(sh:Nat->Nat->Prop)(a b:Nat):Nat->Nat->Prop
 | base:Rc r sh a b a b
 | rot {q x y:Nat}:Rc r sh a b q x->adj (r q) x y->Rc r sh a b x y
 | cross {p q:Nat}:Rc r sh a b p q->q∈r p->¬sh p q->Rc r sh a b q p
theorem cI0 {l:AC}{P:Nat->Prop}(h:∀s q,adj l s q->P s->P q){s:Nat}(X:s∈l)(p:P s):∀q∈l,P q:=by
 obtain⟨u,w,e⟩:=Ad5 X;have e1:l=u++(s::w):=e;have j:∀k,k<((s::w)++u).length->P (gi ((s::w)++u) k):=by
  intro k;induction k with
  | zero=>intro _;exact p
  | succ k U=>intro Y;exact h _ _ (aW7 e1 (aY7 Y)) (U (by lia))
 intro q m;have z:q∈(s::w)++u:=by rw[e1]at m;exact Aa0.mpr (Aa0.mp m).symm
 have:=j _ (Ai.mpr z)
 rwa [N5 z]at this
theorem aX2 {n:Nat}{r:Nat->AC}(G:Good n r){P:Nat->Nat->Prop}(rot:∀q x y,adj (r q) x y->P q x->P x y)(U:∀p q,q∈r p->P p q->P q p){a b:Nat}(J:b∈r a)(h:P a b):∀p q,q∈r p->P p q:=by
 have one:∀p q,q∈r p->P p q->∀x∈r p,P p x:=λp q Y hp=>cI0 (P:=P p) (λs x X Q=>by
  have h1:=rot _ _ _ X Q
  have N:=G.tri _ _ _ X
  have R:=rot _ _ _ N h1
  exact U _ _ (G.sym (C6 X).2) R) Y hp
 have ne:∀x,x<n->∃y,y∈r x:=λx m=>by
  have:=G.two x m
  cases e:r x with
  | nil=>rw[e]at this;simp at this
  | cons y l=>exact⟨y,by simp⟩
 have lt:∀{x y},y∈r x->x<n:=λ{x y} w=>by
  rcases Ct x n with z | z
  .exact z
  .rw[G.hi x z]at w;cases w
 have st:∀x y,y∈r x->(∀q∈r x,P x q)->∀q∈r y,P y q:=λx y w m=>one y x (G.sym w) (U _ _ w (m y w))
 have j:=G.conn (λx=>(∀q∈r x,P x q)↔(∀q∈r 0,P 0 q)) Iff.rfl (λx y m w=>Iff.trans ⟨st y x (G.sym w),st x y w⟩ m)
 have M:∀q∈r 0,P 0 q:=(j a (lt J)).mp (one a b J h)
 intro p q Y;exact(j p (lt Y)).mpr M q Y
section
variable {n:Nat}{r:Nat->AC}{g:Nat->Nat}{N:Nat}{f:Nat->Nat->Bool}{s:Bool}{a b:Nat}
theorem cT0 (G:Good n r)(S:Rs r)(C:Cy r g N)(D:Sd r g N f s)(U:zc g N a b=true)(Y:q∈r p):Rc r (λp q=>zc g N p q=true) a b p q↔f p q=f a b:=by
 have X:b∈r a:=(C.cyc S).sup a b U
 have mem:∀{p q},Rc r (λp q=>zc g N p q=true) a b p q->q∈r p:=λh=>by
  induction h with
  | base=>exact X
  | rot _ j _=>exact(C6 (S.tri _ _ _ j)).1
  | cross _ Y _ _=>exact S.sym _ _ Y
 have nf:∀{p q},¬zc g N p q=true->zc g N q p=false:=λ{p q} h=>by rw[aO9];exact Bool.eq_false_iff.mpr h
 constructor
 .intro h
  clear Y
  induction h with
  | base=>rfl
  | rot _ j F=>rw[<- D.fa _ _ _ j];exact F
  | cross h Y hn F=>rw[<- cP3 S D.fa D.fb Y (nf hn)];exact F
 .
  let R:=Rc r (λp q=>zc g N p q=true) a b
  let χ : Nat->Nat->Bool:=λp q=>decide (f p q=f a b/\¬R p q)
  have B:∀q x y,adj (r q) x y->(R q x↔R x y):=λq x y j=>⟨λh=>.rot h j,λh=>.rot (.rot h (S.tri _ _ _ j)) (S.tri _ _ _ (S.tri _ _ _ j))⟩
  have χr:∀q x y,adj (r q) x y -> χ q x = χ x y:=λq x y j=>by
   show decide _=decide _
   rw[D.fa _ _ _ j,show R q x=R x y from propext (B q x y j)]
  have χc:∀p q,q∈r p->zc g N p q=false -> χ p q = χ q p:=λp q Y U=>by
   have z1:¬zc g N p q=true:=by rw[U];simp
   have z2:¬zc g N q p=true:=by rw[aO9,U];simp
   show decide _=decide _
   rw[cP3 S D.fa D.fb Y (by rw[aO9];exact U),show R p q=R q p from propext ⟨λh=>.cross h Y z1,λh=>.cross h (S.sym _ _ Y) z2⟩]
  have ev:∀p,par (λq=>xor (χ q p) (χ p q)) (r p)=false:=λp=>by
   cases e:r p with
   | nil=>rfl
   | cons c l=>
    have sg:=seg (f := χ p) (w:=λq=>xor (χ q p) (χ p q)) c l c λs q hl=>by
     have j:adj (r p) s q:=by rw[e];unfold adj;simpa using hl
     have h1 := χr _ _ _ j
     have h2 := χr _ _ _ (S.tri _ _ _ j)
     rw[h1,h2]
    rw[Bool.xor_self]at sg;rw[aU5 (show(c::l).Perm (l++[c]) from Cw (l₁:=[c]) (l₂:=l))]
    exact sg.symm
  have nx:∀k,k<=N->xor (χ (pz g N k) (g k)) (χ (g k) (pz g N k))=xor (χ (nz g N k) (g k)) (χ (g k) (nz g N k)):=λk m=>by
   have:=ev (g k)
   rw[bH1 (C.ne m) (S.nd _) (C.pz_mem S m) (C.nz_mem S m) λc hc h1 h2=>by
    rw[χc _ _ hc (by rw[Bool.eq_false_iff];intro z;rcases (C.at_ m).mp z with e | e;exact h1 e;exact h2 e)];exact Bool.xor_self _]at this
   revert this
   cases χ (pz g N k) (g k) <;> cases χ (g k) (pz g N k) <;> cases χ (nz g N k) (g k) <;> cases χ (g k) (nz g N k) <;> simp
  have all:∀k,k<=N->xor (χ (nz g N k) (g k)) (χ (g k) (nz g N k))=xor (χ (nz g N 0) (g 0)) (χ (g 0) (nz g N 0)):=by
   intro k;induction k with
   | zero=>intro _;rfl
   | succ k F=>
    intro m;rw[<- F (by lia),<- nx (k+1) m]
    have e:nz g N k=g (k+1):=by unfold nz;rw[Ab (by lia)]
    have e':pz g N (k+1)=g k:=by unfold pz;rw[Ab (by lia)];rfl
    rw[e,e',Bool.xor_comm]
  have zero:∀p q,zc g N p q=true->∃k,k<=N/\((p=g k/\q=nz g N k)\/(q=g k/\p=nz g N k)):=λp q h=>by
   unfold zc at h;exact An h
  have J : χ a b=false:=by show decide _=false;rw[Cb];exact λh=>h.2 .base
  have Q : χ b a=false:=by
   show decide _=false
   rw[Cb];intro h;obtain⟨x,hx⟩:=aT7 X;have f1:=D.fb _ _ _ (S.tri _ _ _ hx);rw[<- D.fa _ _ _ hx,aO9,U,h.1]at f1;simp at f1
  have e0:xor (χ (nz g N 0) (g 0)) (χ (g 0) (nz g N 0))=false:=by
   obtain⟨k,m,⟨e1,e2⟩ | ⟨e1,e2⟩⟩:=zero a b U
   .rw[<- all k m,<- e1,<- e2,J,Q];rfl
   .rw[<- all k m,<- e1,<- e2,J,Q];rfl
  have cr:∀p q,q∈r p -> χ p q=true -> χ q p=true:=λp q Y h=>by
   cases M:zc g N p q with
   | false=>rw[<- χc p q Y M];exact h
   | true=>
    obtain⟨k,m,⟨e1,e2⟩ | ⟨e1,e2⟩⟩:=zero p q M
    .have:=(all k m).trans e0
     rw[<- e1,<- e2,h]at this
     revert this;cases χ q p <;> simp
    .have:=(all k m).trans e0
     rw[<- e1,<- e2,h]at this
     revert this;cases χ q p <;> simp
  intro hf;refine Classical.byContradiction λhn=>?_
  have:=aX2 G (P:=λp q => χ p q=true) (λq x y j h=>by rw[<- χr q x y j];exact h) cr Y (As ⟨hf,hn⟩) a b X
  rw[J]at this;cases this
theorem Cy.ofList (nd:l.Nodup)(z:3<=l.length)(h:∀a b,adj l a b->b∈r a):Cy r (gi l) (l.length-1):=by
 refine⟨by lia,λj k m w e=>bU0 nd (by lia) (by lia) e,λk w=>h _ _ (aY7 (by lia)),h _ _ (bJ8 (by lia))⟩
theorem aN4 (nd:l.Nodup)(P:3<=l.length):zc (gi l) (l.length-1) x y=true↔(adj l x y\/adj l y x):=by
 have j:∀k,k<=l.length-1->adj l (gi l k) (nz (gi l) (l.length-1) k):=λk z=>by
  unfold nz;by_cases e:k=l.length-1
  .rw[Ac e,e];exact bJ8 (by lia)
  .rw[Ab e];exact aY7 (by lia)
 have un:∀{x y J},adj l x y->adj l x J->y=J:=λ{x y J} h R=>by
  obtain⟨h1,_⟩:=C6 h;rcases adj_iff.mp h with⟨p,s,e⟩ | ⟨p,e,F⟩
  .rcases adj_iff.mp R with⟨m,B,e'⟩ | ⟨m,e',w⟩
   .have Q:=G5 nd e
    have D:=G5 nd e'
    have:p.length=m.length:=by lia
    have:=List.append_inj (e.symm.trans e') this
    simpa using(List.cons.inj (List.cons.inj this.2).2).1
   .have Q:=G5 nd e
    have D:=G5 nd (p:=m) (s:=[]) e'
    have X:=congrArg List.length e
    have U:=congrArg List.length e'
    simp at X U;lia
  .rcases adj_iff.mp R with⟨m,B,e'⟩ | ⟨m,e',w⟩
   .have Q:=G5 nd (p:=p) (s:=[]) e
    have D:=G5 nd e'
    have X:=congrArg List.length e
    have U:=congrArg List.length e'
    simp at X U;lia
   .rw[F]at w;exact Ab4 w
 unfold zc;rw[decide_eq_true_iff];constructor
 .rintro⟨k,z,⟨e1,e2⟩ | ⟨e1,e2⟩⟩
  .rw[e1,e2];exact .inl (j k z)
  .rw[e1,e2];exact .inr (j k z)
 .have M:∀{x y},adj l x y->∃k,k<=l.length-1/\x=gi l k/\y=nz (gi l) (l.length-1) k:=λ{x y} h=>by
   have Y:=(C6 h).1
   have hl:=Ai.mpr Y
   refine⟨l.idxOf x,by lia,(N5 Y).symm,?_⟩
   have:=j (l.idxOf x) (by lia)
   rw[N5 Y]at this;exact un h this
  rintro (h | h)
  .obtain⟨k,z,e1,e2⟩:=M h;exact⟨k,z,.inl ⟨e1,e2⟩⟩
  .obtain⟨k,z,e1,e2⟩:=M h;exact⟨k,z,.inr ⟨e1,e2⟩⟩
end
section
theorem dM0 (nd:l.Nodup)(h:adj l x y)(h':adj l x y'):y=y':=by
 rcases adj_iff.mp h with⟨p,s,e⟩ | ⟨p,e,U⟩
 .rcases adj_iff.mp h' with⟨z,J,e'⟩ | ⟨z,e',w⟩
  .have Y:=G5 nd e
   have X:=G5 nd e'
   have:=List.append_inj (e.symm.trans e') (by lia)
   simpa using(List.cons.inj (List.cons.inj this.2).2).1
  .have Y:=G5 nd e
   have X:=G5 nd (p:=z) (s:=[]) e'
   have j:=congrArg List.length e
   have m:=congrArg List.length e'
   simp at j m;lia
 .rcases adj_iff.mp h' with⟨z,J,e'⟩ | ⟨z,e',w⟩
  .have Y:=G5 nd (p:=p) (s:=[]) e
   have X:=G5 nd e'
   have j:=congrArg List.length e
   have m:=congrArg List.length e'
   simp at j m;lia
  .rw[U]at w;exact Ab4 w
theorem Good.outs (G:Good n r):adj (r 0) 2 1/\adj (r 2) 1 0/\adj (r 1) 0 2:=⟨G.tri _ _ _ (G.tri _ _ _ G.out),G.out,G.tri _ _ _ G.out⟩
end
def prd (l:AC)(x:Nat):Nat:=if l.idxOf x=0 then gi l (l.length-1) else gi l (l.idxOf x-1)
theorem cV3 (h:x∈l):adj l (prd l x) x:=by
 have w:=Ai.mpr h
 unfold prd;by_cases e:l.idxOf x=0
 .rw[Ac e]
  have:=bJ8 (rim:=l) (by lia)
  rwa [<- e,N5 h]at this
 .rw[Ab e]
  have:=aY7 (rim:=l) (k:=l.idxOf x-1) (by lia)
  rwa [show l.idxOf x-1+1=l.idxOf x by lia,N5 h]at this
def th (r:Nat->AC)(p q:Nat):Nat:=prd (r q) p
def nrm (x y z:Nat):AC:=if x<y/\x<z then [x,y,z] else if y<z/\y<x then [y,z,x] else [z,x,y]
def lnd (r:Nat->AC)(p q:Nat):AC:=nrm p q (th r p q)
section
theorem Good.th (G:Good n r)(h:q∈r p):adj (r p) q (th r p q):=G.tri _ _ _ (G.tri _ _ _ (cV3 (G.sym h)))
theorem Good.th_mem (G:Good n r)(h:q∈r p):TT.th r p q∈r q/\p∈r (TT.th r p q):=by
 have:=G.th h
 have h1:=C6 (G.tri _ _ _ this)
 have w:=C6 (G.tri _ _ _ (G.tri _ _ _ this))
 exact⟨h1.1,w.1⟩
theorem Good.th_ne (G:Good n r)(h:q∈r p):p≠q/\q≠TT.th r p q/\p≠TT.th r p q:=by
 have s:∀{a b},b∈r a->a≠b:=λ{a b} h e=>G.self a (by rw[<- e]at h;exact h)
 have:=G.th_mem h
 exact⟨s h,s this.1,λe=>s this.2 e.symm⟩
theorem Good.th_un (G:Good n r)(h:adj (r p) q x):x=TT.th r p q:=dM0 (G.nd p) h (G.th (C6 h).1)
theorem Good.th_rot (G:Good n r)(h:q∈r p):TT.th r q (TT.th r p q)=p:=(G.th_un (G.tri _ _ _ (G.th h))).symm
theorem Good.th_rot2 (G:Good n r)(h:q∈r p):TT.th r (TT.th r p q) p=q:=(G.th_un (G.tri _ _ _ (G.tri _ _ _ (G.th h)))).symm
theorem cU3 (h1:x≠y)(w:y≠z)(j:x≠z):nrm x y z=nrm y z x:=by
 unfold nrm;by_cases a:x<y/\x<z
 .rw[Ac a,Ab (by lia),Ab (by lia)]
 .rw[Ab a];by_cases b:y<z/\y<x
  .rw[Ac b,Ac (by lia)]
  .rw[Ab b,Ab (by lia),Ac (by lia)]
theorem Good.lnd_rot (G:Good n r)(h:q∈r p):lnd r p q=lnd r q (TT.th r p q):=by
 obtain⟨a,b,c⟩:=G.th_ne h;unfold lnd;rw[G.th_rot h];exact cU3 a b c
theorem Q8 (x y z:Nat):nrm x y z=[x,y,z]\/nrm x y z=[y,z,x]\/nrm x y z=[z,x,y]:=by
 unfold nrm;split
 .exact .inl rfl
 .split
  .exact .inr (.inl rfl)
  .exact .inr (.inr rfl)
theorem Good.lnd_eq (G:Good n r)(h:q∈r p)(h':q'∈r p')(e:lnd r p q=lnd r p' q'):(p'=p/\q'=q)\/(p'=q/\q'=TT.th r p q)\/(p'=TT.th r p q/\q'=p):=by
 have m:=G.th_rot h'
 have Y:=G.th_rot2 h'
 have z:=G.th_rot h
 have j:=G.th_rot2 h
 unfold lnd at e;generalize TT.th r p q=t at *;generalize w:TT.th r p' q'=t' at *;rcases Q8 p q t with e1 | e1 | e1 <;> rcases Q8 p' q' t' with e2 | e2 | e2 <;> rw[e1,e2]at e <;> simp only[Bj,and_true]at e <;> obtain⟨a,b,c⟩:=e <;> subst a b c <;> simp
theorem bM5 (G:Good n r){P:Nat->Nat->Prop}(rot:∀q x y,adj (r q) x y->(P q x↔P x y)){p q p' q':Nat}(h:q∈r p)(h':q'∈r p')(e:lnd r p q=lnd r p' q'):P p q↔P p' q':=by
 have w:=rot _ _ _ (G.th h)
 have z:=rot _ _ _ (G.tri _ _ _ (G.th h))
 rcases G.lnd_eq h h' e with⟨rfl,rfl⟩ | ⟨rfl,rfl⟩ | ⟨rfl,rfl⟩
 .exact Iff.rfl
 .exact w
 .exact w.trans z
def gps (r:Nat->AC)(n:Nat):List (Nat×Nat):=((List.range n).map λp=>(r p).map λq=>(p,q)).flatten
theorem Good.gps_mem (G:Good n r):x∈gps r n↔x.2∈r x.1:=by
 unfold gps;simp only[List.mem_flatten,Aa8,Ab5];constructor
 .rintro⟨l,⟨p,hp,rfl⟩,hx⟩;obtain⟨q,w,rfl⟩:=Aa8.mp hx;exact w
 .intro h;refine⟨_,⟨x.1,?_,rfl⟩,Aa8.mpr ⟨x.2,h,rfl⟩⟩;rcases Ct x.1 n with z | z
  .exact z
  .rw[G.hi _ z]at h;cases h
theorem Good.gps_nd (G:Good n r):(gps r n).Nodup:=by
 unfold gps;have w:∀m,(((List.range m).map λp=>(r p).map λq=>(p,q)).flatten).Nodup:=λm=>by
  induction m with
  | zero=>simp
  | succ m Y=>
   rw[Ce,Ad2,List.flatten_append,Aa4];refine⟨Y,?_,λx z y j e=>?_⟩
   .simp only[Ac7,Cj,Ca,List.flatten_nil,Bq];rw[Ac6,Ae0];exact(Ac6.mp (G.nd m)).imp λ{a b} h e=>h (congrArg Prod.snd e)
   .subst e;simp only[List.mem_flatten,Aa8,Ab5,Ac7,Cj,Ca,List.flatten_nil,Bq]at z j;obtain⟨l,⟨p,hp,rfl⟩,h1⟩:=z;obtain⟨q,_,rfl⟩:=Aa8.mp h1;obtain⟨X,_,e⟩:=j
    have:=congrArg Prod.fst e
    simp at this;lia
 exact w n
theorem Good.gps_len (G:Good n r):(gps r n).length+12=6*n:=by
 have:=G.sum
 unfold gps;rw[List.length_flatten,Ae2];simpa[Function.comp_def]using this
def low (r:Nat->AC)(x:Nat×Nat):Bool:=decide (x.1<x.2)&&decide (x.1<th r x.1 x.2)
def rds (r:Nat->AC)(n:Nat):AA:=((gps r n).filter (low r)).map λx=>[x.1,x.2,th r x.1 x.2]
theorem V0 {a b c:Nat}(h1:a≠b)(w:b≠c)(z:a≠c):((a<b/\a<c)/\(¬b<a\/¬b<c)/\(¬c<a\/¬c<b))\/((¬a<b\/¬a<c)/\(b<a/\b<c)/\(¬c<a\/¬c<b))\/((¬a<b\/¬a<c)/\(¬b<a\/¬b<c)/\(c<a/\c<b)):=by lia
theorem bV2 {α:Type}[DecidableEq α]{l:List α}(nd:l.Nodup):∀{m:List α},(∀x∈l,x∈m)->l.length<=m.length:=by
 induction l with
 | nil=>intro m _;simp
 | cons a l z=>
  intro m h;rw[Aa5]at nd
  have:=z nd.2 (m:=m.erase a) λx w=>by
   refine(List.mem_erase_of_ne ?_).mpr (h x (by simp[w]))
   intro e;subst e;exact nd.1 w
  rw[Cz (h a (by simp))]at this
  have hp:0<m.length:=Dg (h a (by simp))
  simp;lia
theorem Good.rds_len (G:Good n r):(rds r n).length+4=2*n:=by
 unfold rds;rw[Aa3];have tot:=G.gps_len
 let φ:Nat×Nat->Nat×Nat:=λx=>(x.2,TT.th r x.1 x.2)
 have mφ:∀x∈gps r n,φ x∈gps r n:=λx w=>G.gps_mem.mpr (G.th_mem (G.gps_mem.mp w)).1
 have B:∀x∈gps r n,∀y∈gps r n,φ x=φ y->x=y:=λx w y m e=>by
  have h1:x.2=y.2:=congrArg Prod.fst e
  have N:TT.th r x.1 x.2=TT.th r y.1 y.2:=congrArg Prod.snd e
  have F:=G.th_rot (G.gps_mem.mp w)
  have P:=G.th_rot (G.gps_mem.mp m)
  rw[N,h1]at F;exact Prod.ext (F.symm.trans P) h1
 let z:Nat×Nat->Bool:=λx=>decide (x.2<x.1)&&decide (x.2<TT.th r x.1 x.2)
 let j:Nat×Nat->Bool:=λx=>decide (TT.th r x.1 x.2<x.1)&&decide (TT.th r x.1 x.2<x.2)
 have nd:=G.gps_nd
 have Q:∀b:Nat×Nat->Bool,(((gps r n).filter b).map φ).Nodup:=λb=>by
  rw[Ac6,Ae0];exact By (λ{x y} w m R e=>R (B x (Ap.mp w).1 y (Ap.mp m).1 e)) (Ac6.mp (nd.filter b))
 have step:∀b X:Nat×Nat->Bool,(∀x∈gps r n,b x=true->X (φ x)=true)->((gps r n).filter b).length<=((gps r n).filter X).length:=λb X h=>by
  rw[<- Aa3 (f := φ) (as:=(gps r n).filter b)];refine bV2 (Q b) λy m=>?_
  obtain⟨x,w,rfl⟩:=Aa8.mp m;obtain⟨h1,N⟩:=Ap.mp w;exact Ap.mpr ⟨mφ x h1,h x h1 N⟩
 have s10:=step z (low r) λx w h=>by
  have k:=G.th_rot (G.gps_mem.mp w)
  simp only[z,low,φ,Aq,Am]at h ⊢;rw[k];exact⟨h.2,h.1⟩
 have s21:=step j z λx w h=>by
  have k:=G.th_rot (G.gps_mem.mp w)
  simp only[z,j,φ,Aq,Am]at h ⊢;rw[k];exact⟨h.2,h.1⟩
 have s02:=step (low r) j λx w h=>by
  have k:=G.th_rot (G.gps_mem.mp w)
  simp only[low,j,φ,Aq,Am]at h ⊢;rw[k];exact⟨h.1,h.2⟩
 have Y:∀l:List (Nat×Nat),(∀x∈l,x∈gps r n)->(l.filter (low r)).length+(l.filter z).length+(l.filter j).length=l.length:=λl=>by
  induction l with
  | nil=>intro _;rfl
  | cons x l D=>
   intro h;have D:=D λy m=>h y (by simp[m])
   obtain⟨a,b,c⟩:=G.th_ne (G.gps_mem.mp (h x (by simp)))
   have d:(low r x=true/\z x=false/\j x=false)\/(low r x=false/\z x=true/\j x=false)\/(low r x=false/\z x=false/\j x=true):=by
    simp only[low,z,j,Aq,Bool.and_eq_false_iff,Am,Cb];exact V0 a b c
   rcases d with⟨U,J,M⟩ | ⟨U,J,M⟩ | ⟨U,J,M⟩ <;> simp only[List.filter_cons,U,J,M,if_true,Ay] <;> simp <;> lia
 have:=Y (gps r n) λ_ h=>h
 lia
theorem Good.rds_mem (G:Good n r):l∈rds r n↔∃p q,q∈r p/\l=lnd r p q:=by
 unfold rds;simp only[Aa8,Ap];constructor
 .rintro⟨x,⟨hx,hl⟩,rfl⟩;refine⟨x.1,x.2,G.gps_mem.mp hx,?_⟩;simp only[low,Aq,Am]at hl;unfold lnd nrm;rw[Ac hl]
 .rintro⟨p,q,hq,rfl⟩;obtain⟨a,b,c⟩:=G.th_ne hq;have m:=G.th_mem hq;have z:=G.th_rot hq;have j:=G.th_rot2 hq;unfold lnd nrm;by_cases h1:p<q/\p<TT.th r p q
  .rw[Ac h1];exact⟨(p,q),⟨G.gps_mem.mpr hq,by simp[low,h1]⟩,rfl⟩
  .rw[Ab h1];by_cases w:q<TT.th r p q/\q<p
   .rw[Ac w];exact⟨(q,TT.th r p q),⟨G.gps_mem.mpr m.1,by simp[low,z,w]⟩,by simp[z]⟩
   .rw[Ab w];exact⟨(TT.th r p q,p),⟨G.gps_mem.mpr m.2,by simp[low,j];lia⟩,by simp[j]⟩
theorem Good.rds_nd (G:Good n r):(rds r n).Nodup:=by
 unfold rds;rw[Ac6,Ae0];exact(Ac6.mp (G.gps_nd.filter _)).imp λ{x y} h e=>h (by
  simp only[Bj,and_true]at e;exact Prod.ext e.1 e.2.1)
end
def wys:AC->List (Nat×Nat)
 | [x,y,z]=>[(z,x),(x,y),(y,z)]
 | _=>[]
structure BS where
 rch:AA
 crs:List (Nat×Nat)
 row:List (Nat×Nat)
 k:Nat
def stp (r:Nat->AC)(sh:List (Nat×Nat))(s:BS):BS:=
 if s.k<s.row.length then
  if lnd r (s.row.getD s.k (0,0)).2 (s.row.getD s.k (0,0)).1∉s.rch/\s.row.getD s.k (0,0)∉sh/\((s.row.getD s.k (0,0)).2,(s.row.getD s.k (0,0)).1)∉sh then
   ⟨s.rch++[lnd r (s.row.getD s.k (0,0)).2 (s.row.getD s.k (0,0)).1],s.crs++[s.row.getD s.k (0,0)],s.row++wys (lnd r (s.row.getD s.k (0,0)).2 (s.row.getD s.k (0,0)).1),s.k+1⟩
  else⟨s.rch,s.crs,s.row,s.k+1⟩
 else s
def run (r:Nat->AC)(sh:List (Nat×Nat))(s:BS):Nat->BS
 | 0=>s
 | m+1=>stp r sh (run r sh s m)
def ini (l:AC):BS:=⟨[l],[],wys l,0⟩
def shP (sh:List (Nat×Nat))(p q:Nat):Prop:=(p,q)∈sh\/(q,p)∈sh
section
variable {n:Nat}{r:Nat->AC}{sh:List (Nat×Nat)}{a b:Nat}
theorem Good.wys_lnd (G:Good n r)(h:q∈r p):x∈wys (lnd r p q)↔(x=(p,q)\/x=(q,TT.th r p q)\/x=(TT.th r p q,p)):=by
 unfold lnd;rcases Q8 p q (TT.th r p q) with e | e | e <;> rw[e] <;> simp only[wys,Aa1,Ac2,or_false] <;> constructor <;> intro z <;> rcases z with z | z | z <;> simp[z]
theorem Good.wys_len (G:Good n r):(wys (lnd r p q)).length=3:=by
 unfold lnd;rcases Q8 p q (TT.th r p q) with e | e | e <;> rw[e] <;> rfl
theorem Good.wys_back (G:Good n r)(h:q∈r p)(j:x∈wys (lnd r p q)):x.2∈r x.1/\lnd r x.1 x.2=lnd r p q:=by
 have m:=G.th_mem h
 have w:=G.lnd_rot h
 have z:=G.lnd_rot m.1
 rw[G.th_rot h]at z;rcases (G.wys_lnd h).mp j with rfl | rfl | rfl
 .exact⟨h,rfl⟩
 .exact⟨m.1,w.symm⟩
 .exact⟨m.2,(w.trans z).symm⟩
structure BI (n:Nat)(r:Nat->AC)(sh:List (Nat×Nat))(a b:Nat)(s:BS):Prop where
 e:s.rch=lnd r a b::s.crs.map λx=>lnd r x.2 x.1
 nd:s.rch.Nodup
 rc:∀l∈s.rch,∃p q,q∈r p/\l=lnd r p q/\Rc r (shP sh) a b p q
 row:s.row=(s.rch.map wys).flatten
 k:s.k<=s.row.length
 cl:∀i,i<s.k->¬shP sh (s.row.getD i (0,0)).1 (s.row.getD i (0,0)).2->lnd r (s.row.getD i (0,0)).2 (s.row.getD i (0,0)).1∈s.rch
 tc:∀x∈s.crs,x.2∈r x.1
theorem BI.row_mem (G:Good n r)(B:BI n r sh a b s)(h:x∈s.row):x.2∈r x.1/\lnd r x.1 x.2∈s.rch/\Rc r (shP sh) a b x.1 x.2:=by
 rw[B.row]at h;obtain⟨l,U,m⟩:=List.mem_flatten.mp h;obtain⟨J,w,rfl⟩:=Aa8.mp U;obtain⟨p,q,z,rfl,j⟩:=B.rc J w;obtain⟨h1,X⟩:=G.wys_back z m;refine⟨h1,by rw[X];exact w,?_⟩
 have Y:=Rc.rot j (G.th z)
 have M:=Rc.rot Y (G.tri _ _ _ (G.th z))
 rcases (G.wys_lnd z).mp m with rfl | rfl | rfl
 .exact j
 .exact Y
 .exact M
theorem BI.row_len (B:BI n r sh a b s)(G:Good n r):s.row.length=3*s.rch.length:=by
 rw[B.row]
 have:∀l:AA,(∀x∈l,x∈s.rch)->(l.map wys).flatten.length=3*l.length:=λl=>by
  induction l with
  | nil=>intro _;rfl
  | cons x l z=>
   intro h;obtain⟨p,q,_,rfl,_⟩:=B.rc x (h x (by simp))
   simp[G.wys_len,z λy w=>h y (by simp[w])];lia
 exact this _ λ_ h=>h
theorem BI.sub (G:Good n r)(B:BI n r sh a b s):s.rch.length+4<=2*n:=by
 have h:=bV2 B.nd (m:=rds r n) λl w=>by
  obtain⟨p,q,z,e,_⟩:=B.rc l w;exact G.rds_mem.mpr ⟨p,q,z,e⟩
 have:=G.rds_len
 lia
theorem dO5 (G:Good n r)(h:b∈r a):BI n r sh a b (ini (lnd r a b)):=
 ⟨rfl,by simp[ini],λl w=>by simp[ini]at w;exact⟨a,b,h,w,.base⟩,by simp[ini],by simp[ini],λi hi=>by simp[ini]at hi,λx z=>by simp[ini]at z⟩
theorem bQ7 {α:Type}{l m:List α}{i:Nat}{d:α}(h:i<l.length):(l++m).getD i d=l.getD i d:=by
 rw[Ac0,Ac0,Bk h]
theorem BI.stp (G:Good n r)(B:BI n r sh a b s):BI n r sh a b (stp r sh s):=by
 unfold TT.stp;by_cases m:s.k<s.row.length
 .rw[Ac m];have U:s.row.getD s.k (0,0)∈s.row:=by rw[Ac0,Aa2 m];exact Di m
  generalize Y:s.row.getD s.k (0,0)=x at U;obtain⟨m1,m2,M⟩:=B.row_mem G U;by_cases j:lnd r x.2 x.1∉s.rch/\x∉sh/\(x.2,x.1)∉sh
  .rw[Ac j];have X:¬shP sh x.1 x.2:=λz=>z.elim j.2.1 j.2.2
   refine⟨?_,?_,λl hl=>?_,?_,?_,λi hi w=>?_,λy hy=>?_⟩
   .show s.rch++_=lnd r a b::(s.crs++[x]).map _
    rw[B.e];simp
   .show(s.rch++[_]).Nodup
    rw[Aa4];exact⟨B.nd,by simp,λy hy z J e=>j.1 (by rw[Ad8.mp J]at e;rw[<- e];exact hy)⟩
   .rcases Aa0.mp hl with hl | hl
    .exact B.rc l hl
    .exact⟨x.2,x.1,G.sym m1,Ad8.mp hl,.cross M m1 X⟩
   .show s.row++_=((s.rch++[_]).map wys).flatten
    rw[B.row];simp
   .show s.k+1<=(s.row++_).length
    rw[Ab7];lia
   .show lnd r ((s.row++_).getD i (0,0)).2 ((s.row++_).getD i (0,0)).1∈s.rch++[_]
    have hi:i<s.k+1:=hi
    rw[bQ7 (by lia)]
    have w:¬shP sh ((s.row++_).getD i (0,0)).1 ((s.row++_).getD i (0,0)).2:=w
    rw[bQ7 (by lia)]at w
    rcases Ct i s.k with z | z
    .exact Al _ (B.cl i z w)
    .obtain rfl:i=s.k:=by lia
     rw[Y];simp
   .rcases Aa0.mp hy with hy | hy
    .exact B.tc y hy
    .rw[Ad8.mp hy];exact m1
  .rw[Ab j];refine⟨B.e,B.nd,B.rc,B.row,m,λi hi w=>?_,B.tc⟩
   have hi:i<s.k+1:=hi
   rcases Ct i s.k with z | z
   .exact B.cl i z w
   .obtain rfl:i=s.k:=by lia
    show lnd r (s.row.getD s.k (0,0)).2 (s.row.getD s.k (0,0)).1∈s.rch
    have w:¬shP sh (s.row.getD s.k (0,0)).1 (s.row.getD s.k (0,0)).2:=w
    rw[Y]at w ⊢;exact Classical.byContradiction λz=>j ⟨z,λh=>w (.inl h),λh=>w (.inr h)⟩
 .rw[Ab m];exact B
theorem aC3 (G:Good n r)(h:b∈r a):∀m,BI n r sh a b (run r sh (ini (lnd r a b)) m)
 | 0=>dO5 G h
 | m+1=>(aC3 G h m).stp G
theorem bX1 (h:s.row.length<=s.k):stp r sh s=s:=by unfold stp;rw[Ab (by lia)]
theorem cG9 (G:Good n r)(h:b∈r a):∀m,(run r sh (ini (lnd r a b)) m).k=m\/((run r sh (ini (lnd r a b)) m).row.length=(run r sh (ini (lnd r a b)) m).k/\(run r sh (ini (lnd r a b)) m).k<=m)
 | 0=>.inl rfl
 | m+1=>by
  have B:=aC3 G h (sh:=sh) m
  show(stp r sh (run r sh (ini (lnd r a b)) m)).k=m+1\/_
  rcases Ct (run r sh (ini (lnd r a b)) m).k (run r sh (ini (lnd r a b)) m).row.length with z | z
  .rcases cG9 G h m with e | e
   .left
    unfold stp;rw[Ac z];split <;> (show _+1=m+1;rw[e])
   .lia
  .right
   show(stp r sh (run r sh (ini (lnd r a b)) m)).row.length=(stp r sh (run r sh (ini (lnd r a b)) m)).k/\(stp r sh (run r sh (ini (lnd r a b)) m)).k<=m+1
   rw[bX1 z]
   have:=B.k
   rcases cG9 G h m with e | e <;> lia
theorem bL4 (h:(run r sh s m).row.length<=(run r sh s m).k):∀j,run r sh s (m+j)=run r sh s m
 | 0=>rfl
 | j+1=>by show stp r sh (run r sh s (m+j))=_;rw[bL4 h j,bX1 h]
def fin (r:Nat->AC)(sh:List (Nat×Nat))(a b:Nat):BS:=run r sh (ini (lnd r a b)) (100+(r a).length)
theorem dO9 (G:Good n r)(h:b∈r a)(w:n<=10):(fin r sh a b).row.length=(fin r sh a b).k:=by
 have B:=aC3 G h (sh:=sh) (100+(r a).length)
 have l:=B.row_len G
 have s:=B.sub G
 have:=B.k
 rcases cG9 G h (sh:=sh) (100+(r a).length) with e | e
 .unfold fin;lia
 .exact e.1
theorem fin_of (G:Good n r)(h:b∈r a)(j:n<=10)(z:m<=100)(w:(run r sh (ini (lnd r a b)) m).row.length<=(run r sh (ini (lnd r a b)) m).k):run r sh (ini (lnd r a b)) m=fin r sh a b:=by
 unfold fin;rw[show 100+(r a).length=m+(100+(r a).length-m) by lia,bL4 w]
theorem cA7 (G:Good n r)(h:b∈r a)(Y:n<=10):l∈(fin r sh a b).rch↔∃p q,q∈r p/\l=lnd r p q/\Rc r (shP sh) a b p q:=by
 have B:=aC3 G h (sh:=sh) (100+(r a).length)
 have m:=dO9 G h (sh:=sh) Y
 constructor
 .exact B.rc l
 .rintro⟨p,q,hq,rfl,w⟩;have z:∀{p q},Rc r (shP sh) a b p q->q∈r p/\lnd r p q∈(fin r sh a b).rch:=λw=>by
   induction w with
   | base=>exact⟨h,by show _∈(run r sh (ini (lnd r a b)) (100+(r a).length)).rch;rw[B.e];simp⟩
   | @rot q x y _ ha ih=>
    have e:=G.th_un ha
    refine⟨(C6 (G.tri _ _ _ ha)).1,?_⟩;rw[e,<- G.lnd_rot ih.1];exact ih.2
   | @cross p q _ hq hs ih=>
    refine⟨G.sym hq,?_⟩;have X:(p,q)∈(fin r sh a b).row:=by
     show(p,q)∈(run r sh (ini (lnd r a b)) (100+(r a).length)).row
     rw[B.row];exact List.mem_flatten.mpr ⟨_,Aa8.mpr ⟨_,ih.2,rfl⟩,(G.wys_lnd hq).mpr (.inl rfl)⟩
    obtain⟨i,hi,e⟩:=List.getElem_of_mem X;have j:(fin r sh a b).row.getD i (0,0)=(p,q):=by rw[Ac0,Aa2 hi,e];rfl
    have:=B.cl i (by have:=m;unfold fin at this;unfold fin at hi;lia)
    unfold fin at j;rw[j]at this;exact this hs
  exact(z w).2
theorem dR0 (G:Good n r)(h:b∈r a):(fin r sh a b).rch=lnd r a b::(fin r sh a b).crs.map λx=>lnd r x.2 x.1:=(aC3 G h (sh:=sh) (100+(r a).length)).e
theorem dB0 (G:Good n r)(h:b∈r a):(fin r sh a b).rch.length+4<=2*n:=(aC3 G h (sh:=sh) (100+(r a).length)).sub G
theorem dL8 (G:Good n r)(h:b∈r a):∀x∈(fin r sh a b).crs,x.2∈r x.1:=(aC3 G h (sh:=sh) (100+(r a).length)).tc
theorem V1 {sh sh':Nat->Nat->Prop}(S:∀p q,q∈r p->p∈r q)(tri:∀q a b,adj (r q) a b->adj (r a) b q)(Y:b∈r a)(h:∀p q,q∈r p->(sh p q↔sh' p q)){p q:Nat}(X:Rc r sh a b p q):Rc r sh' a b p q:=by
 induction X with
 | base=>exact .base
 | rot _ m w=>exact .rot w m
 | cross _ j U w=>exact .cross w j λz=>U ((h _ _ j).mpr z)
theorem Good.inner_len (G:Good n r):((rds r n).filter λl=>decide (l≠[0,2,1])).length+5=2*n:=by
 have h:=G.rds_len
 have w:[0,2,1]∈rds r n:=G.rds_mem.mpr ⟨0,2,(C6 G.outs.1).1,by
  have:=G.th_un G.outs.1
  unfold lnd;rw[<- this];rfl⟩
 have nd:=G.rds_nd
 generalize rds r n=L at h w nd;have j:∀L:AA,L.Nodup->[0,2,1]∈L->(L.filter λl=>decide (l≠[0,2,1])).length+1=L.length:=λL=>by
  induction L with
  | nil=>intro _ h;cases h
  | cons x L Y=>
   intro nd w;rw[Aa5]at nd;by_cases e:x=[0,2,1]
   .subst e;rw[List.filter_cons,Ab (by simp),List.filter_eq_self.mpr λy m=>by simp;intro z;exact nd.1 (z▸m)];rfl
   .rw[List.filter_cons,Ac (by simpa using e),Ay,Ay,Y nd.2 (by rcases Aa1.mp w with z | z;exact absurd z.symm e;exact z)]
 have:=j L nd w
 lia
end
end TT
namespace L2
open PySem PySem.Spec PyProof.Rows
abbrev qn (κ:Bool):String:=match κ with | true => "list_iterator" | false => "tuple_iterator"
section
theorem bL8 {l b:Addr}{h h':Heap}{xs:AJ}(H:h.IsTuple l xs)(k:∀o,h.get? l=some o->h'.get? l=some o):h'.IsTuple l xs:=by
 obtain⟨o,e,r⟩:=H;exact⟨o,k o e,r⟩
abbrev zT1 (κ:Bool)(h:Heap)(l1:Addr):Heap:=h.push {cls:=.type (qn κ),data:=.fields #[.ref l1,.int 0 0]}
abbrev zT2 (κ:Bool)(h:Heap)(l1 l2:Addr):Heap:=(zT1 κ h l1).push {cls:=.type "tuple_iterator",data:=.fields #[.ref l2,.int 0 0]}
abbrev zT3 (κ:Bool)(h:Heap)(l1 l2:Addr):Heap:=(zT2 κ h l1 l2).push {cls:=.type "tuple",data:=.seq #[.ref h.objs.size,.ref (zT1 κ h l1).objs.size]}
abbrev zT4 (κ:Bool)(h:Heap)(l1 l2:Addr):Heap:=(zT3 κ h l1 l2).push {cls:=.type "tuple",data:=.seq #[.none,.none]}
abbrev zT5 (κ:Bool)(h:Heap)(l1 l2:Addr):Heap:=(zT4 κ h l1 l2).push {cls:=.type "zip",data:=.fields #[.none,.bool false,.bool false,.ref (zT2 κ h l1 l2).objs.size,.ref (zT3 κ h l1 l2).objs.size]}
end
end L2
namespace LV
open PySem PySem.Spec PyProof.Rows L2
end LV
namespace L2
open PySem PySem.Spec PyProof.Rows
open PySem.Builtin PySem.Builtin.Str
end L2
namespace LV
open PySem PySem.Spec PyProof.Rows L2
end LV
namespace L2
open PySem PySem.Spec PyProof.Rows
abbrev bmV:AG:=[.type "ValueError",.type "Exception",.type "BaseException",.type "object"]
abbrev Cx.markd (X:Cx)(e:Value):Cx:={X with A:=X.A.mark (some e),calm:=false,xe:=λ_ _=>False}
abbrev cxU (P:Program)(w:World)(K:Frag)(mg:Str->Option Value)(base:Heap)(N:AH)(qual:Str)(scope:Scope)(f:Addr)(cd:Value)(A:Around)(outer:List Env)(s:Shared)(H:Hp)(E:XK):Cx:=
 {bV1 CX0 P w K mg base N qual scope f cd A outer s H E with calm:=false,xe:=λ_ _=>False}
end L2
namespace LV
open PySem PySem.Spec PyProof.Rows L2
end LV
namespace L2
open PySem PySem.Spec PyProof.Rows
section
theorem cN7 (J:A.handled=none)(m:s.heap.IsTuple l (intItems xs))(Y:0<xs.size)
  (h:∀v h' tk,(intItems xs)[argBest (λi j=>decide (numAt xs i<numAt xs j)) (xs.size-1)]? = some v->(∀b o,s.heap.get? b=some o->h'.get? b=some o)->Q v {s with heap:=h',toks:=tk}):wpAny (model P w) A (call (.builtin "min") [.ref l]) Q E s:=by
 have z:l<s.heap.objs.size:=by obtain⟨_,e,_⟩:=m;exact Ab3 e
 refine call_min_walk (wpAny_pyIter_tuple m ?_);refine⟨_,_,_,_,_,_,_,rfl,Walks.tuple (A:=A.in1) J _ l (Ab9 z) (intItems xs),⟨⟨_,Ac3 _ rfl,rfl,rfl⟩,bL8 (b:=l) m λo e=>Aa6 _ e⟩,λb X=>?_,by simpa[intItems]using Y,CmpOf.ints_lt (numAt xs) (λ_ _=>intItems_at),λv h' tk U M=>?_⟩
 .show b<(s.heap.push _).objs.size
  rw[Dl];simp only[Aa1,Ac2,or_false]at X;rcases X with rfl | rfl
  .exact Nat.lt_succ_self _
  .exact Dm z
 .exact h v h' tk (by simpa[intItems]using U) λb o e=>M b o (λN=>by
   have e1:b=s.heap.objs.size:=by simpa using N
   exact absurd (e1▸Ab3 e) (Ad9 _)) (Aa6 _ e)
theorem cE5 (K:Frag)(R:X.calm=true)(h:X.K=K:=by rfl):V2 X (.builtin "min") (λxs H Q=>∃(p:Addr) (l:AD),xs=[.ref p]/\SqT K H p (l.map V.int)/\l≠[]/\∀M,M∈l->(∀a∈l,M<=a)->Q (.int M) H):=by
 subst h;intro aA s σ H xs us Q I r ⟨p,ns,e,B,z,q⟩;subst e;obtain⟨u,rfl,rx⟩:=X4 r;cases rx;obtain⟨its,rv,J,_⟩:=I.tuple B;have hi:=LV.O7 rv;obtain⟨xs,e⟩:=hi.allInts.items;have w:ns=xs.toList.map (·.1):=by rw[<- hi.numsOf,<- nums_intItems,<- e]
 have m:0<xs.size:=by
  have Y:=Dc.mpr z;rw[w,Aa3,Ax]at Y;exact Y
 rw[e]at J;refine cN7 (I.ok.hd R) J m λv h' tk P F=>?_
 obtain⟨t,rfl⟩:=intItems_at P;obtain⟨h1,N⟩:=argBest_lt (numAt xs) (xs.size-1);refine⟨.int _,H,I.kept F,⟨_,rfl⟩,q _ ?_ λa U=>?_⟩
 .rw[w,numAt_eq];exact getD_mem (by rw[Aa3,Ax];lia)
 .rw[w]at U;obtain⟨j,D,rfl⟩:=mem_getD U;rw[Aa3,Ax]at D;rw[<- numAt_eq];exact N j (by lia)
end
end L2
namespace LV
open PySem PySem.Spec PyProof.Rows L2
section
variable {K:Frag}{ρ:List Sl}{m:Bool}{t ta tb:TE}{d d':PyData}{ds es:AF}
theorem dI3 {t:TA}{l:AD}{M:Int}(Y:A K false t ρ [tI l])(w:M∈l/\∀a∈l,M<=a):E K m (tCB (λxs H Q=>∃(p:Addr) (l:AD),xs=[.ref p]/\SqT K H p (l.map V.int)/\l≠[]/\∀M,M∈l->(∀a∈l,M<=a)->Q (.int M) H) t) ρ (.int M):=cE8 Y λH vs Q r q=>by
 cases r with
 | cons a b=>
  cases b
  obtain⟨p,rfl,s⟩:=bJ3 a;refine⟨p,l,rfl,s,List.ne_nil_of_mem w.1,λz h1 j=>?_⟩
  have:z=M:=Int.le_antisymm (j M w.1) (w.2 z h1)
  rw[this];exact q _ λ_=>.int _
end
end LV
namespace K39
open PySem L2 LV PyProof.Rows
theorem aD4:C2 ["ring"] ["ring"] (B3 Q4):={}
theorem aZ3:C2 ["ring"] ["ring"] (B3 t7):={}
theorem bM9:C2 ["turn", "place"] ["turn", "place"] (B3 aG5):={}
theorem M0:C2 ["turns", "p", "q", "corners", "here", "there", "behind"] ["turns", "p", "q"] (B3 o8):={}
theorem bS1:C2 ["drawing", "p", "q"] ["drawing", "p", "q"] (B3 aO4):={}
theorem aR6:C2 ["drawing", "p", "q"] ["drawing", "p", "q"] (B3 Y2):={}
theorem aE5:C2 ["ring", "first", "at"] ["ring", "first"] (B3 p5):={}
theorem bX0 (l:AC)(k:Nat):(nI l).drop k=nI (l.drop k):=by simp[nI]
theorem cV0 (l:AC)(k:Nat):(nI l).take k=nI (l.take k):=by simp[nI]
def dR8 (ds:AF)(d:PyData):Prop:=∃(l:AC) (x:Nat),x∈l/\l.length<=10000/\ds=[tN l,.int (x:Int)]/\d=tN (l.drop (l.idxOf x)++l.take (l.idxOf x))
def wys (x y z:Int):List (Int×Int):=[(z,x),(x,y),(y,z)]
def bE4 (ds es:AF):Prop:=∃x y z:Int,ds=[tI [x,y,z]]/\es=(wys x y z).map pD
def fWy (x y z:Int):PyData->Option PyData
 | .int k=>some (pD (if k=0 then(z,x) else if k=1 then(x,y) else(y,z)))
 | _=>none
def dR1 (ds:AF)(d:PyData):Prop:=∃x y z:Nat,x≠y/\y≠z/\x≠z/\ds=[tN [x,y,z]]/\d=tN (TT.nrm x y z)
def dQ5 (ds:AF)(d:PyData):Prop:=∃(l:AC) (x:Nat),x∈l/\l.length<=10000/\ds=[tN l,.int (x:Int)]/\d=.int (TT.prd l x:Nat)
def dU5 (ds:AF)(d:PyData):Prop:=∃(m:Nat) (dr tr:AA) (p q:Nat),Dw m dr tr/\q∈TT.trn dr p/\ds=[tD dr,.int (p:Int),.int (q:Int)]/\d=tN [p,q,TT.th (TT.trn dr) p q]
def dV1 (ds:AF)(d:PyData):Prop:=∃(m:Nat) (dr tr:AA) (p q:Nat),Dw m dr tr/\q∈TT.trn dr p/\ds=[tD dr,.int (p:Int),.int (q:Int)]/\d=.int (TT.th (TT.trn dr) p q:Nat)
def dE4 (ds:AF)(d:PyData):Prop:=∃(m:Nat) (dr tr:AA) (p q:Nat),Dw m dr tr/\q∈TT.trn dr p/\ds=[tD dr,.int (p:Int),.int (q:Int)]/\d=tN (TT.lnd (TT.trn dr) p q)
theorem cL7 (h:x∈l):atI (nI l) ((l.idxOf x:Nat)-1:Int)=some (.int (TT.prd l x:Nat)):=by
 have m:=Ai.mpr h
 unfold TT.prd;by_cases e:l.idxOf x=0
 .rw[Ac e,e];have w:l=l.dropLast++[TT.gi l (l.length-1)]:=by
   have h1:=List.dropLast_concat_getLast (l:=l) (by intro z;rw[z]at h;cases h)
   have j:TT.gi l (l.length-1)=l.getLast (by intro z;rw[z]at h;cases h):=by
    unfold TT.gi;rw[Ac0,Aa2 (by lia),List.getLast_eq_getElem];rfl
   rw[j];exact h1.symm
  generalize TT.gi l (l.length-1)=y at w;rw[w,aG7];exact r9
 .rw[Ab e];refine U1 (l.idxOf x-1) (by lia) ?_
  unfold nI;rw[Aa9,TT.aE6 (by lia)];rfl
theorem Dw.good (h:Dw m dr tr):TT.Good (m+3) (TT.trn dr):=h.gd.good
theorem Dw.tle (h:Dw m dr tr)(p:Nat):(TT.trn dr p).length<=10:=by
 have:=TT.cQ9 (h.good.nd p) (h.good.lt p)
 have:=h.m7
 lia
theorem Dw.lt (h:Dw m dr tr)(w:q∈TT.trn dr p):p<m+3:=by
 rcases Ct p (m+3) with z | z
 .exact z
 .rw[h.good.hi p z]at w;cases w
theorem Dw.at_ (h:Dw m dr tr)(hp:p<m+3):atI (dr.map tN) (p:Int)=some (tN (TT.trn dr p)):=
 U1 p rfl (by rw[Aa9,cM6 (by rw[h.len];exact hp)];rfl)
section
variable {P:Program}{w:World}{K:Frag}{mg:Str->Option Value}{base:Heap}{a:Ad}
theorem aZ5 (T:Tx K mg a):K3 P w K mg base CX0 1 a.aI2 a.aN3 ["ring", "first"] (spV K dR8):=by
 refine T.aM4.F.ok aE5 (W3 (by rintro ds d ⟨_,_,_,_,rfl,_⟩;rfl)) (λU A j s H vs Q E N h=>?_)
 obtain⟨ds,S,d,J,r,⟨l,x,X,M,rfl,rfl⟩,q⟩:=h;refine⟨_,(A6 (psS 2 aE5 (K0 PySem.F.plainAttrs_tuple PySem.F.slot_tuple_index PySem.F.type_tuple_index (aP0 K) (pv 0) (A0 (pv 1) A5)))
   (B1 (C8 (B7 (cI7 K) (X0 (dR7 K) (pv 0) (U3 (pv 2)) aS4) (X0 (dR7 K) (pv 0) aS4 (U3 (pv 2))))))),K7 J r ?_ q⟩
 have Y:l.idxOf x<l.length:=Ac4 X
 refine B2 (F3 (d:=.int (l.idxOf x:Nat)) ?_ ?_)
 .have h:=aU9 (K:=K) (m:=true) (ρ:=sl0 ["ring", "first", "at"].length [tI (l.map λ(x:Nat)=>(x:Int)),.int (x:Int)]) (ta:=C4 0) (tb:=C4 1) (k:=(x:Int)) v0 v1 (Aa8.mpr ⟨x,X,rfl⟩)
  rw[aA3 x l]at h;rw[aY2];exact h
 refine L6 (dK1 (dD1 (ds:=nI l) (A9 rfl) (e7 (A9 rfl)) bJ4 (K9 l)) (dD1 (ds:=nI l) (A9 rfl) bJ4 (e7 (A9 rfl)) (K9 l)) (U5 _ _ (K9 l)) (U5 _ _ (K9 l)) ?_ ?_) ?_
 .rw[aY9 (by rw[F7];lia),bX0]
  intro z
  have:=congrArg List.length z
  rw[F7,Bs]at this;simp at this
  lia
 .rw[aY9 (by rw[F7];lia),bF4 (by rw[F7];lia),Bs,Ad1,F7];unfold sizeLine;lia
 .show PyData.tuple _=tN _
  rw[aY9 (by rw[F7];lia),bF4 (by rw[F7];lia),bX0,cV0,<- aG7]
  rfl
theorem aS5 (T:Tx K mg a):K3 P w K mg base CX0 1 a.aK4 a.aH9 ["ring"] (spL K bE4):=by
 refine T.P0.F.ok aZ3 (aR3 (by rintro ds d ⟨_,_,_,rfl,_⟩;rfl)) (λX A Y s H vs Q E R h=>?_)
 obtain⟨ds,S,N,J,r,⟨x,y,z,rfl,rfl⟩,q⟩:=h;refine⟨_,(B1 (C8 (N2 (T:=["k"]) (N':=["k", "ring"]) (is:=[0]) rfl (.of rfl rfl rfl (by exact⟨rfl,trivial⟩) rfl rfl rfl (by exact⟨⟨_,rfl,by first | exact .inl rfl | exact .inr rfl,by first | exact .inl rfl | exact .inr rfl⟩,trivial⟩)) (K2 rfl T.L9 (A0 (B6 (aJ0 K) (by rfl) T.O3 Aw (A0 (pv 0) A5)) A5)) (J0 (by decide)) λ_ _ _ _=>⟨(E9 (i:=0) (by decide +kernel:(["k", "ring"]:AH).Nodup) rfl (Or.inl rfl)),N7,(D3 (A0 (B5 (ixK K) (pv 1) (B7 U2 (pv 0) A7) (λ_ _=>rfl)) (A0 (B5 (ixK K) (pv 1) (pv 0) (λ_ _=>rfl)) A5)))⟩))),W0 J r ?_ q⟩
 have U:=J7 (K:=K) (m:=true) (ρ:=sl0 ["ring"].length [tI [x,y,z]]) (n:=1) (is:=[0]) (g:=F5 0) (tt:=aM1) (te:=aL8 (C9 (tOp (rIx K) (C4 1) (tOp (rI0 λi j=>.int (i-j)) (C4 0) (tC (.int 1)))) (C9 (tOp (rIx K) (C4 1) (C4 0)) O1))) (fWy x y z) (T3 (j:=3) (A4 (P4 (ds:=[.int x,.int y,.int z]) (A4 v0 A8)) A8) (by lia) (by lia)) (by decide) (λd M=>by
  obtain⟨i,hi⟩:=List.mem_iff_getElem?.mp M;obtain⟨rfl,hi⟩:=U0 hi;refine⟨_,B4,y9,?_⟩;have hi:i<3:=by lia
  rcases (show i=0\/i=1\/i=2 by lia) with rfl | rfl | rfl
  .exact G1 (A4 (E7 (i:=((0:Nat):Int)-1) (d':=.int z) (ds:=[.int x,.int y,.int z]) v1 (N0 (g:=λi j=>i-j) v0 B0) rfl rfl) (A4 (E7 (i:=0) (d':=.int x) (ds:=[.int x,.int y,.int z]) v1 v0 rfl rfl) A8))
  .exact G1 (A4 (E7 (i:=((1:Nat):Int)-1) (d':=.int x) (ds:=[.int x,.int y,.int z]) v1 (N0 (g:=λi j=>i-j) v0 B0) rfl rfl) (A4 (E7 (i:=1) (d':=.int y) (ds:=[.int x,.int y,.int z]) v1 v0 rfl rfl) A8))
  .exact G1 (A4 (E7 (i:=((2:Nat):Int)-1) (d':=.int y) (ds:=[.int x,.int y,.int z]) v1 (N0 (g:=λi j=>i-j) v0 B0) rfl rfl) (A4 (E7 (i:=2) (d':=.int z) (ds:=[.int x,.int y,.int z]) v1 v0 rfl rfl) A8)))
 exact u4 U rfl
theorem cS9 (T:Tx K mg a):K3 P w K mg base CX0 2 a.Z4 a.Y8 ["ring"] (spV K dR1):=by
 have j := @aZ5 P w K mg base a T
 refine T.Y3.F.ok aD4 (W3 (by rintro ds d ⟨_,_,_,_,_,_,rfl,_⟩;rfl)) (λB A X s H vs Q E hr h=>?_)
 obtain⟨ds,S,d,hS,r,⟨x,y,z,h1,N,R,rfl,rfl⟩,q⟩:=h;refine⟨_,(B1 (C8 (pcl j hr T.aM4 (A0 (pv 0) (A0 (B6 (cE5 K rfl) (by rfl) T.bZ8 boot_min (A0 (pv 0) A5)) A5))))),K7 hS r ?_ q⟩
 obtain⟨M,D,Y,hn⟩:∃M:Nat,M∈[x,y,z]/\(∀c∈[(x:Int),(y:Int),(z:Int)],(M:Int)<=c)/\[x,y,z].drop ([x,y,z].idxOf M)++[x,y,z].take ([x,y,z].idxOf M)=TT.nrm x y z:=by
  unfold TT.nrm;by_cases U:x<y/\x<z
  .rw[Ac U];exact⟨x,by simp,λc m=>by simp at m;lia,by simp⟩
  .rw[Ab U];by_cases J:y<z/\y<x
   .rw[Ac J];exact⟨y,by simp,λc m=>by simp at m;lia,by rw[show [x,y,z].idxOf y=1 from TT.G5 (p:=[x]) (s:=[z]) (by simp[h1,N,R]) rfl];rfl⟩
   .rw[Ab J];exact⟨z,by simp,λc m=>by simp at m;lia,by rw[show [x,y,z].idxOf z=2 from TT.G5 (p:=[x,y]) (s:=[]) (by simp[h1,N,R]) rfl];rfl⟩
 refine L6 (D7 (A4 v0 (A4 (dI3 (l:=[(x:Int),(y:Int),(z:Int)]) (M:=(M:Int)) (A4 v0 A8) ⟨by simp at D ⊢;lia,Y⟩) A8)) ⟨[x,y,z],M,D,by simp,rfl,rfl⟩) ?_
 rw[hn]
theorem bP1 (T:Tx K mg a):K3 P w K mg base CX0 1 a.aU1 a.aW9 ["turn", "place"] (spV K dQ5):=by
 refine T.aG1.F.ok bM9 (W3 (by rintro ds d ⟨_,_,_,_,rfl,_⟩;rfl)) (λX A z s H vs Q E M h=>?_)
 obtain⟨ds,S,d,U,r,⟨l,x,Y,J,rfl,rfl⟩,q⟩:=h;refine⟨_,(B1 (C8 (B5 (ixK K) (pv 0) (B7 U2 (K0 PySem.F.plainAttrs_tuple PySem.F.slot_tuple_index PySem.F.type_tuple_index (aP0 K) (pv 0) (A0 (pv 1) A5)) A7) (λ_ _=>rfl)))),K7 U r ?_ q⟩
 have h:=aU9 (K:=K) (m:=false) (ρ:=sl0 ["turn", "place"].length [tI (l.map λ(x:Nat)=>(x:Int)),.int (x:Int)]) (ta:=C4 0) (tb:=C4 1) (k:=(x:Int)) v0 v1 (Aa8.mpr ⟨x,Y,rfl⟩)
 rw[aA3 x l,<- aY2]at h;exact L6 (E7 (ds:=nI l) v0 (N0 (g:=λi j=>i-j) h B0) rfl (cL7 Y)) rfl
theorem cM1 (T:Tx K mg a):K3 P w K mg base CX0 2 a.aN2 a.aH5 ["turns", "p", "q"] (spV K dU5):=by
 have X := @bP1 P w K mg base a T
 refine T.aJ1.F.ok M0 (W3 (by rintro ds d ⟨_,_,_,_,_,_,_,rfl,_⟩;rfl)) (λD A N s H vs Q E hr h=>?_)
 obtain⟨ds,S,d,B,r,⟨m,Y,tr,p,z,U,J,rfl,rfl⟩,q⟩:=h;refine⟨_,(A6 (psS 3 M0 (D0 (A0 (pv 1) A5)))
   (A6 (psS 4 M0 (pv 1))
   (A6 (psS 5 M0 (pv 2))
   (B1 (U6 Aj (O5 V4) (A6 (psS 6 M0 (pcl X hr T.aG1 (A0 (B5 (ixK K) (pv 0) (pv 5) (λ_ _=>rfl)) (A0 (pv 4) A5))))
   (A6 (M1 (PW.pt (o7 (C0 aP9 (pv 5) (pv 1) (F6 _)) (aL6 (C0 aP9 (pv 6) (pv 2) (F6 _))))) (B1 (C8 (L4 (cK2 K) (by rfl) T.P1 boot_tuple (A0 (pv 3) A5)))) E8)
   (A6 (E5 (K0 Ab1 Ag Af D2 (pv 3) (A0 (pv 5) A5)))
   (A6 (psS 4 M0 (pv 5))
   (B1 (psS 5 M0 (pv 6)))))))))))),K7 B r ?_ q⟩
 have G:=U.good
 obtain⟨n1,n2,n3⟩:=G.th_ne J;obtain⟨m1,m2⟩:=G.th_mem J;have r1:=G.th_rot J;have r2:=G.th_rot2 J;have R:=G.sym J;have s2:=G.sym m1;have s3:=G.sym m2;have lp:=U.lt J;have lq:=U.lt R;have lt:=U.lt m2;generalize ht:TT.th (TT.trn Y) p z=t at *;refine B2 (E4 (F4 (A4 (A9 rfl) A8)) ?_ (show 3<7 by decide))
 refine B2 (F3 v1 ?_);refine B2 (F3 v2 ?_);refine p8 (λk ρ=>∃M,M.nb=true/\((k=3/\ρ=[vD Y,vI (p:Int),vI (z:Int),.own (nI [p]),vI (p:Int),vI (z:Int),M])\/(k=2/\ρ=[vD Y,vI (p:Int),vI (z:Int),.own (nI [p,z]),vI (z:Int),vI (t:Int),M])\/(k=1/\ρ=[vD Y,vI (p:Int),vI (z:Int),.own (nI [p,z,t]),vI (t:Int),vI (p:Int),M]))) ⟨3,.no,rfl,.inl ⟨rfl,rfl⟩⟩ ?_
 rintro k ρ' ⟨M,b6,⟨rfl,rfl⟩ | ⟨rfl,rfl⟩ | ⟨rfl,rfl⟩⟩
 .refine⟨true,t_b aX9,?_⟩;rw[Ac rfl];refine B2 (F3 (d:=.int (t:Int)) (D7 (A4 (E7 (ds:=Y.map tN) v0 v5 rfl (U.at_ lq)) (A4 v4 A8)) ⟨TT.trn Y z,p,R,by have:=U.tle z;lia,rfl,by rw[show TT.prd (TT.trn Y z) p=t from ht]⟩) ?_)
  show W K _ [vD Y,vI (p:Int),vI (z:Int),.own (nI [p]),vI (p:Int),vI (z:Int),vI (t:Int)] _
  refine B2 (U8 (z5 (C3 (j4 (i:=(z:Int)) (j:=(p:Int)) v5 v1)) λh=>(C3 (j4 (i:=(t:Int)) (j:=(z:Int)) v6 v2))) (λh=>?_) (λh=>F9 ?_))
  .exfalso;simp at h;lia
  refine B2 (G8 (d:=.int (z:Int)) rfl v5 (by simp[nI];unfold sizeLine;lia) ?_)
  show W K _ [vD Y,vI (p:Int),vI (z:Int),.own (nI ([p]++[z])),vI (p:Int),vI (z:Int),vI (t:Int)] _
  refine B2 (F3 v5 ?_);refine F3 v6 ⟨2,by lia,vI (t:Int),rfl,?_⟩
  exact .inr (.inl ⟨rfl,rfl⟩)
 .refine⟨true,t_b aX9,?_⟩;rw[Ac rfl];refine B2 (F3 (d:=.int (p:Int)) (D7 (A4 (E7 (ds:=Y.map tN) v0 v5 rfl (U.at_ lt)) (A4 v4 A8)) ⟨TT.trn Y t,z,s2,by have:=U.tle t;lia,rfl,by rw[show TT.prd (TT.trn Y t) z=p from r1]⟩) ?_)
  show W K _ [vD Y,vI (p:Int),vI (z:Int),.own (nI [p,z]),vI (z:Int),vI (t:Int),vI (p:Int)] _
  refine B2 (U8 (z5 (C3 (j4 (i:=(t:Int)) (j:=(p:Int)) v5 v1)) λh=>(C3 (j4 (i:=(p:Int)) (j:=(z:Int)) v6 v2))) (λh=>?_) (λh=>F9 ?_))
  .exfalso;simp at h;lia
  refine B2 (G8 (d:=.int (t:Int)) rfl v5 (by simp[nI];unfold sizeLine;lia) ?_)
  show W K _ [vD Y,vI (p:Int),vI (z:Int),.own (nI ([p,z]++[t])),vI (z:Int),vI (t:Int),vI (p:Int)] _
  refine B2 (F3 v5 ?_);refine F3 v6 ⟨1,by lia,vI (p:Int),rfl,?_⟩
  exact .inr (.inr ⟨rfl,rfl⟩)
 .refine⟨true,t_b aX9,?_⟩;rw[Ac rfl];refine B2 (F3 (d:=.int (z:Int)) (D7 (A4 (E7 (ds:=Y.map tN) v0 v5 rfl (U.at_ lp)) (A4 v4 A8)) ⟨TT.trn Y p,t,s3,by have:=U.tle p;lia,rfl,by rw[show TT.prd (TT.trn Y p) t=z from r2]⟩) ?_)
  show W K _ [vD Y,vI (p:Int),vI (z:Int),.own (nI [p,z,t]),vI (t:Int),vI (p:Int),vI (z:Int)] _
  refine B2 (U8 (z5 (C3 (j4 (i:=(p:Int)) (j:=(p:Int)) v5 v1)) λh=>(C3 (j4 (i:=(z:Int)) (j:=(z:Int)) v6 v2))) (λh=>L6 (W6 (ds:=nI [p,z,t]) (A4 (F2 rfl) A8) (K9 _)) rfl) (λh=>?_))
  exfalso;simp at h
theorem cZ6 (T:Tx K mg a):K3 P w K mg base CX0 2 a.bD4 a.bC0 ["drawing", "p", "q"] (spV K dV1):=by
 have j := @bY6 P w K mg base a T
 have z := @bP1 P w K mg base a T
 refine T.bA8.F.ok bS1 (W3 (by rintro ds d ⟨_,_,_,_,_,_,_,rfl,_⟩;rfl)) (λB A N s H vs Q E R h=>?_)
 obtain⟨ds,S,d,hS,r,⟨m,U,tr,p,X,Y,J,rfl,rfl⟩,q⟩:=h;refine⟨_,(A6 (M1 (V7 (O5 (pcl j R T.bT4 (A0 (pv 0) (A0 (pv 1) (A0 (pv 2) A5)))))) aO5 E8)
   (B1 (C8 (pcl z R T.aG1 (A0 (B5 (ixK K) (pv 0) (pv 2) (λ_ _=>rfl)) (A0 (pv 1) A5)))))),K7 hS r ?_ q⟩
 have G:=Y.good
 have D:=G.sym J
 have lp:=Y.lt J
 have lq:=Y.lt D
 have M:td U (p:Int) (X:Int)=true:=by
  unfold td
  have:=Y.len
  simp only[Aq,Am,Ac8];exact⟨⟨by lia,by lia⟩,Aa8.mpr ⟨X,J,rfl⟩⟩
 refine B2 (U8 (b := !true) (z4 (t_b (D7 (d:=.bool true) (A4 v0 (A4 v1 (A4 v2 A8))) ⟨U,p,X,rfl,by rw[M]⟩))) (λh=>by cases h) (λh=>F9 ?_))
 exact L6 (D7 (A4 (E7 (ds:=U.map tN) v0 v2 rfl (Y.at_ lq)) (A4 v1 A8)) ⟨TT.trn U X,p,D,by have:=Y.tle X;lia,rfl,rfl⟩) rfl
theorem cR7 (T:Tx K mg a):K3 P w K mg base CX0 3 a.aA6 a.aA9 ["drawing", "p", "q"] (spV K dE4):=by
 have j := @cZ6 P w K mg base a T
 have z := @cS9 P w K mg base a T
 refine T.S8.F.ok aR6 (W3 (by rintro ds d ⟨_,_,_,_,_,_,_,rfl,_⟩;rfl)) (λR A U s H vs Q E N h=>?_)
 obtain⟨ds,S,d,D,r,⟨m,X,tr,p,Y,J,M,rfl,rfl⟩,q⟩:=h;refine⟨_,(B1 (C8 (pcl z N T.Y3 (A0 (D3 (A0 (pv 1) (A0 (pv 2) (A0 (pcl j N T.bA8 (A0 (pv 0) (A0 (pv 1) (A0 (pv 2) A5)))) A5)))) A5)))),K7 D r ?_ q⟩
 obtain⟨B,n2,n3⟩:=J.good.th_ne M;exact L6 (D7 (A4 (G1 (ds:=[.int (p:Int),.int (Y:Int),.int (TT.th (TT.trn X) p Y:Int)]) (A4 v1 (A4 v2 (A4 (D7 (A4 v0 (A4 v1 (A4 v2 A8))) ⟨m,X,tr,p,Y,J,M,rfl,rfl⟩) A8)))) A8) ⟨p,Y,TT.th (TT.trn X) p Y,B,n2,n3,rfl,rfl⟩) rfl
end
theorem K1:C2 ["turns", "seen", "rounds", "p", "turn", "q", "corners", "way"] ["turns"] (B3 u7):={}
def cI (x:Nat×Nat):Int×Int:=((x.1:Int),(x.2:Int))
def aZ9 (kvs:List (AD×PyData))(ws:List (Nat×Nat)):List (AD×PyData):=ws.foldl (λa w=>X1 a [(w.1:Int),(w.2:Int)] (.bool true)) kvs
theorem bO1:∀(ws:List (Nat×Nat)) (kvs:List (AD×PyData)) (x y:Nat),(aZ9 kvs ws).any (λz=>decide (z.1=[(x:Int),(y:Int)]))=(kvs.any (λz=>decide (z.1=[(x:Int),(y:Int)]))||decide ((x,y)∈ws))
 | [],kvs,x,y=>by simp[aZ9]
 | v::ws,kvs,x,y=>by
  have ih:=bO1 ws (X1 kvs [(v.1:Int),(v.2:Int)] (.bool true)) x y
  show(aZ9 (X1 kvs [(v.1:Int),(v.2:Int)] (.bool true)) ws).any _=_
  rw[ih,cQ7,Bool.or_assoc]
  congr 1
  rw[<- Bool.decide_or];refine Dd.mpr ?_;rw[Aa1];refine or_congr ⟨λh=>?_,λh=>?_⟩ Iff.rfl
  .simp only[Bj,and_true]at h;exact Prod.ext (by show x=v.1;lia) (by show y=v.2;lia)
  .rw[<- h]
theorem aX6:∀(ws:List (Nat×Nat)) (kvs:List (AD×PyData)),(aZ9 kvs ws).length<=kvs.length+ws.length
 | [],kvs=>by simp[aZ9]
 | v::ws,kvs=>by
  have ih:=aX6 ws (X1 kvs [(v.1:Int),(v.2:Int)] (.bool true))
  have:=bO2 kvs [(v.1:Int),(v.2:Int)] (.bool true)
  show(aZ9 (X1 kvs [(v.1:Int),(v.2:Int)] (.bool true)) ws).length<=_
  rw[Ay];lia
def pre (r:Nat->AC)(i j:Nat):List (Nat×Nat):=TT.gps r i++((r i).take j).map λq=>(i,q)
theorem cH9 (r:Nat->AC)(i:Nat):pre r i 0=TT.gps r i:=by simp[pre]
theorem dQ0 (r:Nat->AC)(h:(r i)[j]? = some q):pre r i (j+1)=pre r i j++[(i,q)]:=by
 unfold pre;rw[De,h];simp
theorem bE1 (r:Nat->AC)(i:Nat):pre r i (r i).length=TT.gps r (i+1):=by
 unfold pre TT.gps;rw[Cm,Ce];simp
theorem mem_gps:x∈TT.gps r n↔x.1<n/\x.2∈r x.1:=by
 unfold TT.gps;simp only[List.mem_flatten,Aa8,Ab5];constructor
 .rintro⟨l,⟨p,hp,rfl⟩,hx⟩;obtain⟨q,w,rfl⟩:=Aa8.mp hx;exact⟨hp,w⟩
 .intro h;exact⟨_,⟨x.1,h.1,rfl⟩,Aa8.mpr ⟨x.2,h.2,rfl⟩⟩
def V0 (r:Nat->AC)(x:Nat×Nat):AC:=[x.1,x.2,TT.th r x.1 x.2]
def KS (r:Nat->AC)(kvs:List (AD×PyData))(ps:List (Nat×Nat)):Prop:=
 ∀x y:Nat,y∈r x->(kvs.any (λz=>decide (z.1=[(x:Int),(y:Int)]))=true↔∃z∈ps,TT.low r z=true/\TT.lnd r x y=V0 r z)
theorem aS6 (h:TT.low r z=true):TT.lnd r z.1 z.2=V0 r z:=by
 unfold TT.low at h;simp only[Aq,Am]at h;unfold TT.lnd TT.nrm V0;rw[Ac h]
theorem cM4 (h:V0 r x=V0 r y):x=y:=by
 unfold V0 at h;simp only[Bj]at h;exact Prod.ext h.1 h.2.1
theorem dL6 {n:Nat}{r:Nat->AC}(G:TT.Good n r){kvs:List (AD×PyData)}{i j q:Nat}(h:(r i)[j]? = some q)(ks:KS r kvs (pre r i j)):kvs.any (λz=>decide (z.1=[(i:Int),(q:Int)])) = !TT.low r (i,q):=by
 have m:q∈r i:=Av h
 have k:=ks i q m
 cases Y:TT.low r (i,q) with
 | true=>
  rw[Bool.not_true,Bool.eq_false_iff];intro z;obtain⟨z,hz,h1,w⟩:=k.mp z
  have:z=(i,q):=(cM4 ((aS6 Y).symm.trans w)).symm
  subst this;unfold pre at hz;rcases Aa0.mp hz with hz | hz
  .have:=(mem_gps.mp hz).1;simp at this
  .obtain⟨Q,U,e⟩:=Aa8.mp hz;have e2:Q=q:=congrArg Prod.snd e;subst e2;obtain⟨J,X,e'⟩:=List.getElem_of_mem U;have D:J<j:=by simp at X;lia
   have R:j<(r i).length:=(Ab0.mp h).1
   rw[List.getElem_take]at e'
   have:=TT.bU0 (G.nd i) (j:=J) (k:=j) (by lia) R (by
    unfold TT.gi;rw[Ac0,Ac0,h,Aa2 (by lia),e'])
   lia
 | false=>
  rw[Bool.not_false];refine k.mpr ?_;obtain⟨a,b,c⟩:=G.th_ne m;obtain⟨m1,m2⟩:=G.th_mem m;have M:=G.th_rot m;have N:=G.th_rot2 m;have Y:¬(i<q/\i<TT.th r i q):=λz=>by
   have:TT.low r (i,q)=true:=by simp[TT.low,z]
   rw[Y]at this;cases this
  unfold TT.lnd TT.nrm V0;rw[Ab Y];by_cases w:q<TT.th r i q/\q<i
  .rw[Ac w];exact⟨(q,TT.th r i q),Al _ (mem_gps.mpr ⟨w.2,m1⟩),by simp[TT.low,M,w],by simp[M]⟩
  .rw[Ab w];exact⟨(TT.th r i q,i),Al _ (mem_gps.mpr ⟨by show TT.th r i q<i;lia,m2⟩),by simp[TT.low,N];lia,by simp[N]⟩
theorem dH9 (ks:KS r kvs ps)(h:TT.low r x=false):KS r kvs (ps++[x]):=λa b w=>by
 rw[ks a b w];constructor
 .rintro⟨z,hz,k⟩;exact⟨z,Al _ hz,k⟩
 .rintro⟨z,hz,h1,h2⟩;rcases Aa0.mp hz with hz | hz
  .exact⟨z,hz,h1,h2⟩
  .rw[Ad8.mp hz,h]at h1;cases h1
theorem dG7 (G:TT.Good n r)(m:x.2∈r x.1)(ks:KS r kvs ps)(h:TT.low r x=true):KS r (aZ9 kvs (TT.wys (V0 r x))) (ps++[x]):=λa b Y=>by
 rw[bO1,Eb,ks a b Y,decide_eq_true_iff,<- aS6 h];have w:(a,b)∈TT.wys (TT.lnd r x.1 x.2)↔TT.lnd r a b=TT.lnd r x.1 x.2:=⟨λz=>(G.wys_back m z).2,λz=>by
  rw[G.wys_lnd m];rcases G.lnd_eq m Y z.symm with⟨h1,j⟩ | ⟨h1,j⟩ | ⟨h1,j⟩
  .exact .inl (by rw[h1,j])
  .exact .inr (.inl (by rw[h1,j]))
  .exact .inr (.inr (by rw[h1,j]))⟩
 rw[w];constructor
 .rintro (⟨z,hz,k⟩ | e)
  .exact⟨z,Al _ hz,k⟩
  .exact⟨x,by simp,h,e.trans (aS6 h)⟩
 .rintro⟨z,hz,h1,j⟩;rcases Aa0.mp hz with hz | hz
  .exact .inl ⟨z,hz,h1,j⟩
  .rw[Ad8.mp hz]at j;exact .inr (j.trans (aS6 h).symm)
def dE8 (ds es:AF):Prop:=∃(m:Nat) (dr tr:AA),Dw m dr tr/\ds=[tD dr]/\es=(TT.rds (TT.trn dr) (m+3)).map tN
theorem Dw.plen (h:Dw m dr tr):∀i,(TT.gps (TT.trn dr) i).length<=10*i
 | 0=>by simp[TT.gps]
 | i+1=>by
  have:=h.plen i
  have:=h.tle i
  rw[<- bE1];unfold pre;rw[Ab7,Aa3,Cm];lia
section
variable {P:Program}{w:World}{K:Frag}{mg:Str->Option Value}{base:Heap}{a:Ad}
theorem cD5 (T:Tx K mg a):K3 P w K mg base CX0 3 a.aJ4 a.aL7 ["turns"] (spL K dE8):=by
 have U := @cM1 P w K mg base a T
 have J := @aS5 P w K mg base a T
 refine T.aI7.F.ok K1 (aR3 (by rintro ds d ⟨_,_,_,_,rfl,_⟩;rfl)) (λcdv A outer s H vs Q E hr h=>?_)
 obtain⟨ds,S,es,hS,r,⟨m,z,tr,dw,rfl,rfl⟩,q⟩:=h;refine⟨_,(A6 (psS 1 K1 bC4)
   (A6 (psS 2 K1 (D0 A5))
   (A6 (J8 Aj rfl (cI4 K rfl T.a9 (A0 (pv 0) A5)) (T6 (n:=2) rfl (D5 (pgN 3 K1) (D5 (pgN 4 K1) P3))) (B1 (J8 Aj rfl (i6 (pv 4)) (pgN 5 K1) (B1 (M1 (C0 (aQ5 K hr) (D3 (A0 (pv 3) (A0 (pv 5) A5))) (pv 1) rfl) (A6 (psS 6 K1 (pcl U hr T.aJ1 (A0 (pv 0) (A0 (pv 3) (A0 (pv 5) A5)))))
   (A6 (J8 Aj rfl (M4 (pcl J hr T.P0 (A0 (pv 6) A5))) (pgN 7 K1) (B1 (aP3 K hr (pv 1) (pv 7) V4)))
   (B1 (E5 (K0 Ab1 Ag Af D2 (pv 2) (A0 (pv 6) A5)))))) E8)))))
   (B1 (C8 (pv 2)))))),W0 hS r ?_ q⟩
 have G:=dw.good
 have m7:=dw.m7
 have hdl:=dw.len
 refine B2 (aW1 aV1 ?_ (show 1<8 by decide))
 refine B2 (E4 (F4 A8) ?_ (show 2<8 by decide))
 refine B2 (N9 (cU5 (ds:=z.map tN) (A4 (A9 rfl) A8)) (λi ρ=>∃kvs x3 x4 R M X,(x3.nb=true/\x4.nb=true/\R.nb=true/\M.nb=true/\X.nb=true)/\KS (TT.trn z) kvs (TT.gps (TT.trn z) i)/\kvs.length<=3*(TT.gps (TT.trn z) i).length/\ρ=[vD z,.tr (.dic kvs),.own (((((TT.gps (TT.trn z) i).filter (TT.low (TT.trn z))).map (V0 (TT.trn z)))).map tN),x3,x4,R,M,X]) ⟨[],.no,.no,.no,.no,.no,⟨rfl,rfl,rfl,rfl,rfl⟩,λx y _=>by simp[TT.gps],by simp,rfl⟩ ?_ ?_)
 .rintro i d _ hd ⟨kvs,x3,x4,R,M,X,⟨b3,b4,b5,b6,b7⟩,hks,hkl,rfl⟩;obtain⟨y,hy,rfl⟩:=aP1 hd;rw[Aa9]at hy;obtain⟨row,h1,rfl⟩:=Au.mp hy;have hi:i<z.length:=(Ab0.mp h1).1;have er:TT.trn z i=row:=by unfold TT.trn;rw[h1];rfl
  have hp:=dw.plen i
  refine⟨_,k7 (E6 B4 (E6 B4 T7)),?_⟩;rw[<- er];show W K _ [vD z,.tr (.dic kvs),.own (((((TT.gps (TT.trn z) i).filter (TT.low (TT.trn z))).map (V0 (TT.trn z)))).map tN),vI (i:Int),.val (tN (TT.trn z i)),R,M,X] _;refine N9 (aE0 (ds:=nI (TT.trn z i)) v4) (λj ρ=>∃kvs R M X,(R.nb=true/\M.nb=true/\X.nb=true)/\KS (TT.trn z) kvs (pre (TT.trn z) i j)/\kvs.length<=3*(pre (TT.trn z) i j).length/\ρ=[vD z,.tr (.dic kvs),.own (((((pre (TT.trn z) i j).filter (TT.low (TT.trn z))).map (V0 (TT.trn z)))).map tN),vI (i:Int),.val (tN (TT.trn z i)),R,M,X]) ⟨kvs,R,M,X,⟨b5,b6,b7⟩,by rw[cH9];exact hks,by rw[cH9];exact hkl,by rw[cH9]⟩ ?_ ?_
  .rintro j d _ hd ⟨kvs,R,M,X,⟨b5,b6,b7⟩,hks,hkl,rfl⟩;unfold nI at hd;rw[Aa9]at hd;obtain⟨Y,D,rfl⟩:=Au.mp hd;have hq:Y∈TT.trn z i:=Av D;have hj:j<(TT.trn z i).length:=(Ab0.mp D).1;have htl:=dw.tle i;have lowq:=dL6 G D hks;have N:=dQ0 (TT.trn z) D;have hpl:(pre (TT.trn z) i j).length<=110:=by
    unfold pre;rw[Ab7,Aa3,Ad1];lia
   refine⟨_,B4,?_⟩;generalize hF:((pre (TT.trn z) i j).filter (TT.low (TT.trn z))).map (V0 (TT.trn z))=F;have hFl:F.length<=110:=by rw[<- hF,Aa3];exact Bd (List.length_filter_le _ _) hpl
   show W K _ [vD z,.tr (.dic kvs),.own (F.map tN),vI (i:Int),.val (tN (TT.trn z i)),vI (Y:Int),M,X] _
   have B:=cB2 (K:=K) (m:=false) (neg:=true) (i:=1) (kvs:=kvs) (ks:=[(i:Int),(Y:Int)]) (ρ:=[vD z,.tr (.dic kvs),.own (F.map tN),vI (i:Int),.val (tN (TT.trn z i)),vI (Y:Int),M,X]) (G1 (A4 v3 (A4 v5 A8))) rfl
   rw[lowq]at B;have e:(true ^^ !TT.low (TT.trn z) (i,Y))=TT.low (TT.trn z) (i,Y):=by cases TT.low (TT.trn z) (i,Y) <;> rfl
   rw[e]at B;refine U8 (C3 B) (λhl=>?_) (λhl=>F9 ⟨kvs,vI (Y:Int),M,X,⟨rfl,b6,b7⟩,by rw[N];exact dH9 hks hl,by rw[N,Ab7];lia,by rw[N,Dk];simp[hl,hF]⟩)
   refine B2 (F3 (d:=tN (V0 (TT.trn z) (i,Y))) (D7 (A4 v0 (A4 v3 (A4 v5 A8))) ⟨m,z,tr,i,Y,dw,hq,rfl,rfl⟩) ?_);show W K _ [vD z,.tr (.dic kvs),.own (F.map tN),vI (i:Int),.val (tN (TT.trn z i)),vI (Y:Int),.val (tN (V0 (TT.trn z) (i,Y))),X] _;have hw:(wys (i:Int) (Y:Int) (TT.th (TT.trn z) i Y:Int)).map pD=(TT.wys (V0 (TT.trn z) (i,Y))).map λx=>pD (cI x):=rfl
   refine B2 (N9 (P6 (ds:=(TT.wys (V0 (TT.trn z) (i,Y))).map λx=>pD (cI x)) (EF.e' (J5 (A4 v6 A8) ⟨(i:Int),(Y:Int),(TT.th (TT.trn z) i Y:Int),rfl,hw.symm⟩))) (λl ρ=>∃X,X.nb=true/\ρ=[vD z,.tr (.dic (aZ9 kvs ((TT.wys (V0 (TT.trn z) (i,Y))).take l))),.own (F.map tN),vI (i:Int),.val (tN (TT.trn z i)),vI (Y:Int),.val (tN (V0 (TT.trn z) (i,Y))),X]) ⟨X,b7,rfl⟩ ?_ ?_)
   .rintro l d _ hd ⟨X,b7,rfl⟩;rw[Aa9]at hd;obtain⟨v,hv,rfl⟩:=Au.mp hd;have hvl:l<3:=(Ab0.mp hv).1;refine⟨_,B4,?_⟩;have hkp:=aX6 ((TT.wys (V0 (TT.trn z) (i,Y))).take l) kvs;rw[Ad1]at hkp;refine aW5 (ks:=[(v.1:Int),(v.2:Int)]) aX9 (i:=1) rfl (LV.E.imm (m:=false) v7) (by unfold sizeLine;lia) ⟨.val (pD (cI v)),rfl,?_⟩
    rw[De,hv];unfold aZ9;rw[List.foldl_append];rfl
   .rintro _ ⟨X,b7,rfl⟩;have hkp:=aX6 (TT.wys (V0 (TT.trn z) (i,Y))) kvs;have e3:(TT.wys (V0 (TT.trn z) (i,Y))).length=3:=rfl;rw[Aa3,Cm];refine G8 (d:=tN (V0 (TT.trn z) (i,Y))) rfl v6 (by rw[Aa3];unfold sizeLine;lia) ⟨aZ9 kvs (TT.wys (V0 (TT.trn z) (i,Y))),vI (Y:Int),.val (tN (V0 (TT.trn z) (i,Y))),X,⟨rfl,rfl,b7⟩,by rw[N];exact dG7 G hq hks hl,by rw[N,Ab7,List.length_singleton];lia,?_⟩ (by cases X <;> first | rfl | cases b7)
    rw[N,Dk,Ad2,Ad2,hF]
    simp[hl]
  .rintro _ ⟨kvs,R,M,X,⟨b5,b6,b7⟩,hks,hkl,rfl⟩;rw[F7]at *;rw[bE1]at hks hkl;exact⟨kvs,_,_,R,M,X,⟨rfl,rfl,b5,b6,b7⟩,hks,hkl,by rw[bE1]⟩
 rintro _ ⟨kvs,x3,x4,R,M,X,_,_,_,rfl⟩;rw[bF1,Aa3,hdl];exact bJ2 rfl rfl
end
set_option maxHeartbeats 4000000
theorem cS5:C2 ["drawing"] ["drawing"] (B3 bI9):={}
theorem aT9:C2 ["drawing"] ["drawing"] (B3 i5):={}
theorem sc_crossings:C2 ["drawing", "first", "shut", "reached", "crossed", "row", "k", "p", "q", "beyond"] ["drawing", "first", "shut"] (B3 aC0):={}
theorem sc_lands_from:C2 ["drawing", "first", "shut", "beyond"] ["drawing", "first", "shut"] (B3 l7):={}
def cL (l:AC):AD:=l.map λ(x:Nat)=>(x:Int)
theorem bD5 (l:AC):tN l=tI (cL l):=aY2 l
theorem cI6 (L:AA):L.map tN=(L.map cL).map tI:=by rw[Ae2];exact Bg λl _=>bD5 l
theorem aO2 (h:cL a=cL b):a=b:=by
 unfold cL at h
 have:=congrArg (List.map Int.toNat) h
 simpa[Ae2,Function.comp_def]using this
theorem o4 (a b:AD):PyData.eqv (tI a) (tI b)=decide (a=b):=by
 unfold tI;rw[PyData.eqv];exact Y9 (f:=PyData.int) bI5 a b
theorem dI2 (l:AC)(L:AA):(L.map tN).any (λz=>PyData.eqv z (tN l))=decide (l∈L):=by
 rw[List.any_map,Ck,List.any_eq_true,decide_eq_true_iff];constructor
 .rintro⟨x,hx,h⟩;simp only[Function.comp,bD5,o4,Am]at h;rw[<- aO2 h];exact hx
 .intro h;exact⟨l,h,by simp[Function.comp,bD5,o4]⟩
theorem dK9 (h:cI x=cI y):x=y:=by
 have h1:=congrArg Prod.fst h
 have w:=congrArg Prod.snd h
 simp only[cI]at h1 w;exact Prod.ext (by lia) (by lia)
theorem cN3 (x:Nat×Nat)(sh:List (Nat×Nat)):(sh.map λz=>pD (cI z)).any (λz=>PyData.eqv z (pD (cI x)))=decide (x∈sh):=by
 have:=aF5 (cI x) (sh.map cI)
 rw[Ae2]at this;rw[show(sh.map λz=>pD (cI z))=sh.map (pD ∘ cI) from rfl,this]
 refine Dd.mpr ⟨λh=>?_,λh=>Aa8.mpr ⟨x,h,rfl⟩⟩
 obtain⟨y,w,e⟩:=Aa8.mp h;rw[<- dK9 e];exact w
theorem cZ7 (L:AA):Fit (.list (L.map tN)):=(aC2 (n:=1) λd w=>by obtain⟨x,_,rfl⟩:=Aa8.mp w;rw[aY2];exact S4 _).fit
theorem dK6 (l:AC):Fit (tN l):=by rw[aY2];exact FitN.fit (S4 _)
theorem bV5 (L:List (Nat×Nat)):Fit (.list (L.map λz=>pD (cI z))):=(aC2 (n:=1) λd w=>by obtain⟨x,_,rfl⟩:=Aa8.mp w;exact S7 _).fit
theorem bY1 (L:AA):K6 (L.map tN)=true:=U9 bU8 L
def dD3 (ds es:AF):Prop:=∃(m:Nat) (dr tr:AA),Dw m dr tr/\ds=[tD dr]/\es=(M3 ((TT.rds (TT.trn dr) (m+3)).map cL)).map tI
def dE6 (ds es:AF):Prop:=∃(m:Nat) (dr tr:AA),Dw m dr tr/\ds=[tD dr]/\es=((M3 ((TT.rds (TT.trn dr) (m+3)).map cL)).filter λl=>decide (l≠[0,2,1])).map tI
def dE7 (ds es:AF):Prop:=∃(m:Nat) (dr tr:AA) (x y:Nat) (sh:List (Nat×Nat)),Dw m dr tr/\y∈TT.trn dr x/\ds=[tD dr,tN (TT.lnd (TT.trn dr) x y),.list (sh.map λz=>pD (cI z))]/\es=(TT.fin (TT.trn dr) sh x y).crs.map λz=>pD (cI z)
def dG0 (ds es:AF):Prop:=∃(m:Nat) (dr tr:AA) (x y:Nat) (sh:List (Nat×Nat)),Dw m dr tr/\y∈TT.trn dr x/\ds=[tD dr,tN (TT.lnd (TT.trn dr) x y),.list (sh.map λz=>pD (cI z))]/\es=(M3 ((TT.fin (TT.trn dr) sh x y).rch.map cL)).map tI
def fIn (d:PyData):Option PyData:=if PyData.eqv d (tI [0,2,1]) then none else some d
theorem cZ8 (L:AB):(L.map tI).filterMap fIn=(L.filter λl=>decide (l≠[0,2,1])).map tI:=by
 induction L with
 | nil=>rfl
 | cons l L w=>
  have e:fIn (tI l)=if l=[0,2,1] then none else some (tI l):=by
   unfold fIn;rw[o4];by_cases h:l=[0,2,1] <;> simp[h]
  rw[Ac7,Bo,e,List.filter_cons];by_cases h:l=[0,2,1]
  .rw[Ac h,Ab (by simp[h])];exact w
  .rw[Ab h,Ac (by simp[h]),Ac7]
   show _::_=_::_
   rw[w]
def fB (r:Nat->AC):PyData->Option PyData
 | .tuple [.int p,.int q]=>some (tN (TT.lnd r q.toNat p.toNat))
 | _=>none
theorem dO6 (r:Nat->AC)(L:List (Nat×Nat)):(L.map λz=>pD (cI z)).filterMap (fB r)=(L.map λz=>TT.lnd r z.2 z.1).map tN:=by
 rw[Bb,Ae2,<- List.filterMap_eq_map];exact M7 λx _=>rfl
theorem z7 (r:Nat->AC)(p q:Nat):∃a b c:Nat,TT.lnd r p q=[a,b,c]/\(wys (a:Int) (b:Int) (c:Int)).map pD=(TT.wys (TT.lnd r p q)).map λz=>pD (cI z):=by
 unfold TT.lnd;rcases TT.Q8 p q (TT.th r p q) with e | e | e <;> rw[e] <;> exact⟨_,_,_,rfl,rfl⟩
section
variable {P:Program}{w:World}{K:Frag}{mg:Str->Option Value}{base:Heap}{a:Ad}
theorem cI5 (T:Tx K mg a):K3 P w K mg base CX0 4 a.bW9 a.bZ1 ["drawing"] (spL K dD3):=by
 have z := @cD5 P w K mg base a T
 refine T.bX8.F.ok cS5 (aR3 (by rintro ds d ⟨_,_,_,_,rfl,_⟩;rfl)) (λR A U s H vs Q E B h=>?_)
 obtain⟨ds,S,es,D,r,⟨m,j,tr,Y,rfl,rfl⟩,q⟩:=h;refine⟨_,(B1 (C8 (B6 (O2 K) (by rfl) T.N8 boot_sorted (A0 (pcl z B T.aI7 (A0 (pv 0) A5)) A5)))),W0 D r ?_ q⟩
 have M:=Y.good.rds_len
 have m7:=Y.m7
 have J:=J5 (K:=K) (pre:=dE8) (X:=E0) (ρ:=sl0 ["drawing"].length [tD j]) (A4 v0 A8) ⟨m,j,tr,Y,rfl,rfl⟩
 rw[cI6 (TT.rds (TT.trn j) (m+3))]at J;refine u4 (j9 (ts:=(TT.rds (TT.trn j) (m+3)).map cL) (A4 (EF.e' J) A8) (λt ht=>?_) (by rw[Aa3];lia) (D1 _) (R3 _)) rfl
 obtain⟨l,M,rfl⟩:=Aa8.mp ht;obtain⟨p,N,_,rfl⟩:=Y.good.rds_mem.mp M;unfold TT.lnd;rcases TT.Q8 p N (TT.th (TT.trn j) p N) with e | e | e <;> rw[e] <;> simp[cL]
theorem cP4 (T:Tx K mg a):K3 P w K mg base CX0 5 a.aD7 a.aE4 ["drawing"] (spL K dE6):=by
 have z := @cI5 P w K mg base a T
 refine T.aD6.F.ok aT9 (aR3 (by rintro ds d ⟨_,_,_,_,rfl,_⟩;rfl)) (λD A U s H vs Q E R h=>?_)
 obtain⟨ds,S,es,hS,r,⟨m,j,tr,Y,rfl,rfl⟩,q⟩:=h;obtain⟨J,B,sF⟩:=T.W7;refine⟨_,(B1 (C8 (N2 (T:=["land"]) (N':=["land"]) (is:=[]) rfl (.of rfl rfl rfl (by exact trivial) rfl rfl rfl (by exact trivial)) (M4 (pcl z R T.bX8 (A0 (pv 0) A5))) (J0 (by decide)) λ_ _ _ _=>⟨(E9 (i:=0) (by decide +kernel:(["land"]:AH).Nodup) rfl (Or.inl rfl)),(X5 (C0 (cH3 K R) (pv 0) (bY0 (v:=.ref J) rfl B rfl) (F6 _))),(pv 0)⟩))),W0 hS r ?_ q⟩
 have hl:=Y.good.rds_len
 have m7:=Y.m7
 generalize N:M3 ((TT.rds (TT.trn j) (m+3)).map cL)=L;have hLl:L.length<=100:=by rw[<- N,(D1 _).length_eq,Aa3];lia
 have M:=J7 (K:=K) (m:=true) (ρ:=sl0 ["drawing"].length [tD j]) (n:=1) (is:=[]) (g:=F5 0) (tt:=aD8 (tOp (bS9 K true) (C4 0) (tC (.ref J)))) (te:=C4 0) fIn (P6 (ds:=L.map tI) (EF.e' (J5 (pre:=dD3) (X:=E0) (A4 v0 A8) ⟨m,j,tr,Y,rfl,by rw[N]⟩))) (by rw[Aa3];unfold sizeLine;lia) (λd hd=>by
  obtain⟨l,hl,rfl⟩:=Aa8.mp hd;refine⟨_,B4,?_⟩;have e:=dB6 (K:=K) (m:=false) (ρ:=(slC (sl0 ["drawing"].length [tD j]) 1 []).set 0 (.val (tI l))) (d:=tI l) (d':=tI [0,2,1]) v0 (cA0 λH=>.tup (sF H) (.cons (.int _) (.cons (.int _) (.cons (.int _) .nil)))) (FitN.fit (S4 _)) (FitN.fit (S4 _))
  show match (if PyData.eqv (tI l) (tI [0,2,1]) then none else some (tI l)) with | none=>_ | some y=>_
  cases h:PyData.eqv (tI l) (tI [0,2,1]) with
  | true=>rw[h]at e;exact C3 e
  | false=>rw[h]at e;exact⟨C3 e,A9 rfl⟩)
 rw[cZ8]at M;exact u4 M rfl
end
set_option maxHeartbeats 1000000
section
variable {P:Program}{w:World}{K:Frag}{mg:Str->Option Value}{base:Heap}{a:Ad}
theorem cK1 (T:Tx K mg a):K3 P w K mg base CX0 4 a.aQ7 a.aQ1 ["drawing", "first", "shut"] (spL K dE7):=by
 have X := @aS5 P w K mg base a T
 have U := @cR7 P w K mg base a T
 refine T.aQ9.F.ok sc_crossings (aR3 (by rintro ds d ⟨_,_,_,_,_,_,_,_,rfl,_⟩;rfl)) (λcdv A outer s H vs Q E N h=>?_)
 obtain⟨ds,S,es,hS,r,⟨m,Y,tr,x,y,sh,dw,hy,rfl,rfl⟩,q⟩:=h;refine⟨_,(A6 (psS 3 sc_crossings (D0 (A0 (pv 1) A5)))
   (A6 (psS 4 sc_crossings (D0 A5))
   (A6 (psS 5 sc_crossings (pcl X N T.P0 (A0 (pv 1) A5)))
   (A6 (psS 6 sc_crossings A7)
   (A6 (U6 Aj (C0 bC2 (pv 6) (B6 (aJ0 K) (by rfl) T.O3 Aw (A0 (pv 5) A5)) (F6 _)) (A6 (psS 7 sc_crossings (B5 (ixK K) (B5 (ixK K) (pv 5) (pv 6) (λ_ _=>rfl)) A7 (λ_ _=>rfl)))
   (A6 (psS 8 sc_crossings (B5 (ixK K) (B5 (ixK K) (pv 5) (pv 6) (λ_ _=>rfl)) A7 (λ_ _=>rfl)))
   (A6 (psS 9 sc_crossings (pcl U N T.S8 (A0 (pv 0) (A0 (pv 8) (A0 (pv 7) A5)))))
   (A6 (M1 (PW.pt (o7 (C0 (M5 K N) (pv 9) (pv 3) rfl) (o7 (C0 (M5 K N) (D3 (A0 (pv 7) (A0 (pv 8) A5))) (pv 2) rfl) (aL6 (C0 (M5 K N) (D3 (A0 (pv 8) (A0 (pv 7) A5))) (pv 2) rfl))))) (A6 (E5 (K0 Ab1 Ag Af D2 (pv 3) (A0 (pv 9) A5)))
   (A6 (E5 (K0 Ab1 Ag Af D2 (pv 4) (A0 (D3 (A0 (pv 7) (A0 (pv 8) A5))) A5)))
   (B1 (E5 (K0 Ab1 PySem.F.slot_list_extend PySem.F.type_list_extend bB0 (pv 5) (A0 (pcl X N T.P0 (A0 (pv 9) A5)) A5)))))) E8)
   (B1 (dH1 (i:=6) sc_crossings.nd rfl (Or.inl rfl) A7 dI8)))))))
   (B1 (C8 (pv 4)))))))),W0 hS r ?_ q⟩
 have G:=dw.good
 have m7:=dw.m7
 obtain⟨wa,wb,wc,we,ww⟩:=z7 (TT.trn Y) x y;refine B2 (E4 (ds:=[tN (TT.lnd (TT.trn Y) x y)]) (F4 (A4 v1 A8)) ?_ (show 3<10 by decide))
 refine B2 (E4 (F4 A8) ?_ (show 4<10 by decide))
 refine B2 (E4 (J5 (A4 v1 A8) ⟨(wa:Int),(wb:Int),(wc:Int),by rw[we];rfl,ww.symm⟩) ?_ (show 5<10 by decide))
 refine B2 (F3 B0 ?_);refine B2 (p8 (λk ρ=>∃(j:Nat) (x7 x8 x9:Sl),k+j=200/\(x7.nb=true/\x8.nb=true/\x9.nb=true)/\(TT.run (TT.trn Y) sh (TT.ini (TT.lnd (TT.trn Y) x y)) j).k=j/\ρ=[vD Y,.val (tN (TT.lnd (TT.trn Y) x y)),.val (.list (sh.map λz=>pD (cI z))),.own ((TT.run (TT.trn Y) sh (TT.ini (TT.lnd (TT.trn Y) x y)) j).rch.map tN),.own ((TT.run (TT.trn Y) sh (TT.ini (TT.lnd (TT.trn Y) x y)) j).crs.map λz=>pD (cI z)),.own ((TT.run (TT.trn Y) sh (TT.ini (TT.lnd (TT.trn Y) x y)) j).row.map λz=>pD (cI z)),vI (j:Int),x7,x8,x9]) ⟨200,0,.no,.no,.no,rfl,⟨rfl,rfl,rfl⟩,rfl,rfl⟩ ?_)
 .rintro k ρ' ⟨j,x7,x8,x9,hkj,⟨b7,b8,b9⟩,hsk,rfl⟩;have B:=TT.aC3 G hy (sh:=sh) j;have rl:=B.row_len G;have sl:=B.sub G;have bk:=B.k;generalize hs:TT.run (TT.trn Y) sh (TT.ini (TT.lnd (TT.trn Y) x y)) j=s at B rl sl bk hsk;refine⟨decide ((j:Int)<((s.row.map λz=>pD (cI z)).length:Int)),C3 (aD2 (g:=λi j=>decide (i<j)) v6 (P4 (ds:=s.row.map λz=>pD (cI z)) (A4 (F2 (i:=5) rfl) A8))),?_⟩
  rw[Aa3];by_cases hlt:j<s.row.length
  .rw[As (by lia),Ac rfl]
   have hx:s.row.getD s.k (0,0)∈s.row:=by rw[Ac0,Aa2 (by lia)];exact Di _
   have D:(s.row)[j]? = some (s.row.getD s.k (0,0)):=by rw[Ac0,hsk,Aa2 hlt];rfl
   have J:TT.run (TT.trn Y) sh (TT.ini (TT.lnd (TT.trn Y) x y)) (j+1)=TT.stp (TT.trn Y) sh s:=by show TT.stp _ _ (TT.run _ _ _ j)=_;rw[hs]
   unfold TT.stp at J;rw[Ac (by lia)]at J
   generalize hz:s.row.getD s.k (0,0)=z at hx D J;obtain⟨m1,m2,m3⟩:=B.row_mem G hx;have R:atI (s.row.map λz=>pD (cI z)) (j:Int)=some (pD (cI z)):=U1 j rfl (by rw[Aa9,D];rfl)
   refine B2 (F3 (d:=.int (z.1:Int)) (LV.E.imm (m:=false) (E7 (ds:=[.int (z.1:Int),.int (z.2:Int)]) (E7 (ds:=s.row.map λz=>pD (cI z)) (F2 (i:=5) rfl) v6 rfl R) (B0 (i:=0)) rfl rfl)) ?_)
   show W K _ [vD Y,.val (tN (TT.lnd (TT.trn Y) x y)),.val (.list (sh.map λz=>pD (cI z))),.own (s.rch.map tN),.own (s.crs.map λz=>pD (cI z)),.own (s.row.map λz=>pD (cI z)),vI (j:Int),vI (z.1:Int),x8,x9] _
   refine B2 (F3 (d:=.int (z.2:Int)) (LV.E.imm (m:=false) (E7 (ds:=[.int (z.1:Int),.int (z.2:Int)]) (E7 (ds:=s.row.map λz=>pD (cI z)) (F2 (i:=5) rfl) v6 rfl R) (B0 (i:=1)) rfl rfl)) ?_)
   refine B2 (F3 (d:=tN (TT.lnd (TT.trn Y) z.2 z.1)) (D7 (A4 v0 (A4 v8 (A4 v7 A8))) ⟨m,Y,tr,z.2,z.1,dw,G.sym m1,rfl,rfl⟩) ?_);show W K _ [vD Y,.val (tN (TT.lnd (TT.trn Y) x y)),.val (.list (sh.map λz=>pD (cI z))),.own (s.rch.map tN),.own (s.crs.map λz=>pD (cI z)),.own (s.row.map λz=>pD (cI z)),vI (j:Int),vI (z.1:Int),vI (z.2:Int),.val (tN (TT.lnd (TT.trn Y) z.2 z.1))] _
   generalize M:[vD Y,.val (tN (TT.lnd (TT.trn Y) x y)),.val (.list (sh.map λz=>pD (cI z))),Sl.own (s.rch.map tN),.own (s.crs.map λz=>pD (cI z)),.own (s.row.map λz=>pD (cI z)),vI (j:Int),vI (z.1:Int),vI (z.2:Int),.val (tN (TT.lnd (TT.trn Y) z.2 z.1))]=ρ0
   have t1:=S6 (K:=K) (m:=false) (ρ := ρ0) (ds:=s.rch.map tN) (A9 (i:=9) (by rw[<- M];rfl)) (F2 (i:=3) (by rw[<- M];rfl)) rfl (dK6 _) (cZ7 _)
   rw[dI2]at t1;have t2:=S6 (K:=K) (m:=false) (ρ := ρ0) (d:=pD (cI z)) (ds:=sh.map λz=>pD (cI z)) (G1 (A4 (A9 (i:=7) (by rw[<- M];rfl)) (A4 (A9 (i:=8) (by rw[<- M];rfl)) A8))) (A9 (i:=2) (by rw[<- M];rfl)) rfl (S7 _).fit (bV5 _)
   rw[cN3]at t2;have t3:=S6 (K:=K) (m:=false) (ρ := ρ0) (d:=pD (cI (z.2,z.1))) (ds:=sh.map λz=>pD (cI z)) (G1 (A4 (A9 (i:=8) (by rw[<- M];rfl)) (A4 (A9 (i:=7) (by rw[<- M];rfl)) A8))) (A9 (i:=2) (by rw[<- M];rfl)) rfl (S7 _).fit (bV5 _)
   rw[cN3]at t3;generalize hs':TT.run (TT.trn Y) sh (TT.ini (TT.lnd (TT.trn Y) x y)) (j+1)=s' at J;refine B2 (cS8 ([vD Y,.val (tN (TT.lnd (TT.trn Y) x y)),.val (.list (sh.map λz=>pD (cI z))),Sl.own (s'.rch.map tN),.own (s'.crs.map λz=>pD (cI z)),.own (s'.row.map λz=>pD (cI z)),vI (j:Int),vI (z.1:Int),vI (z.2:Int),.val (tN (TT.lnd (TT.trn Y) z.2 z.1))]) (z5 (C3 t1) λ_=>z5 (C3 t2) λ_=>C3 t3) (λh=>?_) (λh=>F9 ?_) ?_)
   .simp only[Aq,Bool.not_eq_true',Cb]at h;rw[Ac h]at J;subst M;obtain⟨va,vb,vc,ve,vw⟩:=z7 (TT.trn Y) z.2 z.1;refine B2 (G8 (d:=tN (TT.lnd (TT.trn Y) z.2 z.1)) rfl (A9 (i:=9) rfl) (by rw[Aa3];unfold sizeLine;lia) ?_)
    have cl:s.crs.length<=100:=by have:=congrArg List.length B.e;simp at this;lia
    refine B2 (G8 (d:=pD (cI z)) rfl (G1 (A4 v7 (A4 v8 A8))) (by rw[Aa3];unfold sizeLine;lia) ?_)
    refine bB4 rfl (J5 (pre:=bE4) (A4 (A9 (i:=9) rfl) A8) ⟨(va:Int),(vb:Int),(vc:Int),by rw[ve];rfl,rfl⟩) ?_ ?_
    .rw[Aa3];show _+3<=_;unfold sizeLine;lia
    .rw[J,vw];simp only[Ad2,Ac7,Cj];rfl
   .have h':¬(TT.lnd (TT.trn Y) z.2 z.1∉s.rch/\z∉sh/\(z.2,z.1)∉sh):=λhh=>by simp[hh]at h
    rw[Ab h']at J;rw[<- M,J]
   .refine dM5 (x:=(j:Int)) (y:=1) rfl B0 ⟨199-j,by lia,j+1,vI (z.1:Int),vI (z.2:Int),.val (tN (TT.lnd (TT.trn Y) z.2 z.1)),by lia,⟨rfl,rfl,rfl⟩,?_,?_⟩
    .rw[hs',J];split <;> (show s.k+1=j+1;rw[hsk])
    .rw[hs'];rfl
  .rw[Ak (by lia),Ab Ah]
   have e:=TT.fin_of G hy (sh:=sh) (by lia) (m:=j) (by lia) (by rw[hs];lia)
   rw[hs]at e;exact bJ2 rfl (by rw[e])
end
set_option maxHeartbeats 1000000
section
variable {P:Program}{w:World}{K:Frag}{mg:Str->Option Value}{base:Heap}{a:Ad}
theorem cW8 (T:Tx K mg a):K3 P w K mg base CX0 5 a.aL3 a.aK1 ["drawing", "first", "shut"] (spL K dG0):=by
 have Y := @cK1 P w K mg base a T
 have j := @cR7 P w K mg base a T
 refine T.aK3.F.ok sc_lands_from (aR3 (by rintro ds d ⟨_,_,_,_,_,_,_,_,rfl,_⟩;rfl)) (λcdv A B s H vs Q E hr h=>?_)
 obtain⟨ds,S,es,hS,r,⟨m,U,tr,x,y,sh,M,N,rfl,rfl⟩,q⟩:=h;refine⟨_,(A6 (l5 (i:=3) sc_lands_from.nd rfl rfl (T:=["p", "q"]) (N':=["p", "q", "drawing"]) (is:=[0]) rfl (.of rfl rfl rfl (by exact⟨rfl,trivial⟩) rfl rfl rfl (by exact⟨⟨_,rfl,by first | exact .inl rfl | exact .inr rfl,by first | exact .inl rfl | exact .inr rfl⟩,trivial⟩)) (M4 (pcl Y hr T.aQ9 (A0 (pv 0) (A0 (pv 1) (A0 (pv 2) A5))))) (dN5 (by decide) (by decide)) λ_ _ _ _=>⟨(T6 (n:=2) rfl (D5 (E9 (i:=0) (by decide +kernel:(["p", "q", "drawing"]:AH).Nodup) rfl (Or.inl rfl)) (D5 (E9 (i:=1) (by decide +kernel:(["p", "q", "drawing"]:AH).Nodup) rfl (Or.inl rfl)) P3))),N7,(pcl j hr T.S8 (A0 (pv 2) (A0 (pv 1) (A0 (pv 0) A5))))⟩)
   (B1 (C8 (B6 (O2 K) (by rfl) T.N8 boot_sorted (A0 (B7 (L5 K) (D0 (A0 (pv 1) A5)) (pv 3)) A5))))),W0 hS r ?_ q⟩
 have G:=M.good
 have m7:=M.m7
 have J:=TT.dR0 G N (sh:=sh)
 have hfl:=TT.dB0 G N (sh:=sh)
 have D:=TT.dL8 G N (sh:=sh)
 have cm:=J7 (K:=K) (m:=true) (ρ:=sl0 ["drawing", "first", "shut", "beyond"].length [tD U,tN (TT.lnd (TT.trn U) x y),.list (sh.map λz=>pD (cI z))]) (n:=2) (is:=[0]) (g:=bJ6 K 2 (T0 (F5 0) (T0 (F5 1) aY4))) (tt:=aM1) (te:=Y7 (spV K dE4) [] E0 (C9 (C4 2) (C9 (C4 1) (C9 (C4 0) O1)))) (fB (TT.trn U)) (P6 (ds:=(TT.fin (TT.trn U) sh x y).crs.map λz=>pD (cI z)) (EF.e' (J5 (pre:=dE7) (X:=E0) (A4 v0 (A4 v1 (A4 v2 A8))) ⟨m,U,tr,x,y,sh,M,N,rfl,rfl⟩))) (by rw[Aa3];have:=congrArg List.length J;simp at this;unfold sizeLine;lia) (λd hd=>by
  obtain⟨z,hz,rfl⟩:=Aa8.mp hd;exact⟨_,k7 (ds:=[.int (z.1:Int),.int (z.2:Int)]) (E6 B4 (E6 B4 T7)),y9,D7 (A4 v2 (A4 v1 (A4 v0 A8))) ⟨m,U,tr,z.2,z.1,M,G.sym (D z hz),rfl,rfl⟩⟩)
 rw[dO6]at cm;refine B2 (E4 cm ?_ (show 3<4 by decide))
 have ec:=aG9 (K:=K) (ρ:=[vD U,.val (tN (TT.lnd (TT.trn U) x y)),.val (.list (sh.map λz=>pD (cI z))),.own (((TT.fin (TT.trn U) sh x y).crs.map λz=>TT.lnd (TT.trn U) z.2 z.1).map tN)]) (EF.e' (F4 (ds:=[TT.lnd (TT.trn U) x y].map tN) (A4 v1 A8))) (F2 (i:=3) rfl) (bY1 _) (bY1 _) (by simp only[Aa3,List.length_singleton];have:=congrArg List.length J;simp at this;unfold sizeLine;lia)
 rw[<- Ad2,List.singleton_append,<- J,cI6 (TT.fin (TT.trn U) sh x y).rch]at ec;refine u4 (j9 (ts:=(TT.fin (TT.trn U) sh x y).rch.map cL) (A4 (EF.e' ec) A8) (λt ht=>?_) (by rw[Aa3];lia) (D1 _) (R3 _)) rfl
 obtain⟨l,hl,rfl⟩:=Aa8.mp ht;rw[J]at hl
 have:∃p R,l=TT.lnd (TT.trn U) p R:=by
  rcases Aa1.mp hl with e | hl
  .exact⟨x,y,e⟩
  .obtain⟨z,_,rfl⟩:=Aa8.mp hl;exact⟨_,_,rfl⟩
 obtain⟨p,R,rfl⟩:=this;unfold TT.lnd;rcases TT.Q8 p R (TT.th (TT.trn U) p R) with e | e | e <;> rw[e] <;> simp[cL]
end
end K39
namespace TT
open Classical
section
theorem Bt.rs (B:Bt F G m f d t):Rs (trn d):=⟨B.good.nd,B.good.self,B.good.tri,λp q h=>B.good.sym h,B.h1⟩
end
structure MI (r:Nat->AC)(sh:Nat->Nat->Prop)(a b:Nat)(met:AA)(D:List (Nat×Nat)):Prop where
 nd:met.Nodup
 hd:lnd r a b∈met
 rc:∀l∈met,∃p q,q∈r p/\l=lnd r p q/\Rc r sh a b p q
 cl:∀x∈D,x.2∈r x.1/\(¬sh x.1 x.2->lnd r x.2 x.1∈met)
section
theorem MI.ini (h:b∈r a):MI r sh a b [lnd r a b] []:=⟨by simp,by simp,λl w=>by simp at w;exact⟨a,b,h,w,.base⟩,λx z=>by cases z⟩
theorem MI.add (G:Good n r)(M:MI r sh a b met D)(hl:l∈met)(Y:x∈wys l)(J:¬sh x.1 x.2)(U:lnd r x.2 x.1∉met):MI r sh a b (met++[lnd r x.2 x.1]) (D++[x]):=by
 obtain⟨p,q,w,rfl,m⟩:=M.rc l hl;obtain⟨m1,m2⟩:=G.wys_back w Y;have j:Rc r sh a b x.1 x.2:=by
  have X:=Rc.rot m (G.th w)
  have R:=Rc.rot X (G.tri _ _ _ (G.th w))
  rcases (G.wys_lnd w).mp Y with rfl | rfl | rfl
  .exact m
  .exact X
  .exact R
 refine⟨?_,Al _ M.hd,λl hl=>?_,λy hy=>?_⟩
 .rw[Aa4];exact⟨M.nd,by simp,λy hy z N e=>U (by rw[Ad8.mp N]at e;rw[<- e];exact hy)⟩
 .rcases Aa0.mp hl with hl | hl
  .exact M.rc l hl
  .exact⟨x.2,x.1,G.sym m1,Ad8.mp hl,.cross j m1 J⟩
 .rcases Aa0.mp hy with hy | hy
  .exact⟨(M.cl y hy).1,λh=>Al _ ((M.cl y hy).2 h)⟩
  .rw[Ad8.mp hy];exact⟨m1,λ_=>by simp⟩
theorem MI.skip (G:Good n r)(M:MI r sh a b met D)(w:l∈met)(Y:x∈wys l)(h:sh x.1 x.2\/lnd r x.2 x.1∈met):MI r sh a b met (D++[x]):=by
 obtain⟨p,q,j,rfl,X⟩:=M.rc l w;obtain⟨m1,m2⟩:=G.wys_back j Y;refine⟨M.nd,M.hd,M.rc,λy hy=>?_⟩
 rcases Aa0.mp hy with hy | hy
 .exact M.cl y hy
 .rw[Ad8.mp hy];exact⟨m1,λm=>h.elim (λz=>absurd z m) id⟩
theorem MI.sub (G:Good n r)(M:MI r sh a b met D):met.length+4<=2*n:=by
 have h:=bV2 M.nd (m:=rds r n) λl w=>by
  obtain⟨p,q,z,e,_⟩:=M.rc l w;exact G.rds_mem.mpr ⟨p,q,z,e⟩
 have:=G.rds_len
 lia
theorem MI.fin (G:Good n r)(M:MI r sh a b met D)(h:b∈r a)(j:∀l∈met,∀x∈wys l,x∈D):l∈met↔∃p q,q∈r p/\l=lnd r p q/\Rc r sh a b p q:=by
 constructor
 .exact M.rc l
 .rintro⟨p,q,hq,rfl,w⟩;have z:∀{p q},Rc r sh a b p q->q∈r p/\lnd r p q∈met:=λw=>by
   induction w with
   | base=>exact⟨h,M.hd⟩
   | @rot q x y _ ha ih=>
    have e:=G.th_un ha
    exact⟨(C6 (G.tri _ _ _ ha)).1,by rw[e,<- G.lnd_rot ih.1];exact ih.2⟩
   | @cross p q _ hq hs ih=>
    exact⟨G.sym hq,(M.cl (p,q) (j _ ih.2 (p,q) ((G.wys_lnd hq).mpr (.inl rfl)))).2 hs⟩
  exact(z w).2
end
end TT
namespace TT
section
variable {n:Nat}{r:Nat->AC}{sh:Nat->Nat->Prop}{a b c x y p q u v:Nat}
theorem Rc.trans (h1:Rc r sh x y p q)(z:Rc r sh p q u v):Rc r sh x y u v:=by
 induction z with
 | base=>exact h1
 | rot _ j w=>exact .rot w j
 | cross _ m Y w=>exact .cross w m Y
theorem Rc.back (G:Good n r)(sym:∀p q,sh p q->sh q p)(h:Rc r sh x y p q):Rc r sh p q x y:=by
 induction h with
 | base=>exact .base
 | @rot q x' y' _ ha ih=>
  have w:=G.tri _ _ _ ha
  have j:=G.tri _ _ _ w
  exact Rc.trans (.rot (.rot .base w) j) ih
 | @cross p q _ hq hs ih=>exact Rc.trans (.cross .base (G.sym hq) λz=>hs (sym _ _ z)) ih
theorem bL0 (w:a≠b)(z:b≠c)(j:a≠c):adj [a,b,c] x y↔(x=a/\y=b)\/(x=b/\y=c)\/(x=c/\y=a):=by
 rw[adj_iff];constructor
 .rintro (⟨p,s,e⟩ | ⟨p,e,h⟩)
  .match p,e with
   | [],e=>simp at e;lia
   | [_],e=>simp at e;lia
   | [_,_],e=>simp at e
   | _::_::_::p,e=>simp at e
  .match p,e with
   | [],e=>simp at e
   | [_],e=>simp at e
   | [_,_],e=>simp at e h;lia
   | _::_::_::p,e=>simp at e
 .rintro (⟨rfl,rfl⟩ | ⟨rfl,rfl⟩ | ⟨rfl,rfl⟩)
  .exact .inl ⟨[],[c],rfl⟩
  .exact .inl ⟨[a],[],rfl⟩
  .exact .inr ⟨[y,b],rfl,rfl⟩
end
end TT
namespace L2
open PySem PySem.Spec PyProof.Rows
def bR2 (K:Frag):R2:=λx y H Q=>∃a b ks kv v,x=.ref a/\y=.ref b/\SqT K H b (ks.map V.int)/\H a=some (dicO a kv)/\aZ6 K H kv/\atK kv ks=some v/\Q v H
section
theorem bU6 (K:Frag)(R:Room k X.A)(h:X.K=K:=by rfl):IxR X (bR2 K):=by
 subst h;intro ea eb m s σ H x y v u Q I B P ⟨a,b,j,kv,z,ex,U,M,J,N,F,q⟩ D;subst ex U;cases (show v=Value.ref a from B)
 cases (show u=Value.ref b from P)
 obtain⟨xs,r,zz,hd,Y⟩:=bH7 I J N;have e:=KvR.at_ r j;rw[F]at e;cases hp:atKey xs j with
 | none=>rw[hp]at e;exact e.elim
 | some p=>
  rw[hp]at e;have fin:EP X m σ Q p.2 {s with toks:=s.toks+(tupleKind (intKind X.prog X.w)).draws j}:=⟨z,H,I.tok _,e,q⟩
  exact subscriptTail_builtinR (x:=p.2) Y.typeIs slot_dict_getitem.lookup (wpAny_getItem_heap (Q:=λr s'=>r=p.2/\EP X m σ Q r s') (tupleKind_room_in1 (by have:=R.un;lia)) (aL2 I M) Y hp ⟨rfl,fin⟩) D
end
end L2
namespace LV
open PySem L2
section
theorem bZ5:∀(u v:AD),u.map PyData.int=v.map PyData.int->u=v
 | [],[],_=>rfl
 | [],_::_,h=>by simp at h
 | _::_,[],h=>by simp at h
 | a::u,b::v,h=>by simp at h;rw[h.1,bZ5 u v h.2]
theorem bP6:∀{a b:List (AD×PyData)},R7 a=R7 b->a=b
 | [],[],_=>rfl
 | [],_::_,h=>by simp[R7]at h
 | _::_,[],h=>by simp[R7]at h
 | x::a,y::b,h=>by
  simp only[R7,Ac7,Bj,Cu,PyData.tuple.injEq]at h;rw[bP6 (a:=a) (b:=b) h.2,Prod.ext (bZ5 _ _ h.1.1) h.1.2]
theorem bZ0 (r:Rep K H v (.dict (R7 kvs))):∃a kv,v=.ref a/\H a=some (dicO a kv)/\KvF K H kv kvs:=by
 generalize h:R7 kvs=ds at r;cases r with
 | exc e=>cases kvs <;> simp[R7]at h
 | ptr=>cases kvs <;> simp[R7]at h
 | adr=>cases kvs <;> simp[R7]at h
 | dic e k z=>exact⟨_,_,rfl,e,by rw[bP6 (h.trans z)];exact k⟩
theorem KvF.keyR (r:KvF K H kv kvs):aZ6 K H kv:=by
 unfold KvF at r;induction r with
 | nil=>intro z hz;cases hz
 | cons a _ w=>
  intro z hz;rcases Aa1.mp hz with rfl | hz
  .exact a.2.1
  .exact w z hz
theorem KvF.keys (r:KvF K H kv kvs):kv.map (·.1)=kvs.map (·.1):=by
 unfold KvF at r;induction r with
 | nil=>rfl
 | cons a _ w=>rw[Ac7,Ac7,a.1,w]
def atD (kvs:List (AD×PyData))(ks:AD):Option PyData:=(kvs.find? λx=>decide (x.1=ks)).map (·.2)
theorem KvF.at_ {kv:List (AD×Addr×V)}(r:KvF K H kv kvs)(h:atD kvs ks=some d):∃v,atK kv ks=some v/\bU5 K H v d:=by
 unfold KvF at r;induction r with
 | nil=>simp[atD]at h
 | @cons p q ps qs a _ ih=>
  unfold atD at h;rw[Bv]at h;unfold atK;rw[Bv,a.1];by_cases e:q.1=ks
  .simp only[e,decide_true,Option.map_some,Option.some.injEq]at h ⊢;exact⟨_,rfl,by rw[<- h];exact a.2.2⟩
  .simp only[e,decide_false]at h ⊢;exact ih h
theorem cS0:∀{d:PyData},bU5 K H v d->Rep K H v d
 | .none,r=>by cases r;exact .non
 | .bool _,r=>by cases r;exact .bl _
 | .int _,r=>by cases r;exact .int _
 | .str _,r=>by cases r;exact .str _
 | .tuple _,⟨a,l,e1,e2,s⟩=>by rw[e1,e2];exact .tup s (R5 l)
 | .list _,r=>r.elim
 | .dict _,r=>r.elim
theorem bJ5 (h:kvs.all (λx=>w9 x.2)=true):dD kvs=.dict (R7 kvs):=Ac h
theorem bG4 (z:E K false ta ρ (.dict (R7 kvs)))(j:E K false tb ρ (.tuple (ks.map PyData.int)))(h:atD kvs ks=some d)(hi:imm d=true:=by rfl):E K m (tOp (bR2 K) ta tb) ρ d:=
 E.bor (E.imm (m:=false) (bR3 false false z j λS H x y Q _ Y X q=>by
  obtain⟨a,kv,rfl,e,k⟩:=bZ0 Y;cases X with
  | @tup b xs _ s r=>
   rw[Reps.ints r]at s;obtain⟨v,h1,w⟩:=k.at_ h;exact⟨a,b,ks,kv,v,rfl,rfl,s,e,k.keyR,h1,q v H (L2.Same.rf _) (cS0 w)⟩) hi)
end
end LV
namespace PySem
open PySem.Spec PyProof.Rows PySem.W
def RawD (h:Heap)(d:Addr)(es:Array DictEntry)(ep:Nat):Prop:=∃o,h.get? d=some o/\o.cls=.type "dict" /\ o.data=.dict es ep
section
variable {prog:Program}{w:World}{A:Around}{E:Ec}{s:Shared}{it d v:Addr}{i ep:Nat}{es:Array DictEntry}
theorem RawD.ty (x:RawD s.heap d es ep):s.TypeIs (.ref d) "dict" := x.imp λ_ z=>⟨z.1,z.2.1⟩
theorem RawD.kp (x:RawD h d es ep)(e:∀o,h.get? d=some o->h'.get? d=some o):RawD h' d es ep:=x.imp λo z=>⟨e o z.1,z.2⟩
theorem RawD.lt (x:RawD h d es ep):d<h.objs.size:=let ⟨_,z,_⟩:=x;Ab3 z
end
end PySem
namespace L2
open PySem PySem.Spec PyProof.Rows PySem.W
section
theorem dK3 (I:Inv X aA σ H s)(e:H a=some (dicO a kv)):∃(xs:List (AD×Addr×Value)) (es:Array DictEntry) (ep:Nat),KvR kv xs/\kv.length<=sizeLine/\(a==sysModules)=false/\RawD s.heap a es ep/\es.toList=xs.map dEnt/\∃o,s.heap.get? a=some o/\o.dict=none:=by
 obtain⟨⟨xs,r,z,U,o,es,ep,h1,j,m,Y,J⟩,_⟩:=(show ObjOk X.prog X.w H s.heap a (dicO a kv) from I.hok a _ e)
 exact⟨xs,es,ep,r,z,U,⟨o,h1,j.1,m⟩,Y,o,h1,j.2.1⟩
theorem cK6 {xs:List (AD×Addr×Value)}{es:Array DictEntry}(r:KvR kv xs)(h:es.toList=xs.map dEnt):es.size=kv.length:=by
 rw[<- Array.length_toList,h,Aa3,<- Paired.length r]
end
end L2
namespace PySem
open PySem.Spec PyProof.Rows
end PySem
namespace L2
open PySem PySem.Spec PyProof.Rows PySem.W
end L2
namespace LV
open PySem L2
end LV
namespace PySem
open PySem.Spec PyProof.Rows PySem.W
section
variable {prog:Program}{w:World}{A:Around}{E:Ec}{s:Shared}{it d v:Addr}{i ep:Nat}{es:Array DictEntry}
theorem cD7 (lo:(d==sysModules)=false)(Y:RawD s.heap d es ep)
  (q:Q (.ref s.heap.objs.size) {s with heap:=s.heap.push {cls:=.type "dict_keyiterator",data:=.fields #[.ref d,.int 0 0,.int es.size 0,.int ep 0]}}):wpAny (model prog w) A (pyIter (.ref d)) Q E s:=by
 obtain⟨b,j,X,m⟩:=id Y;have z:s.TypeIs (.ref d) "dict" := Y.ty;refine wpAny_pyIter_slot z F.slot_dict_iter (Cf F.slot_dict_iter z F.entry_dict_iter ?_ (F.args_dict_iter_1 _));unfold Builtin.«dict.__iter__»;refine Aa ?_;unfold Builtin.Dict.dictSlotNone;refine Aa (wpAny_notOrdered_dict z ?_);show wpAny _ _ (pure (Value.ref d)) _ _ s;refine Ae ?_;show wpAny _ _ (Builtin.Dict.showsAll d >>= _) _ _ s;unfold Builtin.Dict.showsAll;rw[Ab (by rw[lo];exact Ah)];refine Aa (Ae ?_)
 refine Aa (wpAny_dictEntries j m (Aa (wpAny_dictEpoch j m ?_)));exact Aa (Bu (Ae ⟨_,rfl, "dict_keyiterator",_,⟨_,Ac3 _ rfl,rfl⟩,F.slot_dict_keyiterator_next.lookup,q⟩))
theorem cD3 (j:s.heap.IsKeyIter it d i es.size ep)(M:RawD s.heap d es ep)(hi:i<es.size)
  (q:∀h',h'.IsKeyIter it d (i+1) es.size ep->Heap.SameBut it s.heap h'->Q (some es[i].key) {s with heap:=h'}):wpAny (model prog w) A (pyNext (.ref it)) Q E s:=by
 obtain⟨a,Y,J,m⟩:=id j;obtain⟨b,X,N,U⟩:=id M;unfold pyNext;refine Aa (wpAny_attempt (Cg (name:=Str.ofString "__next__") j.typeIs F.slot_dict_keyiterator_next (Cf F.slot_dict_keyiterator_next j.typeIs F.entry_dict_keyiterator_next ?_ (F.args_dict_keyiterator_next_1 _))));refine Aa (Ae ?_);refine Aa ?_;refine Aa ?_;refine Aa (wpAny_typeNameOfWhole_keyiter j.typeIs (Ae ?_));refine Aa (wpAny_fieldsOf Y m ?_);rw[show Builtin.Dict_items.ownsTuple "dict_keyiterator" = false by decide]
 show wpAny _ _ (if(Value.ref d==Value.none)=true then _ else _) _ _ s;rw[Ab (show ¬((Value.ref d==Value.none)=true) from Ah)]
 refine Aa (Ae ?_);refine Aa (wpAny_dictEntries X U ?_);rw[Ab (by simp)]
 refine Aa (Ae ?_);refine Aa (wpAny_dictEpoch X U ?_);rw[Ab (by simp)];refine Ae ?_
 simp only[show ¬((i:Int)<0) by lia,if_false,Ac8,Bf hi]
 refine Aa ?_;refine Aa (wpAny_typeNameOfWhole_keyiter j.typeIs (Ae ?_));refine Aa (wpAny_isOneOf_keyiter j.typeIs ?_);show wpAny _ _ (setField (.ref it) 1 (rawInt ((i:Int)+1)) >>= _) _ _ s;refine Aa (wpAny_setField Y m (by simp) ?_)
 have z:(s.heap.update it (Obj.mapFields (·.setIfInBounds 1 (rawInt ((i:Int)+1))))).IsKeyIter it d (i+1) es.size ep:=⟨_,Cv _ Y (Obj.isFreed_of_fields (Obj.data_mapFields m _)),(Obj.cls_mapFields ..).trans J,by rw[Obj.data_mapFields m];simp[rawInt]⟩
 refine Aa (Bx (Aa (wpAny_isOneOf_keyiter (s:={s with heap:=s.heap.update it (Obj.mapFields (·.setIfInBounds 1 (rawInt ((i:Int)+1))))}) z.typeIs ?_)))
 show wpAny _ _ (pure es[i].key) _ _ _;exact Ae (Ae ⟨_,rfl,Ae (q _ z (Dx ..))⟩)
theorem cH0 (J:A.handled=none)(z:s.heap.IsKeyIter it d es.size es.size ep)(M:RawD s.heap d es ep)
  (q:∀h',Heap.ExtBut it s.heap h'->Q none {s with heap:=h'}):wpAny (model prog w) A (pyNext (.ref it)) Q E s:=by
 obtain⟨a,j,N,Y⟩:=id z;obtain⟨b,X,R,U⟩:=id M;unfold pyNext;refine Aa (wpAny_attempt (Cg (name:=Str.ofString "__next__") z.typeIs F.slot_dict_keyiterator_next (Cf F.slot_dict_keyiterator_next z.typeIs F.entry_dict_keyiterator_next ?_ (F.args_dict_keyiterator_next_1 _))));refine Aa (Ae ?_);refine Aa ?_;refine Aa ?_;refine Aa (wpAny_typeNameOfWhole_keyiter z.typeIs (Ae ?_));refine Aa (wpAny_fieldsOf j Y ?_);rw[show Builtin.Dict_items.ownsTuple "dict_keyiterator" = false by decide]
 show wpAny _ _ (if(Value.ref d==Value.none)=true then _ else _) _ _ s;rw[Ab (show ¬((Value.ref d==Value.none)=true) from Ah)]
 refine Aa (Ae ?_);refine Aa (wpAny_dictEntries X U ?_);rw[Ab (by simp)]
 refine Aa (Ae ?_);refine Aa (wpAny_dictEpoch X U ?_);rw[Ab (by simp)];refine Ae ?_
 simp only[show ¬((es.size:Int)<0) by lia,if_false,Ac8,Dq (Aa7 es.size)]
 refine Aa ?_;refine Aa (wpAny_typeNameOfWhole_keyiter z.typeIs (Ae ?_));show wpAny _ _ (setField (.ref it) 0 .none >>= _) _ _ s;refine Aa (wpAny_setField j Y (by simp) ?_)
 show wpAny _ _ (newExc (.type "StopIteration") [] >>= _) _ _ _;refine Aa ?_;simp only[newExc,newTuple]
 refine Aa (Bu ?_ (by size_fits));refine Aa (m:=firstArgMember _ _) (wpAny_of_eq (a:=Value.none) (by first | rfl | (simp only[firstArgMember];rfl)) ?_)
 refine Bu ?_ (by size_fits);simp only[raiseNew];refine Aa (wpAny_handled ?_);rw[show A.in1.handled=none from J]
 refine Aa (Ae (wpAny_throw ?_));refine Aa (wpAny_isInstance (T := "StopIteration") (b:=true) ⟨_,Ac3 _ rfl,rfl⟩ isSubtype_stop ?_);exact Ae (q _ (((Dx ..).extBut.push _).push _))
theorem cD6 (N:A.handled=none)(I d:Addr)(X:d≠I)(es:Array DictEntry)(ep:Nat):Walks prog w A I [I,d] [I] es.size (λi v=>∃e,es[i]? = some e/\v=e.key) (λi h=>h.IsKeyIter I d i es.size ep/\RawD h d es ep) where
 sub:=λb j=>by simp at j;simp[j]
 frame:=λ_ _ _ st U=>⟨st.1.at λo e=>U I (by simp) o e,st.2.kp λo e=>U d (by simp) o e⟩
 item:=λi s Q E hi st m=>cD3 st.1 st.2 hi λY z J=>m _ Y s.toks ⟨es[i],by simp[hi],rfl⟩ ⟨z,st.2.kp λo e=>J.extBut d o X e⟩ λb o j e=>J.extBut b o (λh=>j (by simp[h])) e
 done:=λs Q E st m=>cH0 N st.1 st.2 λY M=>m Y s.toks λb o j e=>M b o (λh=>j (by simp[h])) e
 self:=λ_ _ _ _ st m=>wpAny_pyIter_keyiter st.1 m
theorem cG0 (lo:(d==sysModules)=false):KdlSrc prog w "dict" d d es.size (λi x=>∃e,es[i]? = some e/\x=e.key) (λh=>RawD h d es ep) where
 type:=λ_ z=>z.ty
 there:=λ_ z=>⟨z.lt,z.lt⟩
 keep:=λ_ _ z Y=>z.kp λo e=>Y d (.inr rfl) o e
 notList:=by decide
 notTuple:=by decide
 hint:=λ_ _ _ _ z j=>kdl_hint_dict z.ty j
 iter:=λ_ _ m z=>⟨_,_,(λ_ _ j=>cD7 lo z j),cD6 m _ d (Ab9 z.lt) es ep,⟨⟨_,Ac3 _ rfl,rfl,rfl⟩,z.kp λo e=>Aa6 _ e⟩⟩
end
end PySem
namespace L2
open PySem PySem.Spec PyProof.Rows PySem.W
section
theorem KvR.refs (r:KvR kv xs):Vals (kv.map λx=>V.ref x.2.1) (xs.map λx=>Value.ref x.2.1):=by
 induction r with
 | nil=>exact .nil
 | cons a _ w=>exact .cons (show Value.ref _=Value.ref _ by rw[a.2.1]) w
def dF2 (K:Frag)(tk tv:TE):TE:=λσ H Q=>∀d,H d=none->tk σ (upd H d (dicO d [])) λx H1=>tv σ H1 λv H2=>∃b ks,x=.ref b/\SqT K H2 b (ks.map V.int)/\H2 d=some (dicO d [])/\Q (.ref d) (upd H2 d (dicO d [(ks,b,v)]))
theorem cW7 (K:Frag)(hr:Room k X.A)(hk:PE X ke tk)(hv:PE X ve tv)(h:X.K=K:=by rfl):PE X (.Dict [some ke] [ve] pos) (dF2 K tk tv):=by
 subst h;refine⟨?_⟩;intro M s σ H Q I h;refine wpAny_Dict_any rfl rfl (by simp) (by simp) ?_
 have D:=I.laid (a:=s.heap.objs.size) (o:=dicO s.heap.objs.size []) (t':=s.toks) (λ_ _ q=>Aa6 {cls:=.type "dict",data:=.dict #[]} q) (Aa7 _)
  (aR9 .nil (Ci _) (beq_eq_false_iff_ne.mpr (Ne.symm (Ab9 I.big'))) (Ac3 _ rfl) ⟨rfl,rfl,rfl⟩ rfl rfl List.nodup_nil)
 have P:=h s.heap.objs.size (I.hok.fresh (Aa7 _))
 show wpAny _ _ (evalPairs [_]) _ _ _
 unfold evalPairs;refine Aa (thn (hk M _ σ _ _ D P) λkv s1 pz=>?_)
 obtain⟨x,H1,F,rx,q1⟩:=pz;refine Aa (Bx (Aa (thn (hv M s1 σ H1 _ F q1) λvv s2 pz=>?_)))
 obtain⟨v,H2,j,rv,b,ks,ex,Y,N,q⟩:=pz;refine Aa (wpAny_standAt (Ae ?_));refine Aa (Bx ?_);refine Ae (Ae ?_);subst ex;obtain rfl:kv=Value.ref b:=rx;unfold storeAll;rw[List.forIn_cons];obtain⟨xs,J,z,hd,B⟩:=bH7 j N (λz hz=>by cases hz)
 cases J
 refine Aa (Aa (wpAny_dictSet_heap (show(tupleKind (intKind X.prog X.w)).room X.A from by have:=hr.un;show X.A.units<cLine;lia) (aL2 j Y) B (λh' m U=>?_) (Ci _)))
 refine Ae ?_;dsimp only;rw[List.forIn_nil];refine Ae ⟨.ref s.heap.objs.size,_,?_,rfl,q⟩;obtain⟨o,es,ep,R,h2,h3,h4,_,h5⟩:=m;exact j.write (x:=s.heap.objs.size) (e:=s.heap.objs.size) (by rw[N];exact True.intro) (.inl rfl) (λc q Y z=>(U.2 c Y).trans z) ⟨o,R⟩ (aR9 (.cons ⟨rfl,rfl,rv⟩ .nil) (by rw[Du];show 1<=16777216;decide) hd R h2 h3 h4 h5)
end
end L2
namespace LV
open PySem L2
section
theorem cT6 (r:KvF K H kv kvs):Reps K H (kv.map λx=>V.ref x.2.1) (kvs.map λx=>PyData.tuple (x.1.map PyData.int)):=by
 unfold KvF at r;induction r with
 | nil=>exact .nil
 | cons a _ w=>exact .cons (.tup a.2.1 (by rw[a.1];exact R5 _)) w
end
section
theorem cR3 (D:E K true tk ρ (.tuple (ks.map PyData.int)))(hv:E K true tv ρ d)(im:imm d=true):EFT K (dF2 K tk tv) ρ (.dic [(ks,d)]):=λS B σ H o I Q q p hp=>by
 have U:Same H (upd H p (dicO p [])):=D8 hp
 refine D S B σ _ o (I.grow U) _ λx H1 J rx=>hv S B σ H1 o ((I.grow U).grow J) _ λv m M rv=>?_
 cases rx with
 | @tup b xs _ sq r=>
  have F:=Reps.ints r
  have j:m p=some (dicO p []):=M _ _ (J _ _ C5)
  have X:SqT K m b (ks.map V.int):=by rw[<- F];exact F0 M (F0 P5 sq)
  refine⟨b,ks,rfl,X,j,?_⟩;have R:Same H (upd m p (dicO p [(ks,b,v)])):=λc y z=>by
   have hc:c≠p:=λe=>by rw[e,hp]at z;cases z
   rw[B9 hc];exact M _ _ (J _ _ (U _ _ z))
  have w:∀(a:Addr) (xs:List V),Rd m a (.tup xs)->Rd (hid (λb=>E3 ρ o S b\/b∈[p]) (upd m p (dicO p [(ks,b,v)]))) a (.tup xs):=λa ys z=>by
   have Y:a≠p:=λe=>by
    subst e;rcases z with z | ⟨N,z⟩
    .rw[j]at z;cases z
    .rw[j]at z;cases z
   have z2:Rd (upd m p (dicO p [(ks,b,v)])) a (.tup ys):=by
    rcases z with z | ⟨N,z⟩
    .exact .inl (by rw[B9 Y];exact z)
    .exact .inr ⟨N,by rw[B9 Y];exact z⟩
   refine u9 (λc hc=>?_) z2
   rcases hc with hc | hc
   .obtain⟨u,P⟩:=I.lists c hc;exact⟨u,R _ _ P⟩
   .rw[Ad8.mp hc];exact⟨.x p [(ks,b,v)],C5⟩
  refine q (.ref p) [p] _ R (λc hc=>by rw[Ad8.mp hc];exact hp) (by simp) (.dic C5 rfl (.cons ?_ .nil) (.cons ?_ .nil))
  .exact .tup (X.imp (w _ _) id) (R5 ks)
  .exact bI8 w d im (aT8 z6 d rv)
theorem dK4 (J:EX K t ρ j d ρ1)(X:G K true g d ρ1 ρ')(U:R.nx ρ'):W K (aP5 t g) ρ R:=λS B D σ H o I s=>
 J S B σ H o I _ λv z m Y _ _ _ _ r=>X.2 S B σ z m Y v r _ λM w=>s.nx _ M z m w U
end
end LV
set_option maxHeartbeats 1000000
namespace K39
open PySem L2 LV PyProof.Rows
theorem aK8:C2 ["drawing", "ring", "ways"] ["drawing", "ring"] (B3 aA8):={}
theorem sc_inside:C2 ["drawing", "ring", "outside"] ["drawing", "ring"] (B3 aU7):={}
def Tri (dr:AA)(x y z:Nat):Prop:=y∈TT.trn dr x/\z∈TT.trn dr y/\x∈TT.trn dr z
def rgW (x y z:Nat):List (Nat×Nat):=[(z,x),(x,y),(y,z)]
def dC6 (ds es:AF):Prop:=∃(m:Nat) (dr tr:AA) (x y z:Nat),Dw m dr tr/\Tri dr x y z/\ds=[tD dr,tN [x,y,z]]/\es=(rgW x y z).map λz=>pD (cI z)
def R9 (m:Nat)(dr:AA):AB:=(M3 ((TT.rds (TT.trn dr) (m+3)).map cL)).filter λl=>decide (l≠[0,2,1])
def aW8 (dr:AA)(x y z:Nat):AB:=(TT.fin (TT.trn dr) (rgW x y z) 0 2).rch.map cL
def bA1 (m:Nat)(dr:AA)(x y z:Nat):AB:=(R9 m dr).filter λt => !decide (t∈aW8 dr x y z)
def dR5 (ds es:AF):Prop:=∃(m:Nat) (dr tr:AA) (x y z:Nat),Dw m dr tr/\Tri dr x y z/\ds=[tD dr,tN [x,y,z]]/\es=(bA1 m dr x y z).map tI
def fTd (dr:AA):PyData->Option PyData
 | .tuple [.int p,.int q]=>some (.bool (td dr p q))
 | _=>none
def cX9 (L:AB)(d:PyData):Option PyData:=if(L.map tI).any (λz=>PyData.eqv z d) then none else some d
theorem cP2 (l:AD)(L:AB):(L.map tI).any (λz=>PyData.eqv z (tI l))=decide (l∈L):=by
 rw[List.any_map,Ck,List.any_eq_true,Am];constructor
 .rintro⟨x,hx,h⟩;simp only[Function.comp,o4,Am]at h;rw[<- h];exact hx
 .intro h;exact⟨l,h,by simp[Function.comp,o4]⟩
theorem cO3 (O:AB)(L:AB):(L.map tI).filterMap (cX9 O)=(L.filter λt => !decide (t∈O)).map tI:=by
 induction L with
 | nil=>rfl
 | cons l L w=>
  have e:cX9 O (tI l)=if l∈O then none else some (tI l):=by
   unfold cX9;rw[cP2];by_cases h:l∈O <;> simp[h]
  rw[Ac7,Bo,e,List.filter_cons];by_cases h:l∈O
  .rw[Ac h,Ab (by simp[h])];exact w
  .rw[Ab h,Ac (by simp[h]),Ac7]
   show _::_=_::_
   rw[w]
theorem cC7 (L:AB):Fit (.list (L.map tI)):=(aC2 (n:=1) λd w=>by obtain⟨x,_,rfl⟩:=Aa8.mp w;exact S4 _).fit
theorem Dw.td (w:Dw m dr tr)(z:q∈TT.trn dr p):K39.td dr (p:Int) (q:Int)=true:=by
 have j:=w.lt z
 unfold K39.td
 have:=w.len
 simp only[Aq,Am,Ac8];exact⟨⟨by lia,by lia⟩,Aa8.mpr ⟨q,z,rfl⟩⟩
theorem cY1 (w:Dw m dr tr):(R9 m dr).length<=20:=by
 have h:=w.good.rds_len
 have z:=w.m7
 unfold R9;have h1:=List.length_filter_le (λl:AD=>decide (l≠[0,2,1])) (M3 ((TT.rds (TT.trn dr) (m+3)).map cL))
 rw[(D1 _).length_eq,Aa3]at h1
 lia
theorem aV3 (w:Dw m dr tr):TT.lnd (TT.trn dr) 0 2=[0,2,1]:=by
 have:=w.good.th_un w.good.outs.1
 unfold TT.lnd;rw[<- this];rfl
section
variable {P:Program}{w:World}{K:Frag}{mg:Str->Option Value}{base:Heap}{a:Ad}
theorem dD7 (T:Tx K mg a):K3 P w K mg base CX0 2 a.aQ0 a.aQ2 ["drawing", "ring"] (spL K dC6):=by
 have j := @aS5 P w K mg base a T
 have Y := @bY6 P w K mg base a T
 refine T.aB5.F.ok aK8 (aR3 (by rintro ds d ⟨_,_,_,_,_,_,_,_,rfl,_⟩;rfl)) (λR A J s H vs Q E N h=>?_)
 obtain⟨ds,S,es,B,r,⟨m,X,tr,x,y,z,U,t3,rfl,rfl⟩,q⟩:=h;refine⟨_,(A6 (psS 2 aK8 (pcl j N T.P0 (A0 (pv 1) A5)))
   (A6 (M1 (V7 (O5 (B6 (aP8 K rfl) (by rfl) T.bM8 boot_all (A0 (N2 (T:=["p", "q"]) (N':=["p", "q", "drawing"]) (is:=[0]) rfl (.of rfl rfl rfl (by exact⟨rfl,trivial⟩) rfl rfl rfl (by exact⟨⟨_,rfl,by first | exact .inl rfl | exact .inr rfl,by first | exact .inl rfl | exact .inr rfl⟩,trivial⟩)) (M4 (pv 2)) (dN5 (by decide) (by decide)) λ_ _ _ _=>⟨(T6 (n:=2) rfl (D5 (E9 (i:=0) (by decide +kernel:(["p", "q", "drawing"]:AH).Nodup) rfl (Or.inl rfl)) (D5 (E9 (i:=1) (by decide +kernel:(["p", "q", "drawing"]:AH).Nodup) rfl (Or.inl rfl)) P3))),N7,(pcl Y N T.bT4 (A0 (pv 2) (A0 (pv 0) (A0 (pv 1) A5))))⟩) A5)))) aO5 E8)
   (B1 (C8 (pv 2))))),W0 B r ?_ q⟩
 refine B2 (E4 (ds:=(rgW x y z).map λz=>pD (cI z)) (J5 (A4 v1 A8) ⟨(x:Int),(y:Int),(z:Int),rfl,rfl⟩) ?_ (show 2<3 by decide))
 have M:=J7 (K:=K) (m:=false) (ρ:=[vD X,.val (tN [x,y,z]),.own ((rgW x y z).map λz=>pD (cI z))]) (n:=2) (is:=[0]) (g:=bJ6 K 2 (T0 (F5 0) (T0 (F5 1) aY4))) (tt:=aM1) (te:=Y7 (spV K bY8) [] E0 (C9 (C4 2) (C9 (C4 0) (C9 (C4 1) O1)))) (fTd X) (P6 (F2 (i:=2) rfl)) (show 3<sizeLine by decide) (λd hd=>by
   obtain⟨u,hu,rfl⟩:=Aa8.mp hd;exact⟨_,k7 (ds:=[.int (u.1:Int),.int (u.2:Int)]) (E6 B4 (E6 B4 T7)),y9,D7 (A4 v2 (A4 (LV.E.imm (y6 (i:=0) rfl)) (A4 (LV.E.imm (y6 (i:=1) rfl)) A8))) ⟨X,(u.1:Int),(u.2:Int),rfl,rfl⟩⟩)
 have D:((rgW x y z).map λz=>pD (cI z)).filterMap (fTd X)=[true,true,true].map PyData.bool:=by
  show [PyData.bool (td X (z:Int) (x:Int)),PyData.bool (td X (x:Int) (y:Int)),PyData.bool (td X (y:Int) (z:Int))]=_
  rw[U.td t3.2.2,U.td t3.1,U.td t3.2.1];rfl
 rw[D]at M;refine B2 (U8 (b := !true) (z4 (t_b (cL9 (l:=[true,true,true]) (A4 (EF.e' M) A8)))) (λh=>by cases h) (λh=>F9 ?_))
 exact bJ2 rfl rfl
theorem dS5 (T:Tx K mg a):K3 P w K mg base CX0 6 a.bO6 a.bQ9 ["drawing", "ring"] (spL K dR5):=by
 have Y := @cW8 P w K mg base a T
 have U := @dD7 P w K mg base a T
 have j := @cP4 P w K mg base a T
 refine T.bK9.F.ok sc_inside (aR3 (by rintro ds d ⟨_,_,_,_,_,_,_,_,rfl,_⟩;rfl)) (λcdv A D s H vs Q E N h=>?_)
 obtain⟨ds,S,es,hS,r,⟨m,J,tr,x,y,z,M,t3,rfl,rfl⟩,q⟩:=h;obtain⟨B,gF,sF⟩:=T.W7;refine⟨_,(A6 (aO3 (i:=2) sc_inside.nd rfl (Or.inr rfl) (pcl Y N T.aK3 (A0 (pv 0) (A0 (bY0 (v:=.ref B) rfl gF rfl) (A0 (pcl U N T.aB5 (A0 (pv 0) (A0 (pv 1) A5))) A5)))))
   (B1 (C8 (N2 (T:=["land"]) (N':=["land", "outside"]) (is:=[2]) rfl (.of rfl rfl rfl (by exact⟨rfl,trivial⟩) rfl rfl rfl (by exact⟨⟨_,rfl,by first | exact .inl rfl | exact .inr rfl,by first | exact .inl rfl | exact .inr rfl⟩,trivial⟩)) (M4 (pcl j N T.aD6 (A0 (pv 0) A5))) (J0 (by decide)) λ_ _ _ _=>⟨(E9 (i:=0) (by decide +kernel:(["land", "outside"]:AH).Nodup) rfl (Or.inl rfl)),(X5 (C0 (M5 K N) (pv 0) (pv 1) rfl)),(pv 0)⟩)))),W0 hS r ?_ q⟩
 have R:2∈TT.trn J 0:=(TT.C6 M.good.outs.1).1
 have hO:((M3 (aW8 J x y z)).map tI)=(M3 ((TT.fin (TT.trn J) (rgW x y z) 0 2).rch.map cL)).map tI:=rfl
 refine B2 (E4 (ds:=(M3 (aW8 J x y z)).map tI) (J5 (pre:=dG0) (X:=E0) (A4 v0 (A4 (d:=tI [0,2,1]) (cA0 (v:=.ref B) λH=>.tup (sF H) (.cons (.int _) (.cons (.int _) (.cons (.int _) .nil)))) (A4 (EF.e' (J5 (pre:=dC6) (X:=E0) (A4 v0 (A4 v1 A8)) ⟨m,J,tr,x,y,z,M,t3,rfl,rfl⟩)) A8))) ⟨m,J,tr,0,2,rgW x y z,M,R,by rw[aV3 M];rfl,rfl⟩) ?_ (show 2<3 by decide))
 have hl:=cY1 M
 have cm:=J7 (K:=K) (m:=true) (ρ:=[vD J,.val (tN [x,y,z]),.own ((M3 (aW8 J x y z)).map tI)]) (n:=1) (is:=[2]) (g:=F5 0) (tt:=aD8 (tOp (bI4 K true) (C4 0) (C4 1))) (te:=C4 0) (cX9 (M3 (aW8 J x y z))) (P6 (ds:=(R9 m J).map tI) (EF.e' (J5 (pre:=dE6) (X:=E0) (A4 v0 A8) ⟨m,J,tr,M,rfl,rfl⟩))) (by rw[Aa3];unfold sizeLine;lia) (λd hd=>by
  obtain⟨l,hl,rfl⟩:=Aa8.mp hd;refine⟨_,B4,?_⟩;have e:=S6 (K:=K) (m:=false) (ρ:=(slC [vD J,.val (tN [x,y,z]),.own ((M3 (aW8 J x y z)).map tI)] 1 [2]).set 0 (.val (tI l))) (ds:=(M3 (aW8 J x y z)).map tI) v0 (y6 (i:=1) rfl) rfl (S4 _).fit (cC7 _);show match (if((M3 (aW8 J x y z)).map tI).any (λz=>PyData.eqv z (tI l)) then none else some (tI l)) with | none=>_ | some y=>_
  cases h:((M3 (aW8 J x y z)).map tI).any (λz=>PyData.eqv z (tI l)) with
  | true=>rw[h]at e;exact C3 e
  | false=>rw[h]at e;exact⟨C3 e,A9 rfl⟩)
 rw[cO3]at cm;refine u4 cm ?_;show _=(bA1 m J x y z).map tI;unfold bA1
 congr 1
 refine List.filter_congr λt _=>?_
 rw[Dd.mpr (D1 _).mem_iff]
end
end K39
namespace TT
def rsn (u v:Nat->Nat->Bool)(p q:Nat):Int:=(if u p q then 1 else 0)-(if v p q then 1 else 0)
structure Po (r:Nat->AC)(u v:Nat->Nat->Bool)(H:Nat->Nat->Int):Prop where
 fa:∀q x y,adj (r q) x y->H q x=H x y
 st:∀p q,q∈r p->H q p=H p q-rsn u v p q
 z:H 0 2=0
section
theorem Po.refl:Po r u u λ_ _=>0:=⟨λ_ _ _ _=>rfl,λp q _=>by unfold rsn;lia,rfl⟩
theorem Po.symm (h:Po r u v H):Po r v u λp q => - H p q:=⟨λq x y w=>by rw[h.fa q x y w],λp q j=>by have:=h.st p q j;unfold rsn at *;lia,by have:=h.z;lia⟩
theorem Po.trans (h:Po r u v H)(h':Po r v w H'):Po r u w λp q=>H p q+H' p q:=
 ⟨λq x y j=>by rw[h.fa q x y j,h'.fa q x y j],λp q m=>by have:=h.st p q m;have:=h'.st p q m;unfold rsn at *;lia,by have:=h.z;have:=h'.z;lia⟩
theorem Po.lnd (G:Good n r)(h:Po r u v H)(j:q∈r p)(w:q'∈r p')(e:lnd r p q=lnd r p' q'):H p q=H p' q':=
 (bM5 G (P:=λx y=>H x y=H p' q') (λq x y z=>by rw[h.fa q x y z]) j w e).mpr rfl
theorem cV9 (G:Good n r)(S:Rs r)(j:b∈r a)(m:c∈r b)(Y:a∈r c)
  (h1:∀p q,q∈r p->((p=a/\q=b)\/(p=b/\q=c)\/(p=c/\q=a))->u p q=true/\v p q=false)
  (h2:∀p q,q∈r p->((q=a/\p=b)\/(q=b/\p=c)\/(q=c/\p=a))->u p q=false/\v p q=true)
  (h3:∀p q,q∈r p->¬((p=a/\q=b)\/(p=b/\q=c)\/(p=c/\q=a))->¬((q=a/\p=b)\/(q=b/\p=c)\/(q=c/\p=a))->u p q=v p q) :
  ∃(H:Nat->Nat->Int) (e:Int),(e=1\/e = -1)/\Po r u v H/\∀p q,H p q=0\/H p q=e:=by
 have Q:a≠b:=λe=>G.self b (by rw[e]at j;exact j)
 have F:b≠c:=λe=>G.self c (by rw[e]at m;exact m)
 have B:a≠c:=λe=>G.self c (by rw[e]at Y;exact Y)
 have nd:[a,b,c].Nodup:=by simp[Q,F,B]
 have C:Cy r (gi [a,b,c]) ([a,b,c].length-1):=Cy.ofList nd (by simp) λx y h=>by
  rcases (bL0 Q F B).mp h with⟨rfl,rfl⟩ | ⟨rfl,rfl⟩ | ⟨rfl,rfl⟩
  .exact j
  .exact m
  .exact Y
 obtain⟨f,s,D⟩:=C.sd S;have fs:∀p q,((p=a/\q=b)\/(p=b/\q=c)\/(p=c/\q=a))->f p q=s:=λp q h=>by
  rcases h with⟨rfl,rfl⟩ | ⟨rfl,rfl⟩ | ⟨rfl,rfl⟩
  .exact D.fs 0 (by simp)
  .exact D.fs 1 (by simp)
  .exact D.fs 2 (by simp)
 have P:∀{x y:Nat},zc (gi [a,b,c]) ([a,b,c].length-1) x y=true↔((x=a/\y=b)\/(x=b/\y=c)\/(x=c/\y=a))\/((y=a/\x=b)\/(y=b/\x=c)\/(y=c/\x=a)):=λ{x y}=>by
  rw[aN4 nd (by simp),bL0 Q F B,bL0 Q F B]
 have fx:∀{x y:Nat},y∈r x->xor (f x y) (f y x)=zc (gi [a,b,c]) ([a,b,c].length-1) y x:=λ{x y} h=>by
  obtain⟨q,X⟩:=aT7 h;have e1:=D.fa _ _ _ X;have e2:=D.fb _ _ _ (S.tri _ _ _ X);rw[e1];exact e2
 have R:∀(e:Int),(e=1/\f 0 2 = !s\/e = -1/\f 0 2=s)->Po r u v λp q=>if f p q=f 0 2 then 0 else e:=λe he=>by
  refine⟨λq x y ha=>by rw[D.fa q x y ha],λp q X=>?_,by simp⟩
  have N:=fx X
  by_cases J:(p=a/\q=b)\/(p=b/\q=c)\/(p=c/\q=a)
  .obtain⟨e1,e2⟩:=h1 p q X J;rw[P.mpr (.inr J),fs p q J]at N;have U:f q p = !s:=by revert N;cases s <;> cases f q p <;> simp
   unfold rsn;rw[fs p q J,U,e1,e2];rcases he with⟨rfl,w⟩ | ⟨rfl,w⟩ <;> rw[w] <;> cases s <;> simp
  by_cases M:(q=a/\p=b)\/(q=b/\p=c)\/(q=c/\p=a)
  .obtain⟨e1,e2⟩:=h2 p q X M;rw[P.mpr (.inl M),fs q p M]at N;have U:f p q = !s:=by revert N;cases s <;> cases f p q <;> simp
   unfold rsn;rw[fs q p M,U,e1,e2];rcases he with⟨rfl,w⟩ | ⟨rfl,w⟩ <;> rw[w] <;> cases s <;> simp
  .have hz:zc (gi [a,b,c]) ([a,b,c].length-1) q p=false:=by
    rw[Bool.eq_false_iff];intro z;rcases P.mp z with z | z
    .exact M z
    .exact J z
   rw[hz]at N
   have:f p q=f q p:=by revert N;cases f p q <;> cases f q p <;> simp
   unfold rsn;rw[h3 p q X J M,this];lia
 by_cases w:f 0 2=s
 .exact⟨_,-1,.inr rfl,R _ (.inr ⟨rfl,w⟩),λp q=>by by_cases h:f p q=f 0 2 <;> simp[h]⟩
 .have w:f 0 2 = !s:=by revert w;cases f 0 2 <;> cases s <;> simp
  exact⟨_,1,.inl rfl,R _ (.inl ⟨rfl,w⟩),λp q=>by by_cases h:f p q=f 0 2 <;> simp[h]⟩
end
end TT
namespace LV
open PySem PySem.Spec PySem.Calls PySem.W PyProof.Rows L2 Att
section
variable {prog:Program}{w:World}{A:Around}{E:Ec}{s:Shared}
theorem bH6 (hh:A.handled=none)(lo:(d==sysModules)=false)(hm:RawD s.heap d es ep)(hn:es.size<=sizeLine)
  (hQ:∀h' tk,s.heap.objs.size<=h'.objs.size->(∀b o,s.heap.get? b=some o->h'.get? b=some o)->Q (es.toList.map (·.key)) {s with heap:=h',toks:=tk}):wpAny (model prog w) A (collect (.ref d)) Q E s:=by
 unfold collect;refine Aa (wpAny_runValue (codeAny_builtin F.entry_proto_collect ?_));rw[Around.under_plainId F.plain_proto_collect _];show wpAny _ A.in1 (newList [] >>= λl=>again (.builtin "list.__iadd__" ⟨[l,.ref d],[]⟩)) _ _ s
 refine Aa (Bu ?_);refine Ae ⟨plainId_quiet F.plain_list_iadd _,codeAny_builtin F.entry_list_iadd ?_⟩;rw[Around.under_plainId F.plain_list_iadd _];show wpAny _ A.in1 (Builtin.List.listExtendWith (.ref s.heap.objs.size) (.ref d) (.ref s.heap.objs.size)) _ _ _;have hlt:=hm.lt;have M:s.heap.objs.size≠d:=Nat.ne_of_gt hlt;have conv:∀(r:Result) (X:Shared),(r=.ok (.ret (.ref s.heap.objs.size))/\∃m U,X.heap.get? s.heap.objs.size=some {cls:=.type "list",dict:=none,data:=.seq m U,slots := #[]}/\m.toList=es.toList.map (·.key)/\Q (es.toList.map (·.key)) X)->(match r with
   | .ok (.ret v)=>wpAny (model prog w) A (match v with
    | .ref a=>do
     let o <- load a
     match o.data with
     | .seq xs _=>pure xs.toList
     | _=>unsupported "internal:collect"
    | _=>unsupported "internal:collect") Q E X
   | .ok _=>False
   | .error e=>E e X):=by
  rintro r X ⟨rfl,m,U,h1,D,B⟩;show wpAny _ A (load s.heap.objs.size >>= _) _ _ _;refine Aa (wpAny_load h1 (Ae ?_));rw[D];exact B
 refine wpAny_mono (kdl_extend (A:=A) (R:=λr X=>r=.ok (.ret (.ref s.heap.objs.size))/\∃m U,X.heap.get? s.heap.objs.size=some {cls:=.type "list",dict:=none,data:=.seq m U,slots := #[]}/\m.toList=es.toList.map (·.key)/\Q (es.toList.map (·.key)) X) (s:={s with heap:=s.heap.push {cls:=.type "list",data:=.seq ([]:AG).toArray}}) (cG0 (es:=es) (ep:=ep) lo) hh (hm.kp λo e=>Aa6 _ e) s.heap.objs.size M M (.ref s.heap.objs.size) 0 (Ac3 _ rfl) (λh' tk m U hk J Y=>?_) hn) (λfin X P=>?_) λe X N=>by obtain⟨z,_⟩:=N;cases z
 .have e:m.toList=es.toList.map (·.key):=by
   refine List.ext_getElem? λj=>?_
   rw[Dy,Aa9,Dy];by_cases hj:j<es.size
   .have h1:j<m.size:=by rw[Y.1];exact hj
    obtain⟨e,D,B⟩:=Y.2 j _ (Bf h1);rw[Bf h1,D,B];rfl
   .rw[Dq (by rw[Y.1];lia),Dq (by lia)];rfl
  exact⟨rfl,m,U,J,e,hQ _ _ (Cp (Ab3 J)) λb o N=>hk b o (Ab9 (Ab3 N)) (Aa6 _ N)⟩
 .cases fin with
  | done f=>exact conv _ _ P
  | again U=>exact⟨P.1,codeAny_mono P.2 λr s'' h=>conv r s'' h⟩
theorem bM3 (hc:∀(Q':AG->Shared->Prop) (E':Ec),(∀h' tk,s.heap.objs.size<=h'.objs.size->(∀b o,s.heap.get? b=some o->h'.get? b=some o)->Q' vs {s with heap:=h',toks:=tk})->wpAny (model prog w) A.in1 (collect (.ref l)) Q' E' s)
  (F:Fr h₀ L s.heap m) (N:News h₀ L s.heap news) (P:2<=vs.length) (U:vs.length<64)
  (h:∀D e1 h' tk,Fr h₀ L h' m->News h₀ L h' ((D,seqObj "list" #[] e1)::news)->(∀q∈news,q.1<D) ->
   wpAny (model prog w) A.in1.in1 (keyKind' vs.toArray) (λκ s'=>(kas_sort vs.length).kasWp (kas_ask prog w A.in1.in1 κ vs) (λp s''=>KasFin h₀ L m D e1 (p.toList.map λi=>vs.getD i Value.none) (λs3=>Q (.ref D) s3) s'') s') (λ_ _=>False) {s with heap:=h',toks:=tk}) :
  wpAny (model prog w) A (call (.builtin "sorted") [.ref l]) Q E s:=by
 refine Calls.call_function_entry kind_sorted plain_sorted entry_sorted (args_sorted1 _) ?_;unfold Builtin.«sorted»;refine Aa (m:=checkCount "sorted" 1 1 _) (Ae ?_);refine Aa (hc _ _ λg tk z X=>?_)
 refine Aa (wpAny_newList ?_ (by rw[Du];lia))
 have Y:(g.push (seqObj "list" vs.toArray 0)).get? g.objs.size=some (seqObj "list" vs.toArray 0):=Ac3 _ rfl
 have keep:∀b o,s.heap.get? b=some o->(g.push (seqObj "list" vs.toArray 0)).get? b=some o:=λb o q=>Aa6 _ (X b o q)
 have hL:L<s.heap.objs.size:=F.ns.lt
 have j:L<g.objs.size:=Ab8 hL z
 refine Aa (Bx (Cf slot_list_sort ⟨_,Y,rfl⟩ entry_list_sort ?body (args_list_sort _)))
 case body=>
  refine kat_list_sort (s:={s with heap:=g.push (seqObj "list" vs.toArray 0),toks:=tk})
   (F.kept keep) (N.grown keep) Y (Nat.ne_of_gt j) (Heap.get?_none_of_le (Bd F.above (Cp j)))
   (λp hp=>Ab9 (Ab8 (Ab3 (N p hp).1) z)) P U λe1 h' R B=>?_
  refine wpAny_mono (h _ e1 h' tk R B λq M=>Ab8 (Ab3 (N q M).1) z) (λκ s' X=>?_) λ_ _ x=>x
  rw[kat_ask_eq rfl]at X ⊢;exact kas_wp_mono X λp s'' J=>J.mono λs3 M=>⟨_,rfl,Ae ⟨_,rfl,M⟩⟩
theorem bG3 (hc:∀(Q':AG->Shared->Prop) (E':Ec),(∀h' tk,s.heap.objs.size<=h'.objs.size->(∀b o,s.heap.get? b=some o->h'.get? b=some o)->Q' vs {s with heap:=h',toks:=tk})->wpAny (model prog w) A.in1 (collect (.ref l)) Q' E' s)
  (hL:s.heap.Ns L m) (ht:TupsAt s.heap vs ts) (J:∀a,Value.ref a∈vs->a≠L) (h2:2<=vs.length) (h64:vs.length<64)
  (h:∀h' tk D (p:AC) c,h'.Ns L m->(∀b o,b≠L->s.heap.get? b=some o->h'.get? b=some o)->s.heap.get? D=none->h'.get? D=some {cls:=.type "list",data:=.seq (p.map λi=>vs.getD i .none).toArray c}->p.Perm (List.range vs.length)->(p.map λi=>ts.getD i []).Pairwise G9->Q (.ref D) {s with heap:=h',toks:=tk}) :
  wpAny (model prog w) A (call (.builtin "sorted") [.ref l]) Q E s:=by
 have hlen:=ht.length
 refine bM3 hc (cK5 hL) bN9 h2 h64 λD e1 h' tk F' N' hD=>?_
 have kp:∀b o,b≠L->s.heap.get? b=some o->h'.get? b=some o:=λb o hb e=>(N' (b,o) (Ad4 _ (Q9 hb (Q2 _ _) e))).1
 have DL:D≠L:=(N' _ Bl).2.1
 have hDs:s.heap.get? D=none:=by
  cases e:s.heap.get? D with
  | none=>rfl
  | some o=>exact absurd (hD (D,o) (Q9 DL (Q2 _ _) e)) (Ad9 _)
 have Y:TupsAt h' vs ts:=ht.keep λa its ha ⟨o,e,r⟩=>⟨o,kp a o (J a ha) e,r⟩
 obtain⟨fs,k1,k2,k3⟩:=Y.kat;refine kat_kind (s:={s with heap:=h',toks:=tk}) k1 (by lia) (T:=.type "int") (λv hv=>?_) (by decide) ?_
 .obtain⟨i,t,rfl⟩:=k3 v hv;exact λA Q E s _ q=>wpAny_of_eq (show typeOf (Value.int i t)=pure (.type "int") from rfl) q
 have et:(Value.type "int" != Value.type "tuple")=true:=by decide
 rw[et];obtain⟨F,e0,hp,hs,ha⟩:=LS.cC6 (cD0 λi=>ts.getD i []) (N:=vs.length) (by lia)
 refine LS.cQ6 (P:=λi=>i<vs.length) (lt:=λi j=>HT.Y4 (ts.getD i []) (ts.getD j [])) (λi j C hi hj hC=>?_) _ ha ?_
 .obtain⟨a,its,e,⟨o,h1,c1,n1,d1⟩,r1⟩:=Y.get (i:=i) (by lia)
  obtain⟨a',R,e',⟨o',h1',c1',n1',d1'⟩,B⟩:=Y.get (i:=j) (by lia)
  unfold kas_ask;rw[e,e'];refine kat_lt (s:={s with heap:=h',toks:=tk}) h1 d1 h1' d1' ?_
  have el:decide (its.size<R.size)=decide ((ts.getD i []).length<(ts.getD j []).length):=by
   have a1:=r1.length;have a2:=B.length
   simp only[Ax]at a1 a2;rw[a1,a2]
  rw[el];exact aB3 0 r1 B hC
 .rw[e0];refine KasFin.intro F' N' (.head λp hp z=>?_) λU c F'' X=>?_
  .have:=hD p hp
   rw[z]at this;exact absurd this (Ad9 _)
  .have kp2:∀b o,b≠L->s.heap.get? b=some o->U.get? b=some o:=λb o hb e=>(X (b,o) (Ad4 _ (Q9 hb (Q2 _ _) e))).1
   have M:F.toList.Perm (List.range vs.length):=by simpa using(Array.perm_iff_toList_perm.mp hp)
   refine h U tk D F.toList c F''.ns kp2 hDs (X _ Bl).1 M ?_;rw[Ae0,List.pairwise_iff_getElem];intro i j hi hj hij;have hz:F.toList.length=vs.length:=by rw[M.length_eq];simp
   have:=hs i j (Cp hij) (by lia)
   unfold LS.le at this;rw[LS.aR4,LS.aR4]at this;have hi':i<F.size:=by simpa using hi
   have hj':j<F.size:=by simpa using hj
   simp only[Bf hi',Bf hj',Option.getD_some]at this;unfold G9;simpa using this
end
section
def rSK (K:Frag):List V->Hp->VK->Prop:=λxs H Q=>∃(p:Addr) (kv:List (AD×Addr×V)),xs=[.ref p]/\H p=some (dicO p kv)/\aZ6 K H kv/\(∀x∈kv,x.1≠[])/\2<=kv.length/\kv.length<64 /\
  ∀a (q:AC),H a=none->q.Perm (List.range kv.length)->(q.map λi=>(kv.map (·.1)).getD i []).Pairwise G9->Q (.ref a) (upd H a (.lst (q.map λi=>(kv.map λx=>V.ref x.2.1).getD i .non)))
theorem aT4 {K:Frag}{H:Hp}:∀{kv:List (AD×Addr×V)},aZ6 K H kv->(∀x∈kv,x.1≠[])->TupsV K H (kv.map λx=>V.ref x.2.1) (kv.map (·.1))
 | [],_,_=>trivial
 | x::kv,h,hn=>⟨⟨x.2.1,rfl,h x (by simp),hn x (by simp)⟩,aT4 (λz w=>h z (by simp[w])) λz w=>hn z (by simp[w])⟩
theorem bT8 (K:Frag)(hc:X.calm=true)(h:X.K=K:=by rfl):V2 X (.builtin "sorted") (rSK K):=by
 subst h;intro aA s σ H xs us Q I r ⟨p,kv,e,hq,hk,hn,h2,h64,q⟩;subst e;obtain⟨u,rfl,rx⟩:=X4 r;cases rx;obtain⟨xs,es,ep,rr,z,hd,J,R,_⟩:=dK3 I hq;have hz:=cK6 rr R;have M:Vals (kv.map λx=>V.ref x.2.1) (es.toList.map (·.key)):=by
  rw[R,Ae2];exact KvR.refs rr
 have w:=M.length
 rw[Aa3]at w;obtain⟨m,F,_⟩:=I.loc;obtain⟨ta,tl⟩:=bH5 I (aT4 hk hn) M;refine bG3 (λQ' E' U=>bH6 (by have:=I.ok.hd hc;simp[this]) hd J (by rw[hz];exact z) U) F ta tl (by lia) (by lia) λh' tk D B c j kp hD el hp hs=>?_
 have Y:∀i∈B,i<(kv.map λx=>V.ref x.2.1).length:=λi hi=>by have:=Ab5.mp (hp.mem_iff.mp hi);rw[Aa3];lia
 have N:=aN9 M Y
 obtain⟨P,I'⟩:=aV0 I F j kp hD el N (by rw[Aa3,hp.length_eq,Cr];lia)
 exact⟨.ref D,_,I'.tok tk,rfl,q D B P (by rw[w];exact hp) hs⟩
end
end LV
namespace LV
open PySem L2 PyProof.Rows
section
variable {K:Frag}{ρ:List Sl}{m:Bool}{td:TE}
theorem cL0 {kvs:List (AD×PyData)}{ss:AB}(h:E K false td ρ (.dict (R7 kvs)))(U:∀x∈kvs,x.1≠[])(z:2<=kvs.length)(D:kvs.length<64)(hp:ss.Perm (kvs.map (·.1)))(P:ss.Pairwise G9) :
  EF K (tCB (rSK K) (C9 td O1)) ρ (ss.map tI):=
 dC7 (ds:=[.dict (R7 kvs)]) (A4 h A8) (U9 aN7 ss) λH vs Q r q=>by
  cases r with
  | cons a b=>
   cases b
   obtain⟨p,kv,rfl,e,k⟩:=bZ0 a;have X:=k.keys;have hl:kv.length=kvs.length:=by have:=congrArg List.length X;simpa using this
   have r:=cT6 k
   have N:(kvs.map λx=>PyData.tuple (x.1.map PyData.int))=(kvs.map (·.1)).map tI:=by rw[Ae2];rfl
   rw[N]at r;refine⟨p,kv,rfl,e,k.keyR,λx hx=>?_,by lia,by lia,λa Y h1 z J=>q a _ h1 ?_⟩
   .have:x.1∈kvs.map (·.1):=by rw[<- X];exact List.mem_map_of_mem hx
    obtain⟨y,hy,e⟩:=Aa8.mp this;rw[<- e];exact U y hy
   .rw[X]at J;have B:(kv.map λx=>V.ref x.2.1).length=kv.length:=Aa3 ..
    have e:(Y.map λi=>(kvs.map (·.1)).getD i [])=ss:=by
     have w:(Y.map λi=>(kvs.map (·.1)).getD i []).Perm (kvs.map (·.1)):=by
      have M:(Y.map λi=>(kvs.map (·.1)).getD i []).Perm ((List.range kv.length).map λi=>(kvs.map (·.1)).getD i []):=z.map _
      have R:(List.range kv.length).map (λi=>(kvs.map (·.1)).getD i [])=kvs.map (·.1):=by
       refine List.ext_getElem? λj=>?_
       by_cases F:j<kv.length
       .rw[P7 F];simp[List.getD,Aa2 (show j<kvs.length by lia)]
       .rw[Ad6 (by simp;lia),Ad6 (by simp;lia)]
      rw[R]at M;exact M
     exact List.Perm.eq_of_pairwise (le:=G9) (λa b _ _ h1 z=>aJ3 a b h1 z) J P (w.trans hp.symm)
    have:=aN5 r (q:=Y) λi hi=>by
     have:=Ab5.mp (z.mem_iff.mp hi)
     rw[Aa3];exact this
    rw[e]at this;exact this
end
end LV
namespace PySem
open Sem (wp)
namespace F
end F
end PySem
namespace PySem
open Sem (wp)
end PySem
namespace LV
open PySem PySem.Spec PyProof.Rows L2
end LV
namespace L2
open PySem PySem.Spec PyProof.Rows
section
theorem cO5 (J:A.handled=none)(m:s.heap.IsTuple l (intItems xs))(Y:0<xs.size)
  (h:∀v h' tk,(intItems xs)[argBest (λi j=>decide (numAt xs i>numAt xs j)) (xs.size-1)]? = some v->(∀b o,s.heap.get? b=some o->h'.get? b=some o)->Q v {s with heap:=h',toks:=tk}):wpAny (model P w) A (call (.builtin "max") [.ref l]) Q E s:=by
 have z:l<s.heap.objs.size:=by obtain⟨_,e,_⟩:=m;exact Ab3 e
 refine call_max_walk (wpAny_pyIter_tuple m ?_);refine⟨_,_,_,_,_,_,_,rfl,Walks.tuple (A:=A.in1) J _ l (Ab9 z) (intItems xs),⟨⟨_,Ac3 _ rfl,rfl,rfl⟩,bL8 (b:=l) m λo e=>Aa6 _ e⟩,λb X=>?_,by simpa[intItems]using Y,CmpOf.ints_gt (numAt xs) (λ_ _=>intItems_at),λv h' tk U M=>?_⟩
 .show b<(s.heap.push _).objs.size
  rw[Dl];simp only[Aa1,Ac2,or_false]at X;rcases X with rfl | rfl
  .exact Nat.lt_succ_self _
  .exact Dm z
 .exact h v h' tk (by simpa[intItems]using U) λb o e=>M b o (λN=>by
   have e1:b=s.heap.objs.size:=by simpa using N
   exact absurd (e1▸Ab3 e) (Ad9 _)) (Aa6 _ e)
theorem cF1 (K:Frag)(R:X.calm=true)(h:X.K=K:=by rfl):V2 X (.builtin "max") (λxs H Q=>∃(p:Addr) (l:AD),xs=[.ref p]/\SqT K H p (l.map V.int)/\l≠[]/\∀M,M∈l->(∀a∈l,a<=M)->Q (.int M) H):=by
 subst h;intro aA s σ H xs us Q I r ⟨p,ns,e,B,z,q⟩;subst e;obtain⟨u,rfl,rx⟩:=X4 r;cases rx;obtain⟨its,rv,J,_⟩:=I.tuple B;have hi:=LV.O7 rv;obtain⟨xs,e⟩:=hi.allInts.items;have w:ns=xs.toList.map (·.1):=by rw[<- hi.numsOf,<- nums_intItems,<- e]
 have m:0<xs.size:=by
  have Y:=Dc.mpr z;rw[w,Aa3,Ax]at Y;exact Y
 rw[e]at J;refine cO5 (I.ok.hd R) J m λv h' tk P F=>?_
 obtain⟨t,rfl⟩:=intItems_at P;obtain⟨h1,N⟩:=argBest_gt (numAt xs) (xs.size-1);refine⟨.int _,H,I.kept F,⟨_,rfl⟩,q _ ?_ λa U=>?_⟩
 .rw[w,numAt_eq];exact getD_mem (by rw[Aa3,Ax];lia)
 .rw[w]at U;obtain⟨j,D,rfl⟩:=mem_getD U;rw[Aa3,Ax]at D;rw[<- numAt_eq];exact N j (by lia)
end
end L2
namespace LV
open PySem PySem.Spec PyProof.Rows L2
section
variable {K:Frag}{ρ:List Sl}{m:Bool}{t ta tb:TE}{d d':PyData}{ds es:AF}
theorem dI0 {t:TA}{l:AD}{M:Int}(Y:A K false t ρ [tI l])(w:M∈l/\∀a∈l,a<=M):E K m (tCB (λxs H Q=>∃(p:Addr) (l:AD),xs=[.ref p]/\SqT K H p (l.map V.int)/\l≠[]/\∀M,M∈l->(∀a∈l,a<=M)->Q (.int M) H) t) ρ (.int M):=cE8 Y λH vs Q r q=>by
 cases r with
 | cons a b=>
  cases b
  obtain⟨p,rfl,s⟩:=bJ3 a;refine⟨p,l,rfl,s,List.ne_nil_of_mem w.1,λz h1 j=>?_⟩
  have:z=M:=Int.le_antisymm (w.2 z h1) (j M w.1)
  rw[this];exact q _ λ_=>.int _
end
end LV
set_option maxHeartbeats 1000000
namespace K39
open PySem L2 LV PyProof.Rows
theorem S0:C2 ["_law_outs", "_law_pairs", "_law_v", "_law_place"] ["_law_outs"] (B3 e8):={}
def dH3 (ds:AF)(d:PyData):Prop:=∃(m:Nat) (dr tr:AA),Dw m dr tr/\ds=[tD tr]/\d=.tuple ((sp (arr tr)).map pD)
theorem m8 (ps:List (Int×Int)):Fit (.tuple (ps.map pD)):=(bL5 (n:=1) λd w=>by obtain⟨x,_,rfl⟩:=Aa8.mp w;exact S7 x).fit
structure AI (dr:AA)(ps:List (Int×Int)):Prop where
 nd:ps.Nodup
 len:ps.length<=21
 lo:∀x∈ps,3<=x.1/\x.1<(dr.length:Int)/\0<=x.2/\x.2<(dr.length:Int)
 tie:∀x∈ps,td dr x.1 x.2=true
 anti:∀x∈ps,(x.2,x.1)∉ps
 out:∀b:Int,(ps.filter λx=>decide (x.1=b)).length<=3
theorem AI.perm (h:AI dr ps)(p:qs.Perm ps):AI dr qs:=
 ⟨p.nodup_iff.mpr h.nd,by rw[p.length_eq];exact h.len,λx w=>h.lo x (p.mem_iff.mp w),λx w=>h.tie x (p.mem_iff.mp w),λx w z=>h.anti x (p.mem_iff.mp w) (p.mem_iff.mp z),λb=>by rw[(p.filter _).length_eq];exact h.out b⟩
theorem dB1 (h:a.Perm b):M3 a=M3 b:=
 List.Perm.eq_of_pairwise (le:=G9) (λx y _ _ h1 w=>aJ3 x y h1 w) (R3 a) (R3 b) (((D1 a).trans h).trans (D1 b).symm)
theorem cM2 (h:a.Perm b):sp a=sp b:=by unfold sp;rw[dB1 (h.map toL)]
def rl1 (ps:List (Int×Int))(x:Int×Int):AB:=ps.filterMap λy=>if y.1=x.2/\(y.2,x.1)∈ps/\x.1<x.2/\x.1<y.2 then some [x.1,x.2,y.2] else none
def rgL (ps:List (Int×Int)):AB:=ga (λi=>rl1 ps (gp ps i)) ps.length
theorem aL1 {α:Type}{g g':Nat->List α}:∀{n:Nat},(∀i,i<n->(g i).Perm (g' i))->(ga g n).Perm (ga g' n)
 | 0,_=>by simp[ga]
 | n+1,h=>by rw[S5,S5];exact(aL1 λi hi=>h i (by lia)).append (h n (by lia))
theorem rl1_mem:v∈rl1 ps x↔∃c,v=[x.1,x.2,c]/\(x.2,c)∈ps/\(c,x.1)∈ps/\x.1<x.2/\x.1<c:=by
 unfold rl1;rw[List.mem_filterMap];constructor
 .rintro⟨y,hy,e⟩;split at e
  .rename_i h;obtain⟨h1,w,z,j⟩:=h;refine⟨y.2,(Ab4 e).symm,?_,w,z,j⟩;rw[<- h1];exact hy
  .cases e
 .rintro⟨c,rfl,h1,w,z,j⟩;exact⟨(x.2,c),h1,Ac ⟨rfl,w,z,j⟩⟩
theorem bT7 (nd:ps.Nodup)(x:Int×Int):(rl1 ps x).Nodup:=by
 unfold rl1;refine List.Pairwise.filterMap _ (λa b w u z v j e=>?_) nd
 split at z
 .split at j
  .rename_i h1 h2;rw[<- Ab4 z,<- Ab4 j]at e;simp at e;exact w (Prod.ext (by rw[h1.1,h2.1]) e)
  .cases j
 .cases z
theorem cZ4 (h:AI dr ps)(x:Int×Int):(rl1 ps x).length<=3:=by
 have e:rl1 ps x=(ps.filter λy=>decide (y.1=x.2)).filterMap λy=>if y.1=x.2/\(y.2,x.1)∈ps/\x.1<x.2/\x.1<y.2 then some [x.1,x.2,y.2] else none:=by
  unfold rl1;rw[List.filterMap_filter];refine M7 λy _=>?_
  by_cases h:y.1=x.2 <;> simp[h]
 rw[e];exact Bd (List.length_filterMap_le _ _) (h.out _)
theorem bR4 (h:AI dr ps)(hi:i<=ps.length):(ga (λi=>rl1 ps (gp ps i)) i).length<=3*i:=by
 induction i with
 | zero=>simp[ga]
 | succ i w=>rw[S5,Ab7];have:=w (by lia);have:=cZ4 h (gp ps i);lia
theorem aS9 (h:AI dr ps):(rgL ps).length<64:=by
 have:=bR4 h (Aa7 ps.length);have:=h.len;unfold rgL;lia
theorem rgL_mem:v∈rgL ps↔∃a b c,v=[a,b,c]/\(a,b)∈ps/\(b,c)∈ps/\(c,a)∈ps/\a<b/\a<c:=by
 unfold rgL;rw[ga_mem];constructor
 .rintro⟨i,hi,h⟩;obtain⟨c,e,h1,w,z,j⟩:=rl1_mem.mp h;exact⟨_,_,c,e,Av (aW6 hi),h1,w,z,j⟩
 .rintro⟨a,b,c,rfl,h1,w,z,j,h5⟩;obtain⟨i,hi,e⟩:=List.mem_iff_getElem.mp h1;refine⟨i,hi,rl1_mem.mpr ?_⟩;have m:gp ps i=(a,b):=by
   have:=aW6 hi
   rw[Aa2 hi,e]at this;exact(Ab4 this).symm
  rw[m];exact⟨c,rfl,w,z,j,h5⟩
def sw (x:Int×Int):Int×Int:=(x.2,x.1)
def tw (ps W:List (Int×Int)):List (Int×Int):=ps.filter (λp=>decide (p∉W))++W.map sw
theorem cX3 {ps W W':List (Int×Int)}(h:W.Perm W'):(tw ps W).Perm (tw ps W'):=by
 unfold tw
 have:(λp:Int×Int=>decide (p∉W))=λp=>decide (p∉W'):=by funext p;rw[Dd];rw[h.mem_iff]
 rw[this];exact(List.Perm.refl _).append (h.map sw)
theorem AI.ne (h:AI dr ps)(w:(p,q)∈ps):p≠q:=λe=>by
 subst e;exact h.anti _ w w
theorem dG5 (h:AI dr ps)(j:∀w∈wys x y z,w∈ps):(wys x y z).Nodup:=by
 have h1:=h.ne (j (z,x) (by simp[wys]))
 have m:=h.ne (j (x,y) (by simp[wys]))
 have Y:=h.ne (j (y,z) (by simp[wys]))
 simp only[wys,Aa5,Aa1,Ac2,or_false,not_or,Cu,not_false_eq_true,List.nodup_nil,and_true];refine⟨⟨λe=>h1 e.1,λe=>h1 ?_⟩,λe=>m e.1⟩
 exact absurd e.1.symm Y
theorem dI5 (w:Dw m dr tr)(h:td dr p q=true)(j:0<=q/\q<(dr.length:Int)):td dr q p=true:=by
 unfold td at h ⊢;simp only[Aq,Am]at h ⊢;obtain⟨⟨h1,X⟩,z⟩:=h;obtain⟨u,Y,e⟩:=Aa8.mp z;refine⟨j,Aa8.mpr ⟨p.toNat,?_,by lia⟩⟩
 obtain⟨_,F,G,f,B⟩:=w
 have:=B.good.sym Y
 rw[show q.toNat=u by lia];exact this
theorem AI.turn (F:Dw m dr tr)(h:AI dr ps)(X:∀w∈wys x y z,w∈ps):AI dr (tw ps (wys x y z)):=by
 have D:=dG5 h X
 have m1:=X (z,x) (by simp[wys])
 have m2:=X (x,y) (by simp[wys])
 have m3:=X (y,z) (by simp[wys])
 have Y:∀{p q:Int},(p,q)∈(wys x y z).map sw->(q,p)∈wys x y z:=λ{p q} J=>by
  obtain⟨⟨u,v⟩,hu,e⟩:=Aa8.mp J;unfold sw at e;cases e;exact hu
 have j:∀{u:Int×Int},u∈ps.filter (λp=>decide (p∉wys x y z))↔u∈ps/\u∉wys x y z:=λ{u}=>by simp[Ap]
 have Q:((wys x y z).map sw).Nodup:=by
  rw[Ac6,Ae0];refine D.imp λ{a b} R e=>R ?_
  unfold sw at e;simp only[Cu]at e;exact Prod.ext e.2 e.1
 have U:∀(b:Int),((wys x y z).filter (λu=>decide (u.1=b))).length+((ps.filter (λp=>decide (p∉wys x y z))).filter (λu=>decide (u.1=b))).length<=(ps.filter (λu=>decide (u.1=b))).length:=λb=>by
  rw[<- Ab7];refine bY7 (Aa4.mpr ⟨List.Pairwise.filter _ D,List.Pairwise.filter _ (List.Pairwise.filter _ h.nd),λu hu v M e=>?_⟩) λu hu=>?_
  .subst e;exact(j.mp (Ap.mp M).1).2 (Ap.mp hu).1
  .rcases Aa0.mp hu with hu | hu
   .exact Ap.mpr ⟨X u (Ap.mp hu).1,(Ap.mp hu).2⟩
   .exact Ap.mpr ⟨(j.mp (Ap.mp hu).1).1,(Ap.mp hu).2⟩
 have N:∀b:Int,(((wys x y z).map sw).filter (λu=>decide (u.1=b))).length=((wys x y z).filter (λu=>decide (u.1=b))).length:=λb=>by
  unfold wys sw;simp only[Ac7,Cj,List.filter_cons,List.filter_nil,Am];by_cases e1:z=b <;> by_cases e2:x=b <;> by_cases e3:y=b <;> simp[e1,e2,e3]
 refine⟨?_,?_,λu hu=>?_,λu hu=>?_,λu hu hn=>?_,λb=>?_⟩
 .refine Aa4.mpr ⟨List.Pairwise.filter _ h.nd,Q,λu hu v M e=>?_⟩
  subst e;obtain⟨p,q⟩:=u;exact h.anti _ (X _ (Y M)) (j.mp hu).1
 .unfold tw;rw[Ab7,Aa3]
  have:((wys x y z)++ps.filter (λp=>decide (p∉wys x y z))).length<=ps.length:=bY7 (Aa4.mpr ⟨D,List.Pairwise.filter _ h.nd,λu hu v M e=>by subst e;exact(j.mp M).2 hu⟩) λu hu=>(Aa0.mp hu).elim (X u) λhu=>(j.mp hu).1
  rw[Ab7]at this
  have:=h.len;lia
 .rcases Aa0.mp hu with hu | hu
  .exact h.lo u (j.mp hu).1
  .obtain⟨p,q⟩:=u;have J:=Y hu;have B:=h.lo _ m1;have P:=h.lo _ m2;have l3:=h.lo _ m3;simp only[wys,Aa1,Ac2,or_false,Cu]at J;dsimp only at B P l3 ⊢
   lia
 .rcases Aa0.mp hu with hu | hu
  .exact h.tie u (j.mp hu).1
  .obtain⟨p,q⟩:=u;have J:=X _ (Y hu);exact dI5 F (h.tie _ J) ⟨(h.lo _ J).2.2.1,(h.lo _ J).2.2.2⟩
 .obtain⟨p,q⟩:=u;rcases Aa0.mp hu with hu | hu
  .rcases Aa0.mp hn with hn | hn
   .exact h.anti _ (j.mp hu).1 (j.mp hn).1
   .exact(j.mp hu).2 (Y hn)
  .rcases Aa0.mp hn with hn | hn
   .exact(j.mp hn).2 (Y hu)
   .exact h.anti _ (X _ (Y hu)) (X _ (Y hn))
 .unfold tw;rw[Dk,Ab7,N b]
  have:=U b;have:=h.out b;lia
theorem bL7 {α:Type}{g:Nat->List α}:∀{n:Nat},(∀i,i<n->(g i).Nodup)->(∀i j,i<j->j<n->∀x∈g i,x∉g j)->(ga g n).Nodup
 | 0,_,_=>by simp[ga]
 | n+1,h1,h2=>by
  rw[S5];refine Aa4.mpr ⟨bL7 (λi hi=>h1 i (by lia)) (λi j w Y=>h2 i j w (by lia)),h1 n (by lia),λx z y m e=>?_⟩
  subst e;obtain⟨i,hi,z⟩:=ga_mem.mp z;exact h2 i n hi (by lia) x z m
theorem aW0 (w:Dw m dr tr)(j:v<m):ga1 tr v=[(3+(v:Int),(TT.og tr 0 (v+3):Int)),(3+(v:Int),(TT.og tr 1 (v+3):Int)),(3+(v:Int),(TT.og tr 2 (v+3):Int))]:=by
 obtain⟨r,h1,z⟩:=w.t3 j;unfold ga1 TT.og;rw[Ac0,show v+3-3=v by lia,h1]
 match r,z with
 | [a,b,c],_=>rfl
theorem aI8 (j:Dw m dr tr)(h:x∈arr tr):∃v c,v<m/\c<3/\x=(((v+3:Nat):Int),(TT.og tr c (v+3):Int)):=by
 obtain⟨v,w,z⟩:=ga_mem.mp h;rw[j.tl]at w;rw[aW0 j w]at z;simp only[Aa1,Ac2,or_false]at z;rcases z with rfl | rfl | rfl
 .exact⟨v,0,w,by lia,by rw[show((v+3:Nat):Int)=3+(v:Int) by lia]⟩
 .exact⟨v,1,w,by lia,by rw[show((v+3:Nat):Int)=3+(v:Int) by lia]⟩
 .exact⟨v,2,w,by lia,by rw[show((v+3:Nat):Int)=3+(v:Int) by lia]⟩
theorem bX3 {F G:Nat->Nat}{m:Nat}{f:Nat->Nat}{d t:AA}(B:TT.Bt F G m f d t){p:Nat}(U:3<=p)(hp:p<m+3):(TT.og t 0 p≠TT.og t 1 p/\TT.og t 0 p≠TT.og t 2 p/\TT.og t 1 p≠TT.og t 2 p)/\∀i j,i<3->j<3->3<=TT.og t i p->TT.og t i p<m+3->TT.og t j (TT.og t i p)≠p:=by
 obtain⟨a,b,c,R⟩:=B.ring U hp;have nd:=R.nd;simp only[Aa5,Aa4,Aa0,Aa1,not_or]at nd;obtain⟨⟨J,Q,D,P,n5⟩,n6,⟨⟨n7,n8,n9⟩,M,⟨Y,N⟩,X⟩,w⟩:=nd;refine⟨⟨Q,P,n8⟩,λi j hi hj h z e=>?_⟩
 have hm:TT.og t i p∈a\/TT.og t i p∈b\/TT.og t i p∈c:=by
  rcases (show j=0\/j=1\/j=2 by lia) with rfl | rfl | rfl
  .exact .inr (.inl (R.kb _ h z e))
  .exact .inr (.inr (R.kc _ h z e))
  .exact .inl (R.ka _ h z e)
 rcases (show i=0\/i=1\/i=2 by lia) with rfl | rfl | rfl
 .rcases hm with hm | hm | hm
  .exact J hm
  .exact D hm
  .exact n5 hm
 .rcases hm with hm | hm | hm
  .exact w _ hm _ (.inl rfl) rfl
  .exact n7 hm
  .exact n9 hm
 .rcases hm with hm | hm | hm
  .exact w _ hm _ (.inr (.inr (.inl rfl))) rfl
  .exact X _ hm _ (.inl rfl) rfl
  .exact Y hm
theorem dG1 (z:Dw m dr tr):AI dr (arr tr):=by
 have tl:=z.tl
 have m7:=z.m7
 have D:=z.len
 obtain⟨F,G,f,B⟩:=z.bt;have fs:∀i,i<m->∀x∈ga1 tr i,x.1=3+(i:Int):=λi hi x w=>by
  rw[aW0 z hi]at w;simp only[Aa1,Ac2,or_false]at w;rcases w with rfl | rfl | rfl <;> rfl
 refine⟨?_,?_,λx w=>?_,λx w=>?_,λx w P=>?_,λb=>?_⟩
 .unfold arr;rw[tl];refine bL7 (λi hi=>?_) λi j hij hj x w hy=>?_
  .rw[aW0 z hi];obtain⟨⟨h1,h2,X⟩,_⟩:=bX3 B (p:=i+3) (by lia) (by lia)
   simp only[Aa5,Aa1,Ac2,or_false,not_or,Cu,not_false_eq_true,List.nodup_nil,and_true,true_and]
   lia
  .have h1:=fs i (by lia) x w
   have h2:=fs j hj x hy
   lia
 .have:=bE7 z (i:=tr.length) (Aa7 _)
  unfold arr;lia
 .obtain⟨v,c,hv,Y,rfl⟩:=aI8 z w
  have:=(B.out_mem Y (show 3<=v+3 by lia) (by lia)).2
  rw[D];refine⟨?_,?_,?_,?_⟩ <;> (dsimp only;lia)
 .obtain⟨v,c,hv,Y,rfl⟩:=aI8 z w
  have:=(B.out_mem Y (show 3<=v+3 by lia) (by lia)).1
  unfold td;simp only[Aq,Am];exact⟨⟨by lia,by rw[D];lia⟩,Aa8.mpr ⟨_,by rw[Ac8];exact this,rfl⟩⟩
 .obtain⟨v,c,hv,Y,rfl⟩:=aI8 z w;obtain⟨u,N,hu,J,e⟩:=aI8 z P;simp only[Cu]at e;obtain⟨e1,e2⟩:=e;have e1:TT.og tr c (v+3)=u+3:=by lia
  have e2:v+3=TT.og tr N (u+3):=by lia
  exact(bX3 B (p:=v+3) (by lia) (by lia)).2 c N Y J (by lia) (by lia) (by rw[e1];lia)
 .have M:∀n,n<=m->((ga (ga1 tr) n).filter λx=>decide (x.1=b)).length<=if b<3+(n:Int) then 3 else 0:=by
   intro n;induction n with
   | zero=>intro _;simp[ga]
   | succ n U=>
    intro P;have U:=U (by lia)
    rw[S5,Dk,Ab7];have X:((ga1 tr n).filter λx=>decide (x.1=b)).length<=if 3+(n:Int)=b then 3 else 0:=by
     by_cases e:3+(n:Int)=b
     .rw[Ac e];refine Bd (List.length_filter_le _ _) ?_;rw[aW0 z (by lia)];exact Aa7 _
     .rw[Ab e,List.filter_eq_nil_iff.mpr λx w=>by rw[fs n (by lia) x w];simpa using e]
      exact Aa7 _
    by_cases R:b<3+(n:Int)
    .rw[Ac R]at U;rw[Ab (by lia)]at X
     rw[Ac (by lia)];lia
    .rw[Ab R]at U;by_cases Q:3+(n:Int)=b
     .rw[Ac Q]at X;rw[Ac (by lia)];lia
     .rw[Ab Q]at X;lia
  have:=M m (Aa7 _)
  unfold arr;rw[tl];split at this <;> lia
theorem dD4 {l:AB}(h:∀v∈l,v.length=3):∀v∈l,v≠[]:=λv w e=>by have:=h v w;rw[e]at this;cases this
theorem cM5:∀v∈rgL ps,v.length=3:=λv w=>by obtain⟨a,b,c,rfl,_⟩:=rgL_mem.mp w;rfl
theorem cK9 (h:(ps.map pD)[i]? = some d):d=pD (gp ps i)/\i<ps.length:=by
 rw[Aa9]at h;obtain⟨x,w,rfl⟩:=Au.mp h;have hi:=(Ab0.mp w).1;rw[aW6 hi]at w;exact⟨by rw[Ab4 w],hi⟩
theorem dA1 (h:j<ps.length):ps.take (j+1)=ps.take j++[gp ps j]:=by rw[De,aW6 h];rfl
def rB (ps:List (Int×Int))(x y:Int×Int):Option AD:=if y.2=x.1/\(x.2,y.1)∈ps/\x.1<x.2/\x.1<y.1 then some [x.1,x.2,y.1] else none
def rlB (ps:List (Int×Int))(x:Int×Int):AB:=ps.filterMap (rB ps x)
def rgB (ps:List (Int×Int)):AB:=ga (λi=>rlB ps (gp ps i)) ps.length
theorem dA3:v∈rlB ps x↔∃c,v=[x.1,x.2,c]/\(x.2,c)∈ps/\(c,x.1)∈ps/\x.1<x.2/\x.1<c:=by
 unfold rlB rB;rw[List.mem_filterMap];constructor
 .rintro⟨y,hy,e⟩;split at e
  .rename_i h;obtain⟨h1,w,z,j⟩:=h;refine⟨y.1,(Ab4 e).symm,w,?_,z,j⟩;rw[<- h1];exact hy
  .cases e
 .rintro⟨c,rfl,h1,w,z,j⟩;exact⟨(c,x.1),w,Ac ⟨rfl,h1,z,j⟩⟩
theorem dG9 (nd:ps.Nodup)(x:Int×Int):(rlB ps x).Nodup:=by
 unfold rlB rB;refine List.Pairwise.filterMap _ (λa b w u z v j e=>?_) nd
 split at z
 .split at j
  .rename_i h1 h2;rw[<- Ab4 z,<- Ab4 j]at e;simp at e;exact w (Prod.ext e (by rw[h1.1,h2.1]))
  .cases j
 .cases z
theorem bN7 (nd:ps.Nodup)(x:Int×Int):(rlB ps x).Perm (rl1 ps x):=(List.perm_ext_iff_of_nodup (dG9 nd _) (bT7 nd _)).mpr λv=>by rw[dA3,rl1_mem]
theorem aX8 (nd:ps.Nodup):(rgB ps).Perm (rgL ps):=aL1 λi hi=>bN7 nd _
theorem dL3 {dr:AA}{ps:List (Int×Int)}(h:AI dr ps){i:Nat}(hi:i<=ps.length):(ga (λi=>rlB ps (gp ps i)) i).length<=3*i:=by
 rw[(aL1 λj w=>bN7 h.nd _).length_eq]
 exact bR4 h hi
def cS6 (ds es:AF):Prop:=∃(dr:AA) (ps:List (Int×Int)),AI dr ps/\ds=[.tuple (ps.map pD)]/\es=(M3 (rgL ps)).map tI
theorem G0:C2 ["_law_arrows_here", "_law_found", "_law_p", "_law_q", "_law_r", "_law_back"] ["_law_arrows_here"] (B3 Q5):={}
section
variable {P:Program}{w:World}{K:Frag}{mg:Str->Option Value}{base:Heap}{a:Ad}
theorem dM9 (T:Tx K mg a):K3 P w K mg base CX0 1 a.aE1 a.aE9 ["_law_outs"] (spV K dH3):=by
 refine T.aF0.F.ok S0 (W3 (by rintro ds d ⟨_,_,_,_,rfl,_⟩;rfl)) (λcdv A N s H vs Q E hr h=>?_)
 obtain⟨ds,S,d,hS,r,⟨m,dr,tr,U,rfl,rfl⟩,q⟩:=h;refine⟨_,(A6 (psS 1 S0 (D0 A5))
   (A6 (J8 Aj rfl (K2 rfl T.L9 (A0 (B6 (aJ0 K) (by rfl) T.O3 Aw (A0 (pv 0) A5)) A5)) (pgN 2 S0) (B1 (J8 Aj rfl (i6 (B5 (ixK K) (pv 0) (pv 2) (λ_ _=>rfl))) (pgN 3 S0) (B1 (E5 (K0 Ab1 Ag Af D2 (pv 1) (A0 (D3 (A0 (B7 J6 A7 (pv 2)) (A0 (pv 3) A5))) A5)))))))
   (B1 (C8 (L4 (cK2 K) (by rfl) T.P1 boot_tuple (A0 (B6 (O2 K) (by rfl) T.N8 boot_sorted (A0 (pv 1) A5)) A5)))))),K7 hS r ?_ q⟩
 have tl:=U.tl
 have m7:=U.m7
 have Y:((tr.map tN).length:Int)=(m:Int):=by rw[Aa3,tl]
 refine B2 (E4 (F4 A8) ?_ (show 1<4 by decide))
 refine B2 (N9 (T3 (A4 (P4 (ds:=tr.map tN) (A4 (A9 rfl) A8)) A8) (by rw[Y];lia) (by rw[Y];lia)) (λi ρ=>∃J z,(J.nb=true/\z.nb=true)/\ρ=[vD tr,.own ((ga (ga1 tr) i).map pD),J,z]) ⟨.no,.no,⟨rfl,rfl⟩,rfl⟩ ?_ ?_)
 .rintro i d _ hd ⟨J,z,⟨B,X⟩,rfl⟩;obtain⟨rfl,hi⟩:=U0 hd;rw[Y]at hi;have hi:i<m:=by lia
  obtain⟨row,h1,h2⟩:=U.t3 hi;have M:=bE7 U (i:=i) (by lia)
  have R:tr.getD i []=row:=by rw[Ac0,h1];rfl
  refine⟨_,B4,?_⟩;refine N9 (aE0 (ds:=nI row) (E7 (d':=tN row) (A9 rfl) (A9 rfl) rfl (U1 i rfl (by rw[Aa9,h1];rfl)))) (λj ρ=>∃z,z.nb=true/\ρ=[vD tr,.own ((ga (ga1 tr) i++(ga1 tr i).take j).map pD),vI (i:Int),z]) ⟨z,X,by simp only[List.take_zero,List.filter_nil,Cj,Bq];rfl⟩ ?_ ?_
  .rintro j d _ hd ⟨z,X,rfl⟩;unfold nI at hd;rw[Aa9]at hd;obtain⟨x,D,rfl⟩:=Au.mp hd;have hj:j<row.length:=(Ab0.mp D).1;have et:(ga1 tr i).take (j+1)=(ga1 tr i).take j++[(3+(i:Int),(x:Int))]:=by
    rw[De];unfold ga1;rw[Aa9,R,D];rfl
   have em:(ga (ga1 tr) i++(ga1 tr i).take (j+1)).map pD=(ga (ga1 tr) i++(ga1 tr i).take j).map pD++[pD (3+(i:Int),(x:Int))]:=by
    rw[et,<- Ad7,Ad2];rfl
   refine⟨_,B4,?_⟩;show W K _ [vD tr,.own ((ga (ga1 tr) i++(ga1 tr i).take j).map pD),vI (i:Int),vI (x:Int)] _;refine G8 rfl (G1 (A4 (N0 B0 (A9 rfl)) (A4 (A9 rfl) A8))) ?_ ⟨.val (.int (x:Int)),rfl,?_⟩
   .rw[Aa3,Ab7,Ad1];unfold sizeLine;lia
   .rw[em];rfl
  .rintro _ ⟨z,X,rfl⟩;refine⟨.val (.int (i:Int)),z,⟨rfl,X⟩,?_⟩;rw[S5]
   have:(ga1 tr i).take (nI row).length=ga1 tr i:=Dr (by unfold ga1;rw[Aa3,R,F7];exact Aa7 _)
   rw[this]
 rintro _ ⟨J,z,⟨B,X⟩,rfl⟩;have e:(U4 0 ((tr.map tN).length:Int).toNat).length=tr.length:=by rw[O8,Y,tl];lia
 rw[e];have M:=bE7 U (i:=tr.length) (Aa7 _);exact L6 (W6 (A4 (EF.e' (aX3 (ps:=arr tr) (A4 (F2 rfl) A8) (by unfold arr;lia))) A8) (m9 _)) rfl
theorem dF1 (T:Tx K mg a):K3 P w K mg base CX0 1 a.X3 a.Y5 ["_law_arrows_here"] (spL K cS6):=by
 refine T.Q7.F.ok G0 (aR3 (by rintro ds d ⟨_,_,_,rfl,_⟩;rfl)) (λcdv A D s H vs Q E hr h=>?_)
 obtain⟨ds,S,es,hS,r,⟨dr,ps,U,rfl,rfl⟩,q⟩:=h;refine⟨_,(A6 (psS 1 G0 (D0 A5))
   (A6 (J8 Aj rfl (i6 (pv 0)) (T6 (n:=2) rfl (D5 (pgN 2 G0) (D5 (pgN 3 G0) P3))) (B1 (J8 Aj rfl (i6 (pv 0)) (T6 (n:=2) rfl (D5 (pgN 4 G0) (D5 (pgN 5 G0) P3))) (B1 (M1 (PW.pt (o7 (C0 aP9 (pv 5) (pv 2) (F6 _)) (o7 (C0 (aF8 K hr) (D3 (A0 (pv 3) (A0 (pv 4) A5))) (pv 0) rfl) (o7 (C0 bC2 (pv 2) (pv 3) (F6 _)) (aL6 (C0 bC2 (pv 2) (pv 4) (F6 _))))))) (B1 (E5 (K0 Ab1 Ag Af D2 (pv 1) (A0 (D3 (A0 (pv 2) (A0 (pv 3) (A0 (pv 4) A5)))) A5)))) E8)))))
   (B1 (C8 (B6 (O2 K) (by rfl) T.N8 boot_sorted (A0 (pv 1) A5)))))),W0 hS r ?_ q⟩
 have hl:=U.len
 refine B2 (E4 (F4 A8) ?_ (show 1<6 by decide))
 refine B2 (N9 (aE0 (ds:=ps.map pD) (A9 rfl)) (λi ρ=>∃J M Y X,(J.nb=true/\M.nb=true/\Y.nb=true/\X.nb=true)/\ρ=[.val (.tuple (ps.map pD)),.own ((ga (λi=>rlB ps (gp ps i)) i).map tI),J,M,Y,X]) ⟨.no,.no,.no,.no,⟨rfl,rfl,rfl,rfl⟩,rfl⟩ ?_ ?_)
 .rintro i d _ hd ⟨J,M,Y,X,⟨b2,b3,b4,b5⟩,rfl⟩;obtain⟨rfl,hi⟩:=cK9 hd;have hal:=dL3 U (i:=i) (by lia)
  generalize hx:gp ps i=x;refine⟨_,k7 (E6 B4 (E6 B4 T7)),?_⟩;refine N9 (aE0 (ds:=ps.map pD) (A9 rfl)) (λj ρ=>∃Y X,(Y.nb=true/\X.nb=true)/\ρ=[.val (.tuple (ps.map pD)),.own ((ga (λi=>rlB ps (gp ps i)) i++(ps.take j).filterMap (rB ps x)).map tI),vI x.1,vI x.2,Y,X]) ⟨Y,X,⟨b4,b5⟩,by simp only[List.take_zero,List.filterMap_nil,Bq];rfl⟩ ?_ ?_
  .rintro j d _ hd ⟨Y,X,⟨b4,b5⟩,rfl⟩;obtain⟨rfl,hj⟩:=cK9 hd;have R:=dA1 hj;generalize hy:gp ps j=y at R ⊢;have hil:((ps.take j).filterMap (rB ps x)).length<=21:=Bd (List.length_filterMap_le _ _) (by rw[Ad1];lia)
   refine⟨_,k7 (E6 B4 (E6 B4 T7)),?_⟩;show W K _ [.val (.tuple (ps.map pD)),.own ((ga (λi=>rlB ps (gp ps i)) i++(ps.take j).filterMap (rB ps x)).map tI),vI x.1,vI x.2,vI y.1,vI y.2] _
   generalize z:[Sl.val (.tuple (ps.map pD)),.own ((ga (λi=>rlB ps (gp ps i)) i++(ps.take j).filterMap (rB ps x)).map tI),vI x.1,vI x.2,vI y.1,vI y.2]=ρ'
   have e:=aY3 (K:=K) (m:=false) (ρ := ρ') (d:=pD (x.2,y.1)) (G1 (A4 (A9 (i:=3) (by rw[<- z];rfl)) (A4 (A9 (i:=4) (by rw[<- z];rfl)) A8))) (A9 (i:=0) (by rw[<- z];rfl)) (ds:=ps.map pD) rfl (S7 _).fit (m8 ps)
   rw[aF5]at e;have B:=z5 (K:=K) (ρ := ρ') (C3 (j4 (i:=y.2) (j:=x.1) (A9 (i:=5) (by rw[<- z];rfl)) (A9 (i:=2) (by rw[<- z];rfl)))) λ_=>z5 (C3 e) λ_=>z5 (C3 (aD2 (g:=λi j=>decide (i<j)) (i:=x.1) (j:=x.2) (A9 (i:=2) (by rw[<- z];rfl)) (A9 (i:=3) (by rw[<- z];rfl)))) λ_=>C3 (aD2 (g:=λi j=>decide (i<j)) (i:=x.1) (j:=y.1) (A9 (i:=2) (by rw[<- z];rfl)) (A9 (i:=4) (by rw[<- z];rfl)))
   refine U8 B (λh=>?_) (λh=>F9 ?_)
   .simp only[Aq,Am]at h;have N:(ps.take (j+1)).filterMap (rB ps x)=(ps.take j).filterMap (rB ps x)++[[x.1,x.2,y.1]]:=by
     rw[R,List.filterMap_append]
     congr 1
     simp[rB,h]
    subst z;refine G8 (d:=tI [x.1,x.2,y.1]) rfl (G1 (A4 (A9 rfl) (A4 (A9 rfl) (A4 (A9 rfl) A8)))) ?_ ⟨.val (.int y.1),vI y.2,⟨rfl,rfl⟩,?_⟩
    .rw[Aa3,Ab7];unfold sizeLine;lia
    .have em:(ga (λi=>rlB ps (gp ps i)) i++(ps.take (j+1)).filterMap (rB ps x)).map tI=(ga (λi=>rlB ps (gp ps i)) i++(ps.take j).filterMap (rB ps x)).map tI++[tI [x.1,x.2,y.1]]:=by
      rw[N,<- Ad7];rw[Ad2 (f:=tI) (l₂:=[[x.1,x.2,y.1]])];rfl
     rw[em];rfl
   .have N:(ps.take (j+1)).filterMap (rB ps x)=(ps.take j).filterMap (rB ps x):=by
     rw[R,List.filterMap_append]
     have:rB ps x y=none:=by
      unfold rB;refine Ab λhh=>?_
      simp[hh]at h
     simp[this]
    subst z;exact⟨.val (.int y.1),vI y.2,⟨rfl,rfl⟩,by rw[N]⟩
  .rintro _ ⟨Y,X,⟨b4,b5⟩,rfl⟩;refine⟨.val (.int x.1),vI x.2,Y,X,⟨rfl,rfl,b4,b5⟩,?_⟩;rw[Aa3,Cm,S5,hx,show rlB ps x=ps.filterMap (rB ps x) from rfl]
 rintro _ ⟨J,M,Y,X,_,rfl⟩;rw[Aa3];exact u4 (j9 (ts:=rgB ps) (A4 (F2 rfl) A8) (dD4 λv hv=>cM5 v ((aX8 U.nd).mem_iff.mp hv)) (by rw[(aX8 U.nd).length_eq];exact aS9 U) ((D1 _).trans (aX8 U.nd).symm) (R3 _)) rfl
end
set_option maxHeartbeats 1000000
theorem sc__law_ring_turned:C2 ["_law_arrows_here", "_law_ring", "_law_ways", "_law_made"] ["_law_arrows_here", "_law_ring"] (B3 Q6):={}
def fNi (G:List (Int×Int)):PyData->Option PyData
 | .tuple [.int p,.int q]=>if(p,q)∈G then none else some (tI [p,q])
 | _=>none
theorem bW6 (G ps:List (Int×Int)):(ps.map pD).filterMap (fNi G)=(ps.filter λp=>decide (p∉G)).map pD:=by
 rw[Bb,<- List.filterMap_eq_map,List.filterMap_filter];refine M7 λx _=>?_
 show(if(x.1,x.2)∈G then none else some (tI [x.1,x.2]))=_
 by_cases h:x∈G
 .have:(x.1,x.2)∈G:=h
  rw[Ac this];simp[h]
 .have:¬(x.1,x.2)∈G:=h
  rw[Ab this];simp[h];rfl
def fSw:PyData->Option PyData
 | .tuple [.int p,.int q]=>some (tI [q,p])
 | _=>none
theorem bW3 (ps:List (Int×Int)):(ps.map pD).filterMap fSw=(ps.map sw).map pD:=by
 rw[Bb,Ae2,<- List.filterMap_eq_map];exact M7 λx _=>rfl
def uA (ps:List (Int×Int))(p q:Nat):Bool:=decide (((p:Int),(q:Int))∈ps)
theorem dD2 (ps:List (Int×Int)):sp (sp ps)=sp ps:=cM2 (aK0 ps)
theorem dO7 {ps W:List (Int×Int)}{p q:Int}:(p,q)∈tw ps W↔((p,q)∈ps/\(p,q)∉W)\/(q,p)∈W:=by
 unfold tw;rw[Aa0,Ap,Aa8];constructor
 .rintro (h | ⟨⟨u,v⟩,h,e⟩)
  .exact .inl ⟨h.1,by simpa using h.2⟩
  .unfold sw at e;cases e;exact .inr h
 .rintro (h | h)
  .exact .inl ⟨h.1,by simpa using h.2⟩
  .exact .inr ⟨(q,p),h,rfl⟩
def cC9 (ds:AF)(d:PyData):Prop:=∃(ps:List (Int×Int)) (x y z:Int),ps.length<=60/\ds=[.tuple (ps.map pD),tI [x,y,z]]/\d=.tuple ((sp (tw ps (wys x y z))).map pD)
def w3 (x y z:Int):List (Int×Int):=[(x,y),(y,z),(z,x)]
theorem dA9 (x y z:Int):(w3 x y z).Perm (wys x y z):=(Cw (l₁:=[(x,y),(y,z)]) (l₂:=[(z,x)]))
def cR9 (ds:AF)(d:PyData):Prop:=∃(ps:List (Int×Int)) (x y z:Int),ps.length<=1000/\ds=[.tuple (ps.map pD),tI [x,y,z]]/\d=.bool ((wys x y z).all λw=>decide (w∈ps))
def fGo (ps:List (Int×Int)):PyData->Option PyData
 | .tuple [.int p,.int q]=>some (.bool (decide ((p,q)∈ps)))
 | _=>none
theorem cX6 (ps ws:List (Int×Int)):(ws.map pD).filterMap (fGo ps)=(ws.map λw=>decide (w∈ps)).map PyData.bool:=by
 rw[Bb,Ae2,<- List.filterMap_eq_map];exact M7 λx _=>rfl
theorem bM0:C2 ["arrows", "ring"] ["arrows", "ring"] (B3 aG4):={}
def rp1 (n:Nat)(ps:List (Int×Int))(x:Int×Int):AB:=if x.1<x.2 then((List.range ((n:Int)-(x.1+1)).toNat).map λ(i:Nat)=>x.1+1+(i:Int)).filterMap λc=>if(wys x.1 x.2 c).all λw=>decide (w∈ps) then some [x.1,x.2,c] else none else []
def rgP (n:Nat)(ps:List (Int×Int)):AB:=ga (λi=>rp1 n ps (gp ps i)) ps.length
theorem wys_all {ps:List (Int×Int)}{x y z:Int}:((wys x y z).all λw=>decide (w∈ps))=true↔(z,x)∈ps/\(x,y)∈ps/\(y,z)∈ps:=by
 simp[wys]
theorem bW1 {n:Nat}{ps:List (Int×Int)}{x:Int×Int}{v:AD}:v∈rp1 n ps x↔∃c,v=[x.1,x.2,c]/\x.1<x.2/\x.1<c/\c<(n:Int)/\(c,x.1)∈ps/\(x.1,x.2)∈ps/\(x.2,c)∈ps:=by
 unfold rp1;by_cases h:x.1<x.2
 .rw[Ac h,List.mem_filterMap];constructor
  .rintro⟨c,hc,e⟩;obtain⟨i,hi,rfl⟩:=Aa8.mp hc;have hi:=Ab5.mp hi;split at e
   .rename_i h';obtain⟨h1,z,w⟩:=wys_all.mp h';exact⟨_,(Ab4 e).symm,h,by lia,by lia,h1,z,w⟩
   .cases e
  .rintro⟨c,rfl,_,h1,z,w,h4,h5⟩;exact⟨c,Aa8.mpr ⟨(c-(x.1+1)).toNat,Ab5.mpr (by lia),by lia⟩,Ac (wys_all.mpr ⟨w,h4,h5⟩)⟩
 .rw[Ab h];constructor
  .intro h';cases h'
  .rintro⟨c,_,h',_⟩;exact absurd h' h
theorem cP8 (x:Int×Int):(rp1 n ps x).Nodup:=by
 unfold rp1;split
 .refine List.Pairwise.filterMap (R:=λa b=>a≠b) _ (λa b w u z v j e=>?_) ?_
  .split at z
   .split at j
    .rw[<- Ab4 z,<- Ab4 j]at e;simp at e;exact w e
    .cases j
   .cases z
  .rw[Ae0];exact Df.imp λh e=>h (by lia)
 .exact List.nodup_nil
theorem bG9 (h:AI dr ps):(rgL ps).Perm (rgP dr.length ps):=by
 unfold rgL rgP;refine aL1 λi hi=>(List.perm_ext_iff_of_nodup (bT7 h.nd _) (cP8 _)).mpr λv=>?_
 rw[rl1_mem,bW1];have w:gp ps i∈ps:=Av (aW6 hi);constructor
 .rintro⟨c,e,h1,h2,h3,h4⟩;exact⟨c,e,h3,h4,(h.lo _ h2).2.1,h2,w,h1⟩
 .rintro⟨c,e,h1,h2,h3,h4,h5,h6⟩;exact⟨c,e,h6,h4,h1,h2⟩
theorem cV2 (h:AI dr ps):(rgP dr.length ps).length<64:=by rw[<- (bG9 h).length_eq];exact aS9 h
theorem sc_rings:C2 ["drawing", "arrows", "found", "a", "b"] ["drawing", "arrows"] (B3 bI7):={}
def dE1 (ds es:AF):Prop:=∃(dr:AA) (ps:List (Int×Int)),AI dr ps/\dr.length<=1000/\ds=[tD dr,.tuple (ps.map pD)]/\es=(M3 (rgL ps)).map tI
def fRg (n:Nat)(ps:List (Int×Int))(x:Int×Int):PyData->Option PyData
 | .int c=>if(wys x.1 x.2 c).all λw=>decide (w∈ps) then some (tI [x.1,x.2,c]) else none
 | _=>none
theorem sc_turned:C2 ["drawing", "arrows", "ring", "ways", "others"] ["drawing", "arrows", "ring"] (B3 aV7):={}
theorem aZ0:C2 ["drawing", "ring", "within"] ["drawing", "ring"] (B3 aO1):={}
def cH7 (ds:AF)(d:PyData):Prop:=∃(m:Nat) (dr tr:AA) (x y z:Nat),Dw m dr tr/\Tri dr x y z/\ds=[tD dr,tN [x,y,z]]/\d=.bool (decide (cL (TT.lnd (TT.trn dr) x y)∈bA1 m dr x y z))
section
variable {P:Program}{w:World}{K:Frag}{mg:Str->Option Value}{base:Heap}{a:Ad}
theorem cH5 (T:Tx K mg a):K3 P w K mg base CX0 1 a.X2 a.X8 ["_law_arrows_here", "_law_ring"] (spV K cC9):=by
 refine T.N1.F.ok sc__law_ring_turned (W3 (by rintro ds d ⟨_,_,_,_,_,rfl,_⟩;rfl)) (λD A Y s H vs Q E hr h=>?_)
 obtain⟨ds,S,d,hS,r,⟨ps,x,y,z,hl,rfl,rfl⟩,q⟩:=h;refine⟨_,(A6 (aO3 (i:=2) sc__law_ring_turned.nd rfl (Or.inr rfl) (D0 (A0 (D3 (A0 (B5 (ixK K) (pv 1) A7 (λ_ _=>rfl)) (A0 (B5 (ixK K) (pv 1) A7 (λ_ _=>rfl)) A5))) (A0 (D3 (A0 (B5 (ixK K) (pv 1) A7 (λ_ _=>rfl)) (A0 (B5 (ixK K) (pv 1) A7 (λ_ _=>rfl)) A5))) (A0 (D3 (A0 (B5 (ixK K) (pv 1) A7 (λ_ _=>rfl)) (A0 (B5 (ixK K) (pv 1) A7 (λ_ _=>rfl)) A5))) A5)))))
   (A6 (l5 (i:=3) sc__law_ring_turned.nd rfl rfl (T:=["_law_arrow"]) (N':=["_law_arrow", "_law_ways"]) (is:=[2]) rfl (.of rfl rfl rfl (by exact⟨rfl,trivial⟩) rfl rfl rfl (by exact⟨⟨_,rfl,by first | exact .inl rfl | exact .inr rfl,by first | exact .inl rfl | exact .inr rfl⟩,trivial⟩)) (i6 (pv 0)) (J0 (by decide)) λ_ _ _ _=>⟨(E9 (i:=0) (by decide +kernel:(["_law_arrow", "_law_ways"]:AH).Nodup) rfl (Or.inl rfl)),(X5 (C0 (M5 K hr) (pv 0) (pv 1) rfl)),(pv 0)⟩)
   (B1 (C8 (L4 (cK2 K) (by rfl) T.P1 boot_tuple (A0 (B6 (O2 K) (by rfl) T.N8 boot_sorted (A0 (B7 (L5 K) (pv 3) (N2 (T:=["_law_way"]) (N':=["_law_way"]) (is:=[]) rfl (.of rfl rfl rfl (by exact trivial) rfl rfl rfl (by exact trivial)) (M4 (pv 2)) (J0 (by decide)) λ_ _ _ _=>⟨(E9 (i:=0) (by decide +kernel:(["_law_way"]:AH).Nodup) rfl (Or.inl rfl)),N7,(D3 (A0 (B5 (ixK K) (pv 0) A7 (λ_ _=>rfl)) (A0 (B5 (ixK K) (pv 0) A7 (λ_ _=>rfl)) A5)))⟩)) A5)) A5)))))),K7 hS r ?_ q⟩
 have M:∀{ρ:List Sl},ρ[1]? = some (.val (tI [x,y,z]))->LV.E K true (tOp (rIx K) (C4 1) (tC (.int 0))) ρ (.int x):=λh=>E7 (ds:=[.int x,.int y,.int z]) (A9 (i:=1) h) B0 rfl rfl
 have N:∀{ρ:List Sl},ρ[1]? = some (.val (tI [x,y,z]))->LV.E K true (tOp (rIx K) (C4 1) (tC (.int 1))) ρ (.int y):=λh=>E7 (ds:=[.int x,.int y,.int z]) (A9 (i:=1) h) B0 rfl rfl
 have R:∀{ρ:List Sl},ρ[1]? = some (.val (tI [x,y,z]))->LV.E K true (tOp (rIx K) (C4 1) (tC (.int 2))) ρ (.int z):=λh=>E7 (ds:=[.int x,.int y,.int z]) (A9 (i:=1) h) B0 rfl rfl
 refine B2 (E4 (ds:=(w3 x y z).map pD) (F4 (A4 (G1 (ds:=[.int x,.int y]) (A4 (M rfl) (A4 (N rfl) A8))) (A4 (G1 (ds:=[.int y,.int z]) (A4 (N rfl) (A4 (R rfl) A8))) (A4 (G1 (ds:=[.int z,.int x]) (A4 (R rfl) (A4 (M rfl) A8))) A8))) (show 3<=PySem.sizeLine by decide)) ?_ (show 2<4 by decide))
 refine bK6 (i:=2) rfl ?_;show W K _ [.val (.tuple (ps.map pD)),.val (tI [x,y,z]),.val (.list ((w3 x y z).map pD)),.no] _;have U:=J7 (K:=K) (m:=true) (ρ:=[.val (.tuple (ps.map pD)),.val (tI [x,y,z]),.val (.list ((w3 x y z).map pD)),.no]) (n:=1) (is:=[2]) (g:=F5 0) (tt:=aD8 (tOp (bI4 K true) (C4 0) (C4 1))) (te:=C4 0) (fNi (w3 x y z)) (aE0 (ds:=ps.map pD) v0) (by rw[Aa3];unfold sizeLine;lia) (λd j=>by
  obtain⟨u,hu,rfl⟩:=Aa8.mp j;refine⟨_,B4,?_⟩;have e:=S6 (K:=K) (m:=false) (ρ:=(slC [.val (.tuple (ps.map pD)),.val (tI [x,y,z]),.val (.list ((w3 x y z).map pD)),.no] 1 [2]).set 0 (.val (pD u))) (ds:=(w3 x y z).map pD) v0 v1 rfl (S7 _).fit (cT7 _);rw[aF5]at e;show match (if(u.1,u.2)∈w3 x y z then none else some (tI [u.1,u.2])) with | none=>_ | some y=>_
  by_cases h:u∈w3 x y z
  .rw[Ac h];rw[As h]at e;exact C3 e
  .rw[Ab h];rw[Ak h]at e;exact⟨C3 e,A9 rfl⟩)
 rw[bW6]at U;refine B2 (E4 U ?_ (show 3<4 by decide))
 show W K _ [.val (.tuple (ps.map pD)),.val (tI [x,y,z]),.val (.list ((w3 x y z).map pD)),.own ((ps.filter λp=>decide (p∉w3 x y z)).map pD)] _
 have X:=J7 (K:=K) (m:=true) (ρ:=[.val (.tuple (ps.map pD)),.val (tI [x,y,z]),.val (.list ((w3 x y z).map pD)),.own ((ps.filter λp=>decide (p∉w3 x y z)).map pD)]) (n:=1) (is:=[]) (g:=F5 0) (tt:=aM1) (te:=aL8 (C9 (tOp (rIx K) (C4 0) (tC (.int 1))) (C9 (tOp (rIx K) (C4 0) (tC (.int 0))) O1))) fSw (P6 (ds:=(w3 x y z).map pD) v2) (show 3<sizeLine by decide) (λd j=>by
  obtain⟨u,hu,rfl⟩:=Aa8.mp j;exact⟨_,B4,y9,G1 (A4 (E7 (ds:=[.int u.1,.int u.2]) (d':=.int u.2) v0 B0 rfl rfl) (A4 (E7 (ds:=[.int u.1,.int u.2]) (d':=.int u.1) v0 B0 rfl rfl) A8))⟩)
 rw[bW3]at X;have lf:(ps.filter λp=>decide (p∉w3 x y z)).length<=60:=Bd (List.length_filter_le _ _) hl
 have e3:((w3 x y z).map sw).length=3:=rfl
 have J:=aG9 (K:=K) (F2 (i:=3) rfl) (EF.e' X) (m9 _) (m9 _) (by rw[Aa3,Aa3,e3];unfold sizeLine;lia)
 rw[<- Ad2]at J;have B:=aX3 (K:=K) (A4 (EF.e' J) A8) (by rw[Ab7,e3];lia)
 refine L6 (W6 (A4 (EF.e' B) A8) (m9 _)) ?_;show PyData.tuple ((sp (tw ps (w3 x y z))).map pD)=_;rw[cM2 (cX3 (dA9 x y z))]
theorem dR3 (T:Tx K mg a):K3 P w K mg base CX0 7 a.bD9 a.bD7 ["drawing", "ring"] (spV K cH7):=by
 have Y := @dS5 P w K mg base a T
 have j := @cR7 P w K mg base a T
 refine T.bA7.F.ok aZ0 (W3 (by rintro ds d ⟨_,_,_,_,_,_,_,_,rfl,_⟩;rfl)) (λN A J s H vs Q E U h=>?_)
 obtain⟨ds,S,d,R,r,⟨m,X,tr,x,y,z,M,t3,rfl,rfl⟩,q⟩:=h;refine⟨_,(A6 (psS 2 aZ0 (pcl Y U T.bK9 (A0 (pv 0) (A0 (pv 1) A5))))
   (B1 (C8 (l4 (aF8 K U) (pcl j U T.S8 (A0 (pv 0) (A0 (B5 (ixK K) (pv 1) A7 (λ_ _=>rfl)) (A0 (B5 (ixK K) (pv 1) A7 (λ_ _=>rfl)) A5)))) (pv 2) rfl)))),K7 R r ?_ q⟩
 refine B2 (E4 (ds:=(bA1 m X x y z).map tI) (J5 (A4 v0 (A4 v1 A8)) ⟨m,X,tr,x,y,z,M,t3,rfl,rfl⟩) ?_ (show 2<3 by decide))
 refine L6 (aY3 (ds:=(bA1 m X x y z).map tI) (d:=tI (cL (TT.lnd (TT.trn X) x y))) (D7 (A4 v0 (A4 (E7 (ds:=nI [x,y,z]) v1 B0 rfl rfl) (A4 (E7 (ds:=nI [x,y,z]) v1 B0 rfl rfl) A8))) ⟨m,X,tr,x,y,M,t3.1,rfl,(bD5 _).symm⟩) (F2 (i:=2) rfl) rfl (S4 _).fit (cC7 _)) ?_;show PyData.bool _=.bool _;rw[cP2]
theorem dF0 (T:Tx K mg a):K3 P w K mg base CX0 2 a.aW4 a.aY8 ["arrows", "ring"] (spV K cR9):=by
 have j := @aS5 P w K mg base a T
 refine T.aG6.F.ok bM0 (W3 (by rintro ds d ⟨_,_,_,_,_,rfl,_⟩;rfl)) (λM A Y s H vs Q E J h=>?_)
 obtain⟨ds,S,d,N,r,⟨ps,x,y,z,D,rfl,rfl⟩,q⟩:=h;refine⟨_,(B1 (C8 (B6 (aP8 K rfl) (by rfl) T.bM8 boot_all (A0 (N2 (T:=["way"]) (N':=["way", "arrows"]) (is:=[0]) rfl (.of rfl rfl rfl (by exact⟨rfl,trivial⟩) rfl rfl rfl (by exact⟨⟨_,rfl,by first | exact .inl rfl | exact .inr rfl,by first | exact .inl rfl | exact .inr rfl⟩,trivial⟩)) (M4 (pcl j J T.P0 (A0 (pv 1) A5))) (J0 (by decide)) λ_ _ _ _=>⟨(E9 (i:=0) (by decide +kernel:(["way", "arrows"]:AH).Nodup) rfl (Or.inl rfl)),N7,(l4 (aF8 K J) (pv 0) (pv 1) rfl)⟩) A5)))),K7 N r ?_ q⟩
 have U:=J7 (K:=K) (m:=true) (ρ:=sl0 ["arrows", "ring"].length [.tuple (ps.map pD),tI [x,y,z]]) (n:=1) (is:=[0]) (g:=F5 0) (tt:=aM1) (te:=tOp (bI4 K false) (C4 0) (C4 1)) (fGo ps) (P6 (EF.e' (J5 (pre:=bE4) (es:=(wys x y z).map pD) (X:=E0) (A4 v1 A8) ⟨x,y,z,rfl,rfl⟩))) (show 3<sizeLine by decide) (λd R=>by
  obtain⟨u,B,rfl⟩:=Aa8.mp R;refine⟨_,B4,y9,?_⟩;have e:=aY3 (K:=K) (m:=true) (ρ:=(slC (sl0 ["arrows", "ring"].length [.tuple (ps.map pD),tI [x,y,z]]) 1 [0]).set 0 (.val (pD u))) v0 v1 (ds:=ps.map pD) rfl (S7 u).fit (m8 ps);rw[aF5]at e;exact e)
 rw[cX6]at U;refine L6 (cL9 (A4 (EF.e' U) A8)) ?_;show PyData.bool _=.bool _;rw[List.all_map];rfl
theorem dR9 (T:Tx K mg a):K3 P w K mg base CX0 3 a.bX2 a.cB6 ["drawing", "arrows"] (spL K dE1):=by
 have Y := @dF0 P w K mg base a T
 refine T.bX9.F.ok sc_rings (aR3 (by rintro ds d ⟨_,_,_,_,rfl,_⟩;rfl)) (λcdv A outer s H vs Q E hr h=>?_)
 obtain⟨ds,S,es,hS,r,⟨z,ps,U,hdl,rfl,rfl⟩,q⟩:=h;refine⟨_,(A6 (psS 2 sc_rings (D0 A5))
   (A6 (J8 Aj rfl (i6 (pv 1)) (T6 (n:=2) rfl (D5 (E9 (i:=3) sc_rings.nd rfl (Or.inr rfl)) (D5 (E9 (i:=4) sc_rings.nd rfl (Or.inr rfl)) P3))) (B1 (M1 (C0 bC2 (pv 3) (pv 4) (F6 _)) (B1 (E5 (K0 Ab1 PySem.F.slot_list_extend PySem.F.type_list_extend bB0 (pv 2) (A0 (N2 (T:=["c"]) (N':=["c", "arrows", "a", "b"]) (is:=[1,3,4]) rfl (.of rfl rfl rfl (by exact⟨rfl,rfl,rfl,trivial⟩) rfl rfl rfl (by exact⟨⟨_,rfl,by first | exact .inl rfl | exact .inr rfl,by first | exact .inl rfl | exact .inr rfl⟩,⟨_,rfl,by first | exact .inl rfl | exact .inr rfl,by first | exact .inl rfl | exact .inr rfl⟩,⟨_,rfl,by first | exact .inl rfl | exact .inr rfl,by first | exact .inl rfl | exact .inr rfl⟩,trivial⟩)) (cE4 rfl T.L9 (A0 (B7 J6 (pv 3) A7) (A0 (B6 (aJ0 K) (by rfl) T.O3 Aw (A0 (pv 0) A5)) A5))) (J0 (by decide)) λ_ _ _ _=>⟨(E9 (i:=0) (by decide +kernel:(["c", "arrows", "a", "b"]:AH).Nodup) rfl (Or.inl rfl)),(X5 (O5 (pcl Y hr T.aG6 (A0 (pv 1) (A0 (D3 (A0 (pv 2) (A0 (pv 3) (A0 (pv 0) A5)))) A5))))),(D3 (A0 (pv 2) (A0 (pv 3) (A0 (pv 0) A5))))⟩) A5)))) E8)))
   (B1 (C8 (B6 (O2 K) (by rfl) T.N8 boot_sorted (A0 (pv 2) A5)))))),W0 hS r ?_ q⟩
 have hl:=U.len
 have N:∀i,i<=ps.length->(ga (λi=>rp1 z.length ps (gp ps i)) i).length<=63:=λi hi=>by
  have:=(aL1 (n:=i) λj hj=>(show(rl1 ps (gp ps j)).Perm (rp1 z.length ps (gp ps j)) from ?_)).length_eq
  .have:=bR4 U hi;lia
  .refine(List.perm_ext_iff_of_nodup (bT7 U.nd _) (cP8 _)).mpr λv=>?_
   rw[rl1_mem,bW1];have hm:gp ps j∈ps:=Av (aW6 (by lia))
   constructor
   .rintro⟨c,e,h1,h2,h3,h4⟩;exact⟨c,e,h3,h4,(U.lo _ h2).2.1,h2,hm,h1⟩
   .rintro⟨c,e,h1,h2,h3,h4,h5,h6⟩;exact⟨c,e,h6,h4,h1,h2⟩
 have J:((z.map tN).length:Int)=(z.length:Int):=by rw[Aa3]
 refine B2 (E4 (F4 A8) ?_ (show 2<5 by decide))
 refine B2 (N9 (aE0 (ds:=ps.map pD) (A9 rfl)) (λi ρ=>∃R D,(R.nb=true/\D.nb=true)/\ρ=[vD z,.val (.tuple (ps.map pD)),.own ((ga (λi=>rp1 z.length ps (gp ps i)) i).map tI),R,D]) ⟨.no,.no,⟨rfl,rfl⟩,rfl⟩ ?_ ?_)
 .rintro i d _ B ⟨R,D,⟨b3,b4⟩,rfl⟩;obtain⟨rfl,hi⟩:=cK9 B;have hlo:=U.lo _ (Av (aW6 hi));have hp1:=N i (by lia)
  have M:=N (i+1) (by lia)
  rw[S5]at M;generalize hx:gp ps i=x at hlo M;refine⟨_,k7 (E6 B4 (E6 B4 T7)),?_⟩;show W K _ [vD z,.val (.tuple (ps.map pD)),.own ((ga (λi=>rp1 z.length ps (gp ps i)) i).map tI),vI x.1,vI x.2] _
  refine U8 (C3 (aD2 (A9 rfl) (A9 rfl))) (λh=>?_) (λh=>F9 ?_)
  .have h:x.1<x.2:=An h
   have cm:=J7 (K:=K) (m:=true) (ρ:=[vD z,.val (.tuple (ps.map pD)),.own ((ga (λi=>rp1 z.length ps (gp ps i)) i).map tI),vI x.1,vI x.2]) (n:=1) (is:=[1,3,4]) (g:=F5 0) (tt:=tB (Y7 (spV K cR9) [] E0 (C9 (C4 1) (C9 (aL8 (C9 (C4 2) (C9 (C4 3) (C9 (C4 0) O1)))) O1)))) (te:=aL8 (C9 (C4 2) (C9 (C4 3) (C9 (C4 0) O1)))) (fRg z.length ps x) (dN9 (i:=x.1+1) (j:=((z.map tN).length:Int)) (A4 (N0 (g:=λi j=>i+j) v3 B0) (A4 (P4 (ds:=z.map tN) (A4 v0 A8)) A8)) (by rw[J];lia)) (by rw[O8,J];unfold sizeLine;lia) (λd B=>by
    obtain⟨k,hk⟩:=List.mem_iff_getElem?.mp B;obtain⟨rfl,hk⟩:=cW5 hk;refine⟨_,B4,?_⟩;have tt:=t_b (K:=K) (D7 (K:=K) (m:=false) (ρ:=(slC [vD z,.val (.tuple (ps.map pD)),.own ((ga (λi=>rp1 z.length ps (gp ps i)) i).map tI),vI x.1,vI x.2] 1 [1,3,4]).set 0 (.val (.int (x.1+1+(k:Int))))) (pre:=cR9) (X:=E0) (A4 v1 (A4 (G1 (A4 v2 (A4 v3 (A4 v0 A8)))) A8)) ⟨ps,x.1,x.2,x.1+1+(k:Int),by lia,rfl,rfl⟩)
    unfold fRg;dsimp only;cases hb:(wys x.1 x.2 (x.1+1+(k:Int))).all λw=>decide (w∈ps) with
    | true=>rw[hb]at tt;exact⟨tt,G1 (A4 v2 (A4 v3 (A4 v0 A8)))⟩
    | false=>rw[hb]at tt;exact tt)
   have ef:(U4 (x.1+1) (((z.map tN).length:Int)-(x.1+1)).toNat).filterMap (fRg z.length ps x)=(rp1 z.length ps x).map tI:=by
    unfold rp1 U4;rw[Ac h,J,Bb,List.map_filterMap,Bb];refine M7 λk _=>?_
    show(if(wys x.1 x.2 (x.1+1+(k:Int))).all λw=>decide (w∈ps) then some (tI [x.1,x.2,x.1+1+(k:Int)]) else none)=_
    dsimp only[Function.comp]
    split <;> rfl
   rw[ef]at cm;refine bB4 rfl cm ?_ ⟨.val (.int x.1),vI x.2,⟨rfl,rfl⟩,?_⟩
   .rw[Ab7]at M;rw[Aa3,Aa3];unfold sizeLine;lia
   .rw[S5,hx,Ad2];rfl
  .have h:¬x.1<x.2:=Bm h
   refine⟨.val (.int x.1),vI x.2,⟨rfl,rfl⟩,?_⟩
   have:rp1 z.length ps x=[]:=by unfold rp1;rw[Ab h]
   rw[S5,hx,this,Bq]
 rintro _ ⟨R,D,_,rfl⟩;rw[Aa3];exact u4 (j9 (ts:=rgP z.length ps) (ss:=M3 (rgL ps)) (A4 (F2 rfl) A8) (dD4 λv hv=>cM5 v ((bG9 U).mem_iff.mpr hv)) (cV2 U) ((D1 _).trans (bG9 U)) (R3 _)) rfl
def dF9 (ds:AF)(d:PyData):Prop:=∃(m:Nat) (dr tr:AA) (ps:List (Int×Int)) (x y z:Nat),Dw m dr tr/\Tri dr x y z/\ps.length<=60/\ds=[tD dr,.tuple (ps.map pD),tI [(x:Int),y,z]]/\(∀w∈wys x y z,w∈ps)/\d=.tuple ((sp (tw ps (wys x y z))).map pD)
theorem cE2 (T:Tx K mg a):K3 P w K mg base CX0 3 a.bN6 a.bO0 ["drawing", "arrows", "ring"] (spV K dF9):=by
 have j := @dD7 P w K mg base a T
 have Y := @dF0 P w K mg base a T
 refine T.bP0.F.ok sc_turned (W3 (by rintro ds d ⟨_,_,_,_,_,_,_,_,_,_,rfl,_⟩;rfl)) (λcdv A R s H vs Q E N h=>?_)
 obtain⟨ds,S,d,hS,r,⟨m,U,tr,ps,D,B,z',dw,t3,hl,rfl,X,rfl⟩,q⟩:=h;refine⟨_,(A6 (aO3 (i:=3) sc_turned.nd rfl (Or.inr rfl) (pcl j N T.aB5 (A0 (pv 0) (A0 (pv 2) A5))))
   (A6 (M1 (V7 (O5 (pcl Y N T.aG6 (A0 (pv 1) (A0 (pv 2) A5))))) aO5 E8)
   (A6 (l5 (i:=4) sc_turned.nd rfl rfl (T:=["way"]) (N':=["way", "ways"]) (is:=[3]) rfl (.of rfl rfl rfl (by exact⟨rfl,trivial⟩) rfl rfl rfl (by exact⟨⟨_,rfl,by first | exact .inl rfl | exact .inr rfl,by first | exact .inl rfl | exact .inr rfl⟩,trivial⟩)) (i6 (pv 1)) (J0 (by decide)) λ_ _ _ _=>⟨(E9 (i:=0) (by decide +kernel:(["way", "ways"]:AH).Nodup) rfl (Or.inl rfl)),(X5 (C0 (M5 K N) (pv 0) (pv 1) rfl)),(pv 0)⟩)
   (B1 (C8 (L4 (cK2 K) (by rfl) T.P1 boot_tuple (A0 (B6 (O2 K) (by rfl) T.N8 boot_sorted (A0 (B7 (L5 K) (pv 4) (N2 (T:=["p", "q"]) (N':=["p", "q"]) (is:=[]) rfl (.of rfl rfl rfl (by exact trivial) rfl rfl rfl (by exact trivial)) (M4 (pv 3)) (dN5 (by decide) (by decide)) λ_ _ _ _=>⟨(T6 (n:=2) rfl (D5 (E9 (i:=0) (by decide +kernel:(["p", "q"]:AH).Nodup) rfl (Or.inl rfl)) (D5 (E9 (i:=1) (by decide +kernel:(["p", "q"]:AH).Nodup) rfl (Or.inl rfl)) P3))),N7,(D3 (A0 (pv 1) (A0 (pv 0) A5)))⟩)) A5)) A5))))))),K7 hS r ?_ q⟩
 refine B2 (E4 (ds:=(wys (D:Int) B z').map pD) (J5 (A4 v0 (A4 v2 A8)) ⟨m,U,tr,D,B,z',dw,t3,rfl,rfl⟩) ?_ (show 3<5 by decide))
 generalize (D:Int)=x at X ⊢;generalize (B:Int)=y at X ⊢;generalize (z':Int)=z at X ⊢;show W K _ [vD U,.val (.tuple (ps.map pD)),.val (tI [x,y,z]),.own ((wys x y z).map pD),.no] _;refine B2 (U8 (b := !((wys x y z).all λw=>decide (w∈ps))) (z4 (t_b (D7 (A4 v1 (A4 v2 A8)) ⟨ps,x,y,z,by lia,rfl,rfl⟩))) (λJ=>?_) (λJ=>F9 ?_))
 .have:((wys x y z).all λw=>decide (w∈ps))=true:=Ac9.mpr λw hw=>As (X w hw)
  rw[this]at J;cases J
 generalize hG:wys x y z=G at X ⊢;have cm:=J7 (K:=K) (m:=true) (ρ:=[vD U,.val (.tuple (ps.map pD)),.val (tI [x,y,z]),.own (G.map pD),.no]) (n:=1) (is:=[3]) (g:=F5 0) (tt:=aD8 (tOp (bI4 K true) (C4 0) (C4 1))) (te:=C4 0) (fNi G) (aE0 (ds:=ps.map pD) v1) (by rw[Aa3];unfold sizeLine;lia) (λd M=>by
  obtain⟨u,hu,rfl⟩:=Aa8.mp M;refine⟨_,B4,?_⟩;have e:=S6 (K:=K) (m:=false) (ρ:=(slC [vD U,.val (.tuple (ps.map pD)),.val (tI [x,y,z]),.own (G.map pD),.no] 1 [3]).set 0 (.val (pD u))) v0 (y6 (i:=1) rfl) (ds:=G.map pD) rfl (S7 u).fit (cT7 G);rw[aF5]at e;show match (if(u.1,u.2)∈G then none else some (tI [u.1,u.2])) with | none=>_ | some y=>_
  by_cases h:u∈G
  .rw[Ac h];rw[As h]at e;exact C3 e
  .rw[Ab h];rw[Ak h]at e;exact⟨C3 e,A9 rfl⟩)
 rw[bW6]at cm;refine B2 (E4 cm ?_ (show 4<5 by decide))
 show W K _ [vD U,.val (.tuple (ps.map pD)),.val (tI [x,y,z]),.own (G.map pD),.own ((ps.filter λp=>decide (p∉G)).map pD)] _
 have g3:G.length=3:=by rw[<- hG];rfl
 have c2:=J7 (K:=K) (m:=false) (ρ:=[vD U,.val (.tuple (ps.map pD)),.val (tI [x,y,z]),.own (G.map pD),.own ((ps.filter λp=>decide (p∉G)).map pD)]) (n:=2) (is:=[]) (g:=bJ6 K 2 (T0 (F5 0) (T0 (F5 1) aY4))) (tt:=aM1) (te:=aL8 (C9 (C4 1) (C9 (C4 0) O1))) fSw (P6 (ds:=G.map pD) (F2 (i:=3) rfl)) (by rw[Aa3,g3];decide) (λd M=>by
  obtain⟨u,hu,rfl⟩:=Aa8.mp M;exact⟨_,k7 (E6 B4 (E6 B4 T7)),y9,G1 (A4 (LV.E.imm (y6 (i:=1) rfl)) (A4 (LV.E.imm (y6 (i:=0) rfl)) A8))⟩)
 rw[bW3]at c2;have lf:(ps.filter λp=>decide (p∉G)).length<=60:=Bd (List.length_filter_le _ _) hl
 have e3:(G.map sw).length=3:=by rw[Aa3,g3]
 have ec:=aG9 (K:=K) (F2 (i:=4) rfl) (EF.e' c2) (m9 _) (m9 _) (by rw[Aa3,Aa3,e3];unfold sizeLine;lia)
 rw[<- Ad2]at ec;have es:=aX3 (K:=K) (A4 (EF.e' ec) A8) (by rw[Ab7,e3];lia)
 exact L6 (W6 (A4 (EF.e' es) A8) (m9 _)) rfl
end
end K39
namespace LV
open PySem L2
end LV
set_option maxHeartbeats 1000000
namespace K39
open PySem L2 LV PyProof.Rows
theorem aH3 (z:Dw m dr tr):t∈R9 m dr↔∃p q,q∈TT.trn dr p/\t=cL (TT.lnd (TT.trn dr) p q)/\TT.lnd (TT.trn dr) p q≠[0,2,1]:=by
 unfold R9;rw[Ap,(D1 _).mem_iff,Aa8];constructor
 .rintro⟨⟨l,hl,rfl⟩,h⟩;obtain⟨p,q,w,rfl⟩:=z.good.rds_mem.mp hl;exact⟨p,q,w,rfl,λe=>by rw[e]at h;simp[cL]at h⟩
 .rintro⟨p,q,w,rfl,h⟩;exact⟨⟨_,z.good.rds_mem.mpr ⟨p,q,w,rfl⟩,rfl⟩,As λe=>h (aO2 (show cL _=cL [0,2,1] from e))⟩
theorem bQ8 (w:Dw m dr tr):(R9 m dr).length+5=2*(m+3):=by
 have h:=w.good.inner_len
 unfold R9;have z:=(D1 ((TT.rds (TT.trn dr) (m+3)).map cL)).filter λl=>decide (l≠[0,2,1])
 rw[z.length_eq,List.filter_map,Aa3,<- h]
 congr 2
 refine List.filter_congr λl _=>?_
 refine Dd.mpr (not_congr ⟨λe=>?_,λe=>by rw[e];rfl⟩)
 exact aO2 (show cL l=cL [0,2,1] from e)
def hI (H:Nat->Nat->Int):AD->Int
 | [x,y,_]=>H x.toNat y.toNat
 | _=>0
def hN (H:Nat->Nat->Int)(l:AC):Int:=hI H (cL l)
section
theorem aP2 (X:Dw m dr tr)(z:TT.Po (TT.trn dr) u v H)(U:q∈TT.trn dr p):hN H (TT.lnd (TT.trn dr) p q)=H p q:=by
 have G:=X.good
 have j:=G.th U
 have w:=z.fa _ _ _ j
 have Y:=z.fa _ _ _ (G.tri _ _ _ j)
 unfold TT.lnd;rcases TT.Q8 p q (TT.th (TT.trn dr) p q) with e | e | e <;> rw[e]
 .show H ((p:Int).toNat) ((q:Int).toNat)=_
  rw[Ac8,Ac8]
 .show H ((q:Int).toNat) ((TT.th (TT.trn dr) p q:Int).toNat)=_
  rw[Ac8,Ac8,w]
 .show H ((TT.th (TT.trn dr) p q:Int).toNat) ((p:Int).toNat)=_
  rw[Ac8,Ac8,w,Y]
theorem aY1 (w:Dw m dr tr)(Y:TT.Po (TT.trn dr) u v H){t:AD}(j:t∈R9 m dr):∃p q,q∈TT.trn dr p/\t=cL (TT.lnd (TT.trn dr) p q)/\hI H t=H p q:=by
 obtain⟨p,q,z,rfl,_⟩:=(aH3 w).mp j;exact⟨p,q,z,rfl,aP2 w Y z⟩
end
def kvH (H:Nat->Nat->Int)(L:AA):List (AD×PyData):=L.map λl=>(cL l,PyData.int (hN H l))
theorem cA6 (H:Nat->Nat->Int)(L:AA)(l:AC):(kvH H L).any (λx=>decide (x.1=cL l))=decide (l∈L):=by
 unfold kvH;rw[List.any_map,Ck,List.any_eq_true,Am];constructor
 .rintro⟨x,hx,h⟩;simp only[Function.comp,Am]at h;rw[<- aO2 h];exact hx
 .intro h;exact⟨l,h,by simp[Function.comp]⟩
theorem dA2 (h:l∉L):X1 (kvH H L) (cL l) (.int (hN H l))=kvH H (L++[l]):=by
 unfold X1;rw[cA6,Ab (by simp[h])]
 unfold kvH;rw[Ad2];rfl
theorem bP2 (H:Nat->Nat->Int)(L:AA):(kvH H L).all (λx=>w9 x.2)=true:=by
 unfold kvH;rw[List.all_map,Ac9];intro x _;rfl
theorem bS0:∀{L:AA},l∈L->atD (kvH H L) (cL l)=some (.int (hN H l))
 | [],h=>by cases h
 | x::L,h=>by
  unfold atD kvH;rw[Ac7,Bv];by_cases e:x=l
  .subst e;simp
  .have e':¬cL x=cL l:=λz=>e (aO2 z)
   simp only[e',decide_false];exact bS0 (by rcases Aa1.mp h with h | h;exact absurd h.symm e;exact h)
def fHe (H:Nat->Nat->Int):PyData->Option PyData
 | .tuple [.int x,.int y,.int _]=>some (.int (H x.toNat y.toNat))
 | _=>none
theorem dA7 {H:Nat->Nat->Int}{L:AB}(h:∀t∈L,∃x y z:Int,t=[x,y,z]):(L.map tI).filterMap (fHe H)=(L.map (hI H)).map PyData.int:=by
 rw[Bb,Ae2,<- List.filterMap_eq_map];refine M7 λt w=>?_
 obtain⟨x,y,z,rfl⟩:=h t w;rfl
def cN4 (ds:AF)(d:PyData):Prop:=∃(m:Nat) (dr tr:AA) (one other:List (Int×Int)) (H:Nat->Nat->Int),Dw m dr tr/\TT.Po (TT.trn dr) (uA one) (uA other) H/\ds=[tD dr,.tuple (one.map pD),.tuple (other.map pD)]/\d=tI ((R9 m dr).map (hI H))
theorem K8:C2 ["_law_drawing", "_law_left", "_law_p", "_law_q"] ["_law_drawing"] (B3 O4):={}
theorem i8:C2 ["_law_one", "_law_other", "_law_way", "_law_back"] ["_law_one", "_law_other", "_law_way"] (B3 V6):={}
theorem sc__law_heights:C2 ["_law_drawing", "_law_one", "_law_other", "_law_left", "_law_known", "_law_waiting", "_law_a", "_law_b", "_law_c", "_law_way", "_law_beyond"] ["_law_drawing", "_law_one", "_law_other"] (B3 X9):={}
theorem bQ6:∀(kv:List (AD×PyData)) (k k':AD) (d:PyData),atD (X1 kv k d) k'=if k'=k then some d else atD kv k':=λkv k k' d=>by
 unfold X1;have any_iff:(kv.any λx=>decide (x.1=k))=true↔∃x∈kv,x.1=k:=by
  rw[List.any_eq_true];exact⟨λ⟨x,h,z⟩=>⟨x,h,An z⟩,λ⟨x,h,z⟩=>⟨x,h,As z⟩⟩
 split
 .rename_i h;obtain⟨x,hx,hk⟩:=any_iff.mp h
  clear h any_iff
  induction kv with
  | nil=>cases hx
  | cons y kv ih=>
   rw[Ac7];unfold atD;rw[Bv,Bv];by_cases e:y.1=k
   .rw[Ac e];by_cases e':k'=k
    .rw[Ac e',e,As e'.symm];rfl
    .rw[Ab e',e,Ak (λz=>e' z.symm)]
     have:∀(l:List (AD×PyData)),((l.map λx=>if x.1=k then(x.1,d) else x).find? λx=>decide (x.1=k')).map (·.2)=(l.find? λx=>decide (x.1=k')).map (·.2):=λl=>by
      induction l with
      | nil=>rfl
      | cons z l ihl=>
       rw[Ac7,Bv,Bv];by_cases ez:z.1=k
       .rw[Ac ez,ez,Ak (λz=>e' z.symm)];exact ihl
       .rw[Ab ez];by_cases e3:z.1=k'
        .rw[As e3]
        .rw[Ak e3];exact ihl
     exact this kv
   .rw[Ab e];rcases Aa1.mp hx with rfl | hx
    .exact absurd hk e
    .have ih:=ih hx
     by_cases e3:y.1=k'
     .have e4:k'≠k:=λz=>e (e3.trans z)
      rw[As e3,Ab e4]
     .rw[Ak e3];exact ih
 .rename_i h;have hn:∀x∈kv,x.1≠k:=λx hx e=>h (any_iff.mpr ⟨x,hx,e⟩)
  unfold atD;rw[List.find?_append];by_cases e':k'=k
  .rw[Ac e',List.find?_eq_none.mpr (λx hx=>by rw[decide_eq_true_iff];exact λz=>hn x hx (z.trans e')),Option.none_or,Bv,As e'.symm];rfl
  .rw[Ab e',Bv,Ak (λz=>e' z.symm)]
   cases kv.find? λx=>decide (x.1=k') <;> rfl
theorem aH4 (h:x.nb=true):O0 (x::r)=O0 r:=by
 cases x <;> first | rfl | cases h
def dE0 (ds:AF)(post:PyData->Prop):Prop:=∃(m:Nat) (dr tr:AA),Dw m dr tr/\ds=[tD dr]/\post=λd=>∃kvs,d=.dict (R7 kvs)/\∀p q:Nat,q∈TT.trn dr p->atD kvs [(p:Int),(q:Int)]=some (tI (cL (TT.lnd (TT.trn dr) p q)))
theorem cF0 (h1:x≠y)(X:y≠z)(U:x≠z):TT.T1 [x,y,z]=TT.nrm x y z:=by
 obtain⟨M,N,j,R⟩:∃M:Nat,M∈[x,y,z]/\(∀c∈[x,y,z],M<=c)/\[x,y,z].drop ([x,y,z].idxOf M)++[x,y,z].take ([x,y,z].idxOf M)=TT.nrm x y z:=by
  unfold TT.nrm;by_cases m:x<y/\x<z
  .rw[Ac m];exact⟨x,by simp,λc w=>by simp at w;lia,by simp⟩
  .rw[Ab m];by_cases Y:y<z/\y<x
   .rw[Ac Y];exact⟨y,by simp,λc w=>by simp at w;lia,by rw[show [x,y,z].idxOf y=1 from TT.G5 (p:=[x]) (s:=[z]) (by simp[h1,X,U]) rfl];rfl⟩
   .rw[Ab Y];exact⟨z,by simp,λc w=>by simp at w;lia,by rw[show [x,y,z].idxOf z=2 from TT.G5 (p:=[x,y]) (s:=[]) (by simp[h1,X,U]) rfl];rfl⟩
 have e:TT.mn [x,y,z]=M:=by
  have J:=TT.cB7 (l:=[x,y,z]) (by simp)
  have Q:=J.2 M N
  have D:=j _ J.1
  lia
 unfold TT.T1;rw[e,R]
theorem cH4 (h:kvs.all (λx=>w9 x.2)=true)(w:w9 d=true):(X1 kvs k d).all (λx=>w9 x.2)=true:=by
 rw[Ac9]at h ⊢;intro x hx;unfold X1 at hx;split at hx
 .obtain⟨y,z,rfl⟩:=Aa8.mp hx;split
  .exact w
  .exact h y z
 .rcases Aa0.mp hx with hx | hx
  .exact h x hx
  .rw[Ad8.mp hx];exact w
theorem cU1 (l:AD):w9 (tI l)=true:=by
 show(l.map PyData.int).all _=true
 rw[List.all_map,Ac9];intro x _;rfl
def dC3 (ds:AF)(d:PyData):Prop:=∃(one other:List (Int×Int)) (p q:Nat),TT.rsn (uA one) (uA other) q p = - TT.rsn (uA one) (uA other) p q/\ds=[.tuple (one.map pD),.tuple (other.map pD),pD ((p:Int),(q:Int))]/\d=.int (TT.rsn (uA one) (uA other) p q)
def alL (m:Nat)(dr:AA):AB:=M3 ((TT.rds (TT.trn dr) (m+3)).map cL)
theorem dA8 (m:Nat)(w:AA):R9 m w=(alL m w).filter λl=>decide (l≠[0,2,1]):=rfl
def fH2 (H:Nat->Nat->Int)(d:PyData):Option PyData:=if PyData.eqv d (tI [0,2,1]) then none else fHe H d
theorem cV7 {H:Nat->Nat->Int}{L:AB}(h:∀t∈L,∃x y z:Int,t=[x,y,z]):(L.map tI).filterMap (fH2 H)=((L.filter λl=>decide (l≠[0,2,1])).map (hI H)).map PyData.int:=by
 rw[<- dA7 λt w=>h t (Ap.mp w).1,Bb,Bb,List.filterMap_filter]
 refine M7 λt w=>?_
 show(if PyData.eqv (tI t) (tI [0,2,1]) then none else fHe H (tI t))=if decide (t≠[0,2,1])=true then fHe H (tI t) else none
 rw[o4];by_cases e:t=[0,2,1] <;> simp[e]
theorem dW3 (h:x6.nb=true/\x7.nb=true/\x8.nb=true/\x9.nb=true/\x10.nb=true):O0 [.val a,.val b,.val c,.val d,.tr e,.own f,x6,x7,x8,x9,x10]=true:=by
 show O0 [x6,x7,x8,x9,x10]=true
 rw[aH4 h.1,aH4 h.2.1,aH4 h.2.2.1,aH4 h.2.2.2.1,aH4 h.2.2.2.2];rfl
section
variable {P:Program}{w:World}{K:Frag}{mg:Str->Option Value}{base:Heap}{a:Ad}
theorem dQ4 (T:Tx K mg a):K3 P w K mg base CX0 2 a.U7 a.V5 ["_law_drawing"] (spX K dE0):=by
 have J := @bM1 P w K mg base a T
 refine T.V3.F.ok K8 (dO3 (by rintro ds d ⟨_,_,_,_,rfl,_⟩;rfl)) (λcdv A outer s H vs Q E hr h=>?_)
 obtain⟨ds,S,post,hS,r,⟨m,z,tr,R,rfl,rfl⟩,q⟩:=h;refine⟨_,(A6 (psS 1 K8 bC4)
   (A6 (J8 Aj rfl (K2 rfl T.L9 (A0 (B6 (aJ0 K) (by rfl) T.O3 Aw (A0 (pv 0) A5)) A5)) (pgN 2 K8) (B1 (J8 Aj rfl (i6 (B5 (ixK K) (pv 0) (pv 2) (λ_ _=>rfl))) (pgN 3 K8) (B1 (aP3 K hr (pv 1) (D3 (A0 (pv 2) (A0 (pv 3) A5))) (pcl J hr T.o9 (A0 (D0 (A0 (pv 2) (A0 (pv 3) (A0 (B5 (ixK K) (B5 (ixK K) (pv 0) (pv 3) (λ_ _=>rfl)) (B7 U2 (K0 PySem.F.plainAttrs_tuple PySem.F.slot_tuple_index PySem.F.type_tuple_index (aP0 K) (B5 (ixK K) (pv 0) (pv 3) (λ_ _=>rfl)) (A0 (pv 2) A5)) A7) (λ_ _=>rfl)) A5)))) A5)))))))
   (B1 (C8 (pv 1))))),bT3 hS r ?_ q⟩
 have G:=R.good
 have m7:=R.m7
 have hln:(z.map tN).length=m+3:=by rw[Aa3];exact R.len
 refine B2 (aW1 aV1 ?_ (show 1<4 by decide))
 refine B2 (N9 (T3 (j:=((z.map tN).length:Int)) (A4 (P4 (ds:=z.map tN) (A4 v0 A8)) A8) (by lia) (by lia)) (λb ρ=>∃(kvs:List (AD×PyData)) (x2 M:Sl),(x2.nb=true/\M.nb=true)/\kvs.length<=10*b/\kvs.all (λx=>w9 x.2)=true/\(∀p q:Nat,p<b->q∈TT.trn z p->atD kvs [(p:Int),(q:Int)]=some (tI (cL (TT.lnd (TT.trn z) p q))))/\ρ=[vD z,.tr (.dic kvs),x2,M]) ⟨[],.no,.no,⟨rfl,rfl⟩,by simp,rfl,λp q h=>by lia,rfl⟩ ?_ ?_)
 .rintro p d _ hd ⟨kvs,x2,M,⟨b2,b3⟩,hl,hf,hm,rfl⟩;obtain⟨rfl,hp⟩:=U0 hd;have hp:p<m+3:=by lia
  have hpl:=R.tle p
  refine⟨_,B4,?_⟩;show W K _ [vD z,.tr (.dic kvs),vI (p:Int),M] _;refine N9 (aE0 (ds:=nI (TT.trn z p)) (E7 (ds:=z.map tN) v0 v2 rfl (R.at_ hp))) (λj ρ=>∃(Y:List (AD×PyData)) (M:Sl),M.nb=true/\Y.length<=10*p+j/\Y.all (λx=>w9 x.2)=true/\(∀N q:Nat,N<p->q∈TT.trn z N->atD Y [(N:Int),(q:Int)]=some (tI (cL (TT.lnd (TT.trn z) N q))))/\(∀q:Nat,q∈(TT.trn z p).take j->atD Y [(p:Int),(q:Int)]=some (tI (cL (TT.lnd (TT.trn z) p q))))/\ρ=[vD z,.tr (.dic Y),vI (p:Int),M]) ⟨kvs,M,b3,by lia,hf,hm,by simp,rfl⟩ ?_ ?_
  .rintro j d _ hd ⟨Y,M,b3,hl2,hf2,hm2,hj2,rfl⟩;have hjl:j<(TT.trn z p).length:=by have:=(Ab0.mp hd).1;rw[F7]at this;exact this
   unfold nI at hd;rw[Aa9]at hd;obtain⟨U,hq',rfl⟩:=Au.mp hd;have hq:U∈TT.trn z p:=Av hq';have hx:=G.sym hq;refine⟨_,B4,?_⟩;show W K _ [vD z,.tr (.dic Y),vI (p:Int),vI (U:Int)] _;obtain⟨n1,n2,n3⟩:=G.th_ne hq;have D:LV.E K false (tOp (rIx K) (C4 0) (C4 3)) [vD z,.tr (.dic Y),vI (p:Int),vI (U:Int)] (tN (TT.trn z U)):=E7 (ds:=z.map tN) v0 v3 rfl (R.at_ (R.lt hx));have hI:LV.E K false _ [vD z,.tr (.dic Y),vI (p:Int),vI (U:Int)] (.int ((((TT.trn z U).map λ(x:Nat)=>(x:Int)).idxOf (p:Int):Nat):Int)):=aU9 (l:=(TT.trn z U).map λ(x:Nat)=>(x:Int)) (k:=(p:Int)) (by rw[<- aY2];exact D) v2 (Aa8.mpr ⟨p,hx,rfl⟩)
   rw[aA3 p (TT.trn z U)]at hI;have hth:LV.E K true _ [vD z,.tr (.dic Y),vI (p:Int),vI (U:Int)] (.int (TT.th (TT.trn z) p U:Nat)):=LV.E.imm (m:=false) (E7 (ds:=nI (TT.trn z U)) D (N0 (g:=λi j=>i-j) hI (B0 (i:=1))) rfl (cL7 hx))
   refine aW5 (ks:=[(p:Int),(U:Int)]) (d:=tI (cL (TT.lnd (TT.trn z) p U))) (i:=1) (by
    rw[<- bD5];exact D7 (pre:=bO9) (X:=E0) (A4 (EF.e' (F4 (ds:=[.int (p:Int),.int (U:Int),.int (TT.th (TT.trn z) p U:Int)]) (A4 v2 (A4 v3 (A4 hth A8))))) A8) ⟨[p,U,TT.th (TT.trn z) p U],by simp,by simp,rfl,by rw[cF0 n1 n2 n3];rfl⟩) rfl (G1 (ds:=[.int (p:Int),.int (U:Int)]) (A4 v2 (A4 v3 A8))) (by unfold sizeLine;lia) ⟨X1 Y [(p:Int),(U:Int)] (tI (cL (TT.lnd (TT.trn z) p U))),vI (U:Int),rfl,by have:=bO2 Y [(p:Int),(U:Int)] (tI (cL (TT.lnd (TT.trn z) p U)));lia,cH4 hf2 (cU1 _),λN B h1 h2=>?_,λB h2=>?_,rfl⟩
   .rw[bQ6,Ab (by simp;lia)];exact hm2 N B h1 h2
   .rw[bQ6];by_cases e:B=U
    .rw[e,Ac rfl]
    .rw[Ab (by simp;lia)]
     refine hj2 B ?_;rw[De,hq']at h2;simp only[Option.toList_some,Aa0,Ad8]at h2;rcases h2 with h2 | h2
     .exact h2
     .exact absurd h2 e
  .rintro _ ⟨Y,M,b3,hl2,hf2,hm2,hj2,rfl⟩;rw[F7]at hl2 hj2;rw[Cm]at hj2;refine⟨Y,_,M,⟨rfl,b3⟩,by lia,hf2,λN B h1 h2=>?_,rfl⟩
   by_cases e:N=p
   .subst e;exact hj2 B h2
   .exact hm2 N B (by lia) h2
 rintro _ ⟨kvs,x2,M,_,hl,hf,hm,rfl⟩;rw[O8,hln,show((m+3:Nat):Int).toNat=m+3 by lia]at hm
 refine bK0 (i:=1) rfl ?_;show W K _ [vD z,.val (dD kvs),x2,M] _;rw[bJ5 hf];exact L6 v1 ⟨kvs,rfl,λp U hq=>hm p U (R.lt hq) hq⟩
theorem dQ8 (T:Tx K mg a):K3 P w K mg base CX0 1 a.w4 a.y7 ["_law_one", "_law_other", "_law_way"] (spV K dC3):=by
 refine T.w5.F.ok i8 (W3 (by rintro ds d ⟨_,_,_,_,_,rfl,_⟩;rfl)) (λN A J s H vs Q E X h=>?_)
 obtain⟨ds,S,d,R,r,⟨one,other,p,z,Y,rfl,rfl⟩,q⟩:=h;refine⟨_,(A6 (psS 3 i8 (D3 (A0 (B5 (ixK K) (pv 2) A7 (λ_ _=>rfl)) (A0 (B5 (ixK K) (pv 2) A7 (λ_ _=>rfl)) A5))))
   (A6 (M1 (C0 (aF8 K X) (pv 2) (pv 0) rfl) (B1 (C8 (L4 bD8 (by rfl) T.bN8 boot_int (A0 (l4 (M5 K X) (pv 2) (pv 1) rfl) A5)))) E8)
   (A6 (M1 (C0 (aF8 K X) (pv 3) (pv 0) rfl) (B1 (C8 (B7 U2 A7 (L4 bD8 (by rfl) T.bN8 boot_int (A0 (l4 (M5 K X) (pv 3) (pv 1) rfl) A5))))) E8)
   (B1 (C8 A7))))),K7 R r ?_ q⟩
 refine B2 (F3 (d:=pD ((z:Int),(p:Int))) (G1 (ds:=[.int (z:Int),.int (p:Int)]) (A4 (E7 (ds:=[.int (p:Int),.int (z:Int)]) v2 B0 rfl rfl) (A4 (E7 (ds:=[.int (p:Int),.int (z:Int)]) v2 B0 rfl rfl) A8))) ?_);have e1:=aY3 (K:=K) (m:=false) (ρ:=[.val (.tuple (one.map pD)),.val (.tuple (other.map pD)),.val (pD ((p:Int),(z:Int))),.val (pD ((z:Int),(p:Int)))]) (ds:=one.map pD) v2 v0 rfl (S7 _).fit (m8 _);have e2:=S6 (K:=K) (m:=false) (ρ:=[.val (.tuple (one.map pD)),.val (.tuple (other.map pD)),.val (pD ((p:Int),(z:Int))),.val (pD ((z:Int),(p:Int)))]) (ds:=other.map pD) v2 v1 rfl (S7 _).fit (m8 _);have e3:=aY3 (K:=K) (m:=false) (ρ:=[.val (.tuple (one.map pD)),.val (.tuple (other.map pD)),.val (pD ((p:Int),(z:Int))),.val (pD ((z:Int),(p:Int)))]) (ds:=one.map pD) v3 v0 rfl (S7 _).fit (m8 _);have M:=S6 (K:=K) (m:=false) (ρ:=[.val (.tuple (one.map pD)),.val (.tuple (other.map pD)),.val (pD ((p:Int),(z:Int))),.val (pD ((z:Int),(p:Int)))]) (ds:=other.map pD) v3 v1 rfl (S7 _).fit (m8 _);rw[aF5]at e1 e2 e3 M;unfold TT.rsn uA at Y ⊢;refine B2 (U8 (C3 e1) (λh=>?_) (λh=>F9 ?_))
 .refine L6 (cO2 (A4 e2 A8)) ?_;rw[h];cases decide (((p:Int),(z:Int))∈other) <;> rfl
 refine B2 (U8 (C3 e3) (λU=>?_) (λU=>F9 ?_))
 .refine L6 (N0 (g:=λi j=>i-j) (B0 (i:=0)) (cO2 (A4 M A8))) ?_
  rw[h,U]at Y;rw[h]
  revert Y
  cases decide (((z:Int),(p:Int))∈other) <;> cases decide (((p:Int),(z:Int))∈other) <;> simp
 .refine L6 (B0 (i:=0)) ?_;rw[h,U]at Y;rw[h]
  revert Y
  cases decide (((z:Int),(p:Int))∈other) <;> cases decide (((p:Int),(z:Int))∈other) <;> simp
theorem dC5 (T:Tx K mg a):K3 P w K mg base CX0 3 a.aC1 a.aB1 ["_law_drawing", "_law_one", "_law_other"] (spV K cN4):=by
 have J := @dQ4 P w K mg base a T
 have R := @dQ8 P w K mg base a T
 refine T.Z3.F.ok sc__law_heights (W3 (by rintro ds d ⟨_,_,_,_,_,_,_,_,rfl,_⟩;rfl)) (λcdv A outer s Hh vs Q E hr h=>?_)
 obtain⟨ds,S,d,hS,r,⟨m,U,tr,one,other,H,dw,po,rfl,rfl⟩,q⟩:=h;refine⟨_,(A6 (psS 3 sc__law_heights (pcl J hr T.V3 (A0 (pv 0) A5)))
   (A6 (aO3 (i:=4) sc__law_heights.nd rfl (Or.inr rfl) (cW7 K hr (D3 (A0 A7 (A0 A7 (A0 A7 A5)))) A7))
   (A6 (psS 5 sc__law_heights (D0 (A0 (D3 (A0 A7 (A0 A7 (A0 A7 A5)))) A5)))
   (A6 (U6 Aj (C0 y4 (B6 (aJ0 K) (by rfl) T.O3 Aw (A0 (pv 5) A5)) A7 (F6 _)) (A6 (aO8 (aF6 Ab1 PySem.F.slot_list_pop PySem.F.type_list_pop aH1 (pv 5)) (T6 (n:=3) rfl (D5 (pgN 6 sc__law_heights) (D5 (pgN 7 sc__law_heights) (D5 (pgN 8 sc__law_heights) P3)))))
   (B1 (J8 Aj rfl (i6 (D3 (A0 (D3 (A0 (pv 6) (A0 (pv 7) A5))) (A0 (D3 (A0 (pv 7) (A0 (pv 8) A5))) (A0 (D3 (A0 (pv 8) (A0 (pv 6) A5))) A5))))) (pgN 9 sc__law_heights) (A6 (psS 10 sc__law_heights (B5 (bU6 K hr) (pv 3) (D3 (A0 (B5 (ixK K) (pv 9) A7 (λ_ _=>rfl)) (A0 (B5 (ixK K) (pv 9) A7 (λ_ _=>rfl)) A5))) (λ_ _=>rfl)))
   (B1 (M1 (C0 (aQ5 K hr) (pv 10) (pv 4) rfl) (A6 (aP3 K hr (pv 4) (pv 10) (B7 U2 (B5 (bU6 K hr) (pv 4) (D3 (A0 (pv 6) (A0 (pv 7) (A0 (pv 8) A5)))) (λ_ _=>rfl)) (pcl R hr T.w5 (A0 (pv 1) (A0 (pv 2) (A0 (pv 9) A5))))))
   (B1 (E5 (K0 Ab1 Ag Af D2 (pv 5) (A0 (pv 10) A5))))) E8)))))))
   (B1 (C8 (L4 (cK2 K) (by rfl) T.P1 boot_tuple (A0 (N2 (T:=["_law_land"]) (N':=["_law_land", "_law_known"]) (is:=[4]) rfl (.of rfl rfl rfl (by exact⟨rfl,trivial⟩) rfl rfl rfl (by exact⟨⟨_,rfl,by first | exact .inl rfl | exact .inr rfl,by first | exact .inl rfl | exact .inr rfl⟩,trivial⟩)) (M4 (B6 (bT8 K rfl) (by rfl) T.N8 boot_sorted (A0 (pv 4) A5))) (J0 (by decide)) λ_ _ _ _=>⟨(E9 (i:=0) (by decide +kernel:(["_law_land", "_law_known"]:AH).Nodup) rfl (Or.inl rfl)),(X5 (C0 (cH3 K hr) (pv 0) (D3 (A0 A7 (A0 A7 (A0 A7 A5)))) (F6 _))),(B5 (bU6 K hr) (pv 1) (pv 0) (λ_ _=>rfl))⟩) A5)))))))),K7 hS r ?_ q⟩
 have G:=dw.good
 have m7:=dw.m7
 have m02:2∈TT.trn U 0:=(TT.C6 G.outs.1).1
 have h02:hN H [0,2,1]=0:=by rw[<- aV3 dw,aP2 dw po m02];exact po.z
 refine B2 (aW3 (pre:=dE0) (X:=E0) (A4 v0 A8) ⟨m,U,tr,dw,rfl,rfl⟩ ?_);rintro _ ⟨kl,rfl,hkl⟩;refine B2 (aW1 (cR3 (ks:=[0,2,1]) (d:=.int 0) (G1 (ds:=[.int 0,.int 2,.int 1]) (A4 B0 (A4 B0 (A4 B0 A8)))) B0 rfl) ?_ (show 4<11 by decide))
 refine B2 (E4 (ds:=[tN [0,2,1]]) (F4 (A4 (G1 (ds:=[.int 0,.int 2,.int 1]) (A4 B0 (A4 B0 (A4 B0 A8)))) A8)) ?_ (show 5<11 by decide))
 refine B2 (p8 (λvr ρ=>∃(met wt:AA) (D:List (Nat×Nat)) (x6 x7 x8 x9 N:Sl),(vr=2*(16-met.length)+wt.length/\vr<=40)/\(x6.nb=true/\x7.nb=true/\x8.nb=true/\x9.nb=true/\N.nb=true)/\TT.MI (TT.trn U) (λ_ _=>False) 0 2 met D/\(∀l∈wt,l∈met)/\(∀l∈met,l∉wt->∀u∈TT.wys l,u∈D)/\ρ=[vD U,.val (.tuple (one.map pD)),.val (.tuple (other.map pD)),.val (.dict (R7 kl)),.tr (.dic (kvH H met)),.own (wt.map tN),x6,x7,x8,x9,N]) ⟨_,[TT.lnd (TT.trn U) 0 2],[TT.lnd (TT.trn U) 0 2],[],.no,.no,.no,.no,.no,⟨rfl,by simp⟩,⟨rfl,rfl,rfl,rfl,rfl⟩,TT.MI.ini m02,λl h=>h,λl h1 h2=>absurd h1 h2,by
  rw[aV3 dw];show _=[_,_,_,_,Sl.tr (.dic [([0,2,1],.int (hN H [0,2,1]))]),_,_,_,_,_,_];rw[h02];rfl⟩ ?_)
 rintro vr ρ' ⟨met,wt,D,x6,x7,x8,x9,N,⟨hv,hv40⟩,hb,M,hw,hD,rfl⟩;have ml:=M.sub G;refine⟨decide (((wt.map tN).length:Int)>0),C3 (aD2 (g:=λi j=>decide (i>j)) (P4 (ds:=wt.map tN) (A4 (F2 (i:=5) rfl) A8)) (B0 (i:=0))),?_⟩
 rw[Aa3];rcases Ac5 wt with rfl | ⟨wt',l0,rfl⟩
 .rw[Ak (by simp),Ab Ah]
  have hall:∀l,l∈met↔l∈TT.rds (TT.trn U) (m+3):=λl=>by
   rw[M.fin G m02 (λl hl=>hD l hl (by simp)),G.rds_mem]
   constructor
   .rintro⟨p,q',h1,h2,_⟩;exact⟨p,q',h1,h2⟩
   .rintro⟨p,q',h1,h2⟩;exact⟨p,q',h1,h2,TT.aX2 G (P:=λp q=>TT.Rc (TT.trn U) (λ_ _=>False) 0 2 p q) (λq x y ha h=>.rot h ha) (λp q hq h=>.cross h hq id) m02 .base p q' h1⟩
  have hmp:met.Perm (TT.rds (TT.trn U) (m+3)):=(List.perm_ext_iff_of_nodup M.nd G.rds_nd).mpr hall
  have hrl:=G.rds_len
  have hml:=hmp.length_eq
  refine bK0 (i:=4) rfl ?_;show W K _ [vD U,.val (.tuple (one.map pD)),.val (.tuple (other.map pD)),.val (.dict (R7 kl)),.val (dD (kvH H met)),.own _,x6,x7,x8,x9,N] _;rw[bJ5 (bP2 H met)];have k3:∀t∈alL m U,∃x y z:Int,t=[x,y,z]:=λt ht=>by
   obtain⟨l,hl,rfl⟩:=Aa8.mp ((D1 _).mem_iff.mp ht);obtain⟨p,q',_,rfl⟩:=G.rds_mem.mp hl;obtain⟨a,b,c,e,_⟩:=z7 (TT.trn U) p q';rw[e];exact⟨a,b,c,rfl⟩
  have hkk:(kvH H met).map (·.1)=met.map cL:=by unfold kvH;rw[Ae2];rfl
  have hkn:(kvH H met).length=met.length:=by unfold kvH;rw[Aa3]
  have so:=cL0 (K:=K) (kvs:=kvH H met) (ss:=alL m U) (ρ:=[vD U,.val (.tuple (one.map pD)),.val (.tuple (other.map pD)),.val (.dict (R7 kl)),.val (.dict (R7 (kvH H met))),.own ((([]:AA)).map tN),x6,x7,x8,x9,N]) (td:=C4 4) v4 (λx hx=>by
   obtain⟨l,hl,rfl⟩:=Aa8.mp hx;obtain⟨p,q',_,rfl⟩:=G.rds_mem.mp ((hall l).mp hl);obtain⟨a,b,c,e,_⟩:=z7 (TT.trn U) p q';rw[e];simp[cL]) (by lia) (by lia) (by rw[hkk];exact(D1 _).trans (hmp.map cL).symm) (R3 _)
  have hal:(alL m U).length<=20:=by unfold alL;rw[(D1 _).length_eq,Aa3];lia
  have cm:=J7 (K:=K) (m:=true) (n:=1) (is:=[4]) (g:=F5 0) (tt:=aD8 (tOp (bS9 K true) (C4 0) (aL8 (C9 (tC (.int 0)) (C9 (tC (.int 2)) (C9 (tC (.int 1)) O1)))))) (te:=tOp (bR2 K) (C4 1) (C4 0)) (fH2 H) (P6 (EF.e' so)) (by rw[Aa3];unfold sizeLine;lia) (λd hd=>by
   obtain⟨t,ht,rfl⟩:=Aa8.mp hd;obtain⟨l,hl,rfl⟩:=Aa8.mp ((D1 _).mem_iff.mp ht);refine⟨_,B4,?_⟩;have e:=dB6 (K:=K) (m:=false) (ρ:=(slC [vD U,.val (.tuple (one.map pD)),.val (.tuple (other.map pD)),.val (.dict (R7 kl)),.val (.dict (R7 (kvH H met))),.own ((([]:AA)).map tN),x6,x7,x8,x9,N] 1 [4]).set 0 (.val (tI (cL l)))) (d:=tI (cL l)) (d':=tI [0,2,1]) v0 (G1 (ds:=[.int 0,.int 2,.int 1]) (A4 B0 (A4 B0 (A4 B0 A8)))) (FitN.fit (S4 _)) (FitN.fit (S4 _));have e3:fHe H (tI (cL l))=some (.int (hN H l)):=by
    obtain⟨x,y,z,e⟩:=k3 _ ht;rw[show hN H l=hI H (cL l) from rfl,e];rfl
   show match (if PyData.eqv (tI (cL l)) (tI [0,2,1]) then none else fHe H (tI (cL l))) with | none=>_ | some y=>_
   cases h:PyData.eqv (tI (cL l)) (tI [0,2,1]) with
   | true=>rw[h]at e;exact C3 e
   | false=>
    rw[h]at e;rw[Ab Ah,e3];exact⟨C3 e,bG4 (kvs:=kvH H met) (ks:=cL l) v1 v0 (bS0 ((hall l).mpr hl))⟩)
  rw[cV7 k3,<- dA8]at cm;exact L6 (W6 (A4 (EF.e' cm) A8) (T4 _)) rfl
 .rw[List.concat_eq_append]at *;rw[As (by simp),Ac rfl,Ad2]
  have hlm:l0∈met:=hw l0 (by simp)
  obtain⟨p0,q0,hq0,el,_⟩:=M.rc _ hlm;obtain⟨xa,xb,xc,e3,_⟩:=z7 (TT.trn U) p0 q0;have hl0:∀g∈TT.wys l0,g.2∈TT.trn U g.1/\hN H l0=H g.1 g.2:=λg hg=>by
   rw[el]at hg ⊢;have h1:=G.wys_back hq0 hg;refine⟨h1.1,?_⟩;rw[aP2 dw po hq0];have a1:=po.fa _ _ _ (G.th hq0);have a2:=po.fa _ _ _ (G.tri _ _ _ (G.th hq0));rcases (G.wys_lnd hq0).mp hg with rfl | rfl | rfl
   .rfl
   .exact a1
   .exact a1.trans a2
  rw[e3]at el;subst el;refine B2 (dK4 (bF5 (j:=5) (ds:=wt'.map tN) (d:=tN [xa,xb,xc]) rfl (dW3 hb)) (k7 (ds:=[.int (xa:Int),.int (xb:Int),.int (xc:Int)]) (E6 B4 (E6 B4 (E6 B4 T7)))) ?_);show W K _ [vD U,.val (.tuple (one.map pD)),.val (.tuple (other.map pD)),.val (.dict (R7 kl)),.tr (.dic (kvH H met)),.own (wt'.map tN),vI (xa:Int),vI (xb:Int),vI (xc:Int),x9,N] _;refine N9 (aE0 (ds:=[(xa,xb),(xb,xc),(xc,xa)].map λz=>pD (cI z)) (G1 (A4 (G1 (A4 v6 (A4 v7 A8))) (A4 (G1 (A4 v7 (A4 v8 A8))) (A4 (G1 (A4 v8 (A4 v6 A8))) A8))))) (λu ρ=>∃(Y B:AA) (D':List (Nat×Nat)) (x9 N:Sl),(x9.nb=true/\N.nb=true)/\TT.MI (TT.trn U) (λ_ _=>False) 0 2 Y D'/\(∀l∈met,l∈Y)/\2*(16-Y.length)+B.length<vr/\(∀l∈B,l∈Y)/\(∀l∈Y,l∉B->l≠[xa,xb,xc]->∀u∈TT.wys l,u∈D')/\(∀v∈([(xa,xb),(xb,xc),(xc,xa)]:List (Nat×Nat)).take u,v∈D')/\ρ=[vD U,.val (.tuple (one.map pD)),.val (.tuple (other.map pD)),.val (.dict (R7 kl)),.tr (.dic (kvH H Y)),.own (B.map tN),vI (xa:Int),vI (xb:Int),vI (xc:Int),x9,N]) ⟨met,wt',D,x9,N,⟨hb.2.2.2.1,hb.2.2.2.2⟩,M,λl h=>h,by rw[hv];simp,λl h=>hw l (by simp[h]),λl h1 h2 h3=>hD l h1 (by simp[h2,h3]),by simp,rfl⟩ ?_ ?_
  .rintro u d _ hd ⟨Y,B,D',x9,N,hb',M',hsub,hlt,hw2,hD2,hDu,rfl⟩;rw[Aa9]at hd;obtain⟨g,hg,rfl⟩:=Au.mp hd;have hlm':[xa,xb,xc]∈Y:=hsub _ hlm;have hgw:g∈TT.wys [xa,xb,xc]:=by
    have:=Av hg
    simp[TT.wys]at this ⊢
    rcases this with h | h | h <;> simp[h]
   obtain⟨gt,hg0⟩:=hl0 g hgw;have ml':=M'.sub G;have tk:∀v,v∈([(xa,xb),(xb,xc),(xc,xa)]:List (Nat×Nat)).take (u+1)->v∈([(xa,xb),(xb,xc),(xc,xa)]:List (Nat×Nat)).take u\/v=g:=λv hx=>by
    rw[De,hg]at hx;simpa using hx
   refine⟨_,B4,?_⟩;refine B2 (F3 (d:=tI (cL (TT.lnd (TT.trn U) g.2 g.1))) (bG4 (kvs:=kl) (ks:=[(g.2:Int),(g.1:Int)]) v3 (G1 (ds:=[.int (g.2:Int),.int (g.1:Int)]) (A4 (E7 (ds:=[.int (g.1:Int),.int (g.2:Int)]) (A9 (i:=9) rfl) B0 rfl rfl) (A4 (E7 (ds:=[.int (g.1:Int),.int (g.2:Int)]) (A9 (i:=9) rfl) B0 rfl rfl) A8))) (hkl g.2 g.1 (G.sym gt)) (aN7 _)) ?_);show W K _ [vD U,.val (.tuple (one.map pD)),.val (.tuple (other.map pD)),.val (.dict (R7 kl)),.tr (.dic (kvH H Y)),.own (B.map tN),vI (xa:Int),vI (xb:Int),vI (xc:Int),.val (pD (cI g)),.val (tI (cL (TT.lnd (TT.trn U) g.2 g.1)))] _;have t3:=cB2 (K:=K) (m:=false) (neg:=true) (i:=4) (kvs:=kvH H Y) (ks:=cL (TT.lnd (TT.trn U) g.2 g.1)) (ρ:=[vD U,.val (.tuple (one.map pD)),.val (.tuple (other.map pD)),.val (.dict (R7 kl)),.tr (.dic (kvH H Y)),.own (B.map tN),vI (xa:Int),vI (xb:Int),vI (xc:Int),.val (pD (cI g)),.val (tI (cL (TT.lnd (TT.trn U) g.2 g.1)))]) (A9 (i:=10) rfl) rfl;rw[cA6]at t3;refine U8 (C3 t3) (λh2=>?_) (λh2=>F9 ?_)
   .have hn:TT.lnd (TT.trn U) g.2 g.1∉Y:=by simpa using h2
    have M2:=M'.add G hlm' hgw id hn
    have ml2:=M2.sub G
    rw[Ab7]at ml2;have hdd:LV.E K false (C4 4) [vD U,.val (.tuple (one.map pD)),.val (.tuple (other.map pD)),.val (.dict (R7 kl)),.tr (.dic (kvH H Y)),.own (B.map tN),vI (xa:Int),vI (xb:Int),vI (xc:Int),.val (pD (cI g)),.val (tI (cL (TT.lnd (TT.trn U) g.2 g.1)))] (.dict (R7 (kvH H Y))):=by
     rw[<- bJ5 (bP2 H Y)];exact dV9 (i:=4) (t:=.dic (kvH H Y)) rfl
    have s1:=po.st _ _ gt
    have s2:=po.st _ _ (G.sym gt)
    have hvv:hN H (TT.lnd (TT.trn U) g.2 g.1)=hN H [xa,xb,xc]-TT.rsn (uA one) (uA other) g.1 g.2:=by
     rw[aP2 dw po (G.sym gt),hg0];exact s1
    have ev:=N0 (K:=K) (m:=true) (g:=λi j=>i-j) (bG4 (m:=false) (ks:=cL [xa,xb,xc]) (d:=.int (hN H [xa,xb,xc])) hdd (G1 (ds:=[.int (xa:Int),.int (xb:Int),.int (xc:Int)]) (A4 v6 (A4 v7 (A4 v8 A8)))) (bS0 hlm')) (D7 (pre:=dC3) (X:=E0) (A4 v1 (A4 v2 (A4 (A9 (i:=9) rfl) A8))) ⟨one,other,g.1,g.2,by lia,rfl,rfl⟩)
    rw[<- hvv]at ev;refine B2 (aW5 (ks:=cL (TT.lnd (TT.trn U) g.2 g.1)) (i:=4) ev rfl (A9 (i:=10) rfl) (by unfold kvH;rw[Aa3];unfold sizeLine;lia) ?_)
    show W K _ [vD U,.val (.tuple (one.map pD)),.val (.tuple (other.map pD)),.val (.dict (R7 kl)),.tr (.dic (X1 (kvH H Y) (cL (TT.lnd (TT.trn U) g.2 g.1)) (.int (hN H (TT.lnd (TT.trn U) g.2 g.1))))),.own (B.map tN),vI (xa:Int),vI (xb:Int),vI (xc:Int),.val (pD (cI g)),.val (tI (cL (TT.lnd (TT.trn U) g.2 g.1)))] _
    rw[dA2 hn];refine G8 (i:=5) (d:=tI (cL (TT.lnd (TT.trn U) g.2 g.1))) rfl (A9 (i:=10) rfl) (by rw[Aa3];unfold sizeLine;lia) ⟨Y++[TT.lnd (TT.trn U) g.2 g.1],B++[TT.lnd (TT.trn U) g.2 g.1],D'++[g],.val (pD (cI g)),.val (tI (cL (TT.lnd (TT.trn U) g.2 g.1))),⟨rfl,rfl⟩,M2,λl h=>Al _ (hsub l h),?_,λl h=>?_,λl h1 h2 h3 v hv=>?_,λv hv=>?_,?_⟩
    .rw[Ab7,Ab7];simp at ml2 ⊢;lia
    .rcases Aa0.mp h with h | h
     .exact Al _ (hw2 l h)
     .exact Ac1 _ h
    .rcases Aa0.mp h1 with h1 | h1
     .exact Al _ (hD2 l h1 (λz=>h2 (Al _ z)) h3 v hv)
     .exact absurd (Ac1 _ h1) h2
    .rcases tk v hv with h | rfl
     .exact Al _ (hDu v h)
     .simp
    .rw[Ad2,<- bD5];rfl
   .have hn:TT.lnd (TT.trn U) g.2 g.1∈Y:=by simpa using h2
    refine⟨Y,B,D'++[g],_,_,⟨rfl,rfl⟩,M'.skip G hlm' hgw (.inr hn),hsub,hlt,hw2,λl h1 h2 h3 v hv=>Al _ (hD2 l h1 h2 h3 v hv),λv hv=>?_,rfl⟩
    rcases tk v hv with h | rfl
    .exact Al _ (hDu v h)
    .simp
  .rintro _ ⟨Y,B,D',x9,N,hb',M',hsub,hlt,hw2,hD2,hDu,rfl⟩;refine⟨_,hlt,Y,B,D',_,_,_,x9,N,⟨rfl,by lia⟩,⟨rfl,rfl,rfl,hb'.1,hb'.2⟩,M',hw2,λl h1 h2 v hv=>?_,rfl⟩
   by_cases h3:l=[xa,xb,xc]
   .refine hDu v ?_;rw[h3]at hv
    simp[TT.wys]at hv ⊢
    rcases hv with h | h | h <;> simp[h]
   .exact hD2 l h1 h2 h3 v hv
end
end K39
namespace TT
section
variable {n:Nat}{r:Nat->AC}{u v:Nat->Nat->Bool}{a b c:Nat}{sh:Nat->Nat->Prop}
theorem bL2 (G:Good n r)(S:Rs r)(w:b∈r a)(Y:c∈r b)(X:a∈r c)
  (h1:∀p q,q∈r p->((p=a/\q=b)\/(p=b/\q=c)\/(p=c/\q=a))->u p q=true/\v p q=false)
  (h2:∀p q,q∈r p->((q=a/\p=b)\/(q=b/\p=c)\/(q=c/\p=a))->u p q=false/\v p q=true)
  (h3:∀p q,q∈r p->¬((p=a/\q=b)\/(p=b/\q=c)\/(p=c/\q=a))->¬((q=a/\p=b)\/(q=b/\p=c)\/(q=c/\p=a))->u p q=v p q)
  (hs:∀p q,q∈r p->(sh p q↔(p∈[a,b,c]/\q∈[a,b,c]))) :
  ∃(H:Nat->Nat->Int) (e:Int),(e=1\/e = -1)/\Po r u v H/\(∀p q,H p q=0\/H p q=e)/\(∀p q,q∈r p->(H p q=0↔Rc r sh 0 2 p q))/\(e = -1↔H a b=0):=by
 obtain⟨H,e,he,Q,hv⟩:=cV9 G S w Y X h1 h2 h3;have J:a≠b:=λe=>G.self b (by rw[e]at w;exact w)
 have M:b≠c:=λe=>G.self c (by rw[e]at Y;exact Y)
 have N:a≠c:=λe=>G.self c (by rw[e]at X;exact X)
 have nd:[a,b,c].Nodup:=by simp[J,M,N]
 have U:2∈r 0:=(C6 G.outs.1).1
 have j:∀{x y p q:Nat},Rc r sh x y p q->H p q=H x y:=λ{x y p q} h=>by
  induction h with
  | base=>rfl
  | rot _ ha ih=>rw[<- ih];exact(Q.fa _ _ _ ha).symm
  | @cross p q _ m hn ih=>
   have e1:=Q.st p q m
   have P:p≠q:=λe=>G.self p (by rw[<- e]at m;exact m)
   have e2:u p q=v p q:=h3 p q m (λz=>hn ((hs p q m).mpr (by
    rcases z with⟨rfl,rfl⟩ | ⟨rfl,rfl⟩ | ⟨rfl,rfl⟩ <;> simp))) (λz=>hn ((hs p q m).mpr (by
    rcases z with⟨rfl,rfl⟩ | ⟨rfl,rfl⟩ | ⟨rfl,rfl⟩ <;> simp)))
   unfold rsn at e1;rw[e2]at e1;rw[e1,<- ih];lia
 have C:Cy r (gi [a,b,c]) ([a,b,c].length-1):=Cy.ofList nd (by simp) λx y h=>by
  rcases (bL0 J M N).mp h with⟨rfl,rfl⟩ | ⟨rfl,rfl⟩ | ⟨rfl,rfl⟩
  .exact w
  .exact Y
  .exact X
 obtain⟨f,s,D⟩:=C.sd S;have hz:∀p q,q∈r p->(sh p q↔zc (gi [a,b,c]) ([a,b,c].length-1) p q=true):=λp q h=>by
  have P:p≠q:=λe=>G.self p (by rw[<- e]at h;exact h)
  rw[hs p q h,aN4 nd (by simp),bL0 J M N,bL0 J M N]
  simp only[Aa1,Ac2,or_false];grind
 have B:∀{x y p q:Nat},y∈r x->(Rc r sh x y p q↔Rc r (λp q=>zc (gi [a,b,c]) ([a,b,c].length-1) p q=true) x y p q):=λ{x y p q} h=>
  ⟨V1 S.sym S.tri h hz,V1 S.sym S.tri h λp q h=>(hz p q h).symm⟩
 have zab:zc (gi [a,b,c]) ([a,b,c].length-1) a b=true:=(aN4 nd (by simp)).mpr (.inl ((bL0 J M N).mpr (.inl ⟨rfl,rfl⟩)))
 have F:zc (gi [a,b,c]) ([a,b,c].length-1) b a=true:=(aN4 nd (by simp)).mpr (.inr ((bL0 J M N).mpr (.inl ⟨rfl,rfl⟩)))
 have R:a∈r b:=G.sym w
 have sym:∀p q,zc (gi [a,b,c]) ([a,b,c].length-1) p q=true->zc (gi [a,b,c]) ([a,b,c].length-1) q p=true:=λp q h=>by
  rw[aN4 nd (by simp)]at h ⊢;exact h.symm
 have fx:xor (f a b) (f b a)=true:=by
  obtain⟨q,m⟩:=aT7 w;have e1:=D.fa _ _ _ m;have e2:=D.fb _ _ _ (S.tri _ _ _ m);rw[e1,e2];exact F
 have two:∀{p q:Nat},q∈r p->Rc r sh a b p q\/Rc r sh b a p q:=λ{p q} h=>by
  rw[B w,B R,cT0 G S C D zab h,cT0 G S C D F h]
  revert fx
  cases f p q <;> cases f a b <;> cases f b a <;> simp
 have back:∀{x y p q:Nat},y∈r x->q∈r p->Rc r sh x y p q->Rc r sh p q x y:=λ{x y p q} h h' z=>(B h').mpr (((B h).mp z).back G sym)
 have st:=Q.st a b w
 have r1:rsn u v a b=1:=by
  obtain⟨e1,e2⟩:=h1 a b w (.inl ⟨rfl,rfl⟩);unfold rsn;rw[e1,e2];rfl
 rw[r1]at st;have h0:=Q.z;refine⟨H,e,he,Q,hv,λp q m=>⟨λhh=>?_,λz=>(j z).trans h0⟩,?_⟩
 .rcases two m with x | x <;> rcases two U with y | y
  .exact(back w U y).trans x
  .have e1:=j x;have e2:=j y;lia
  .have e1:=j x;have e2:=j y;lia
  .exact(back R U y).trans x
 .have v1:=hv a b
  have v2:=hv b a
  lia
end
def sh3 (a b c p q:Nat):Prop:=p∈[a,b,c]/\q∈[a,b,c]
section
variable {n:Nat}{r:Nat->AC}{T:Nat->Nat->Nat->Prop}{o:Nat->Nat->Nat}{f:Nat->Nat->Bool}{s:Bool}{I:Nat->Prop}{i j k a b c:Nat}
theorem Rf.fab (W:Sw n r T o)(R:Rf n r T o f s I i j k a b c):f a b=s:=by
 obtain⟨L,S,m,Y,w⟩:=R.va
 have:=W.om R.a3.1 R.a3.2 (W.cl.lt R.t).1
 rw[R.ab]at this;refine(w b this).mpr ?_;have z:=S.p0;rw[R.ab]at z
 lia
theorem Sw.lft (W:Sw n r T o)(t:T i j k)(m:3<=a/\a<n)(X:3<=b/\b<n)(J:3<=c/\c<n)(Y:o i a=b)(U:o j b=c)(M:o k c=a):¬Rc r (sh3 a b c) 0 2 a b:=by
 obtain⟨f,s,I,R⟩:=W.rf t m X J Y U M;have z:∀{p q:Nat},Rc r (sh3 a b c) 0 2 p q->f p q=f 0 2:=λ{p q} h=>by
  induction h with
  | base=>rfl
  | rot _ N w=>rw[<- w];exact(R.fa _ _ _ N).symm
  | @cross p q _ hq hn w=>
   rw[<- w];refine(R.ed p q hq ?_).symm;unfold sh3 at hn;simp only[Aa1,Ac2,or_false]at hn;grind
 intro h;have h1:=z h;rw[R.fab W]at h1;exact R.co 0 2 (by lia) (W.ec 0 2 (by lia) (by lia) (by lia)) h1.symm
theorem Sw.rgt (W:Sw n r T o)(t:T i k j)(z:3<=a/\a<n)(Y:3<=b/\b<n)(U:3<=c/\c<n)(m:o i a=b)(X:o j b=c)(J:o k c=a):¬Rc r (sh3 a b c) 0 2 b a:=by
 obtain⟨f,s,I,R⟩:=W.mir.rf (i:=i) (j:=j) (k:=k) t z Y U m X J;have w:∀{p q:Nat},Rc r (sh3 a b c) 0 2 p q->q∈r p/\f q p=f 2 0:=λ{p q} h=>by
  induction h with
  | base=>exact⟨W.ec 0 2 (by lia) (by lia) (by lia),rfl⟩
  | @rot q x y _ ha ih=>
   refine⟨(aS1 (W.rs.tri _ _ _ ha)).1,?_⟩;have h1:adj (r y) q x:=W.rs.tri _ _ _ (W.rs.tri _ _ _ ha);have M:adj (r y).reverse x q:=aI3 (by rw[List.reverse_reverse];exact h1)
   rw[<- ih.2];exact R.fa _ _ _ M
  | @cross p q _ hq hn ih=>
   refine⟨W.rs.sym _ _ hq,?_⟩;rw[<- ih.2];refine(R.ed q p (Bi.mpr (W.rs.sym _ _ hq)) ?_).symm;unfold sh3 at hn;simp only[Aa1,Ac2,or_false]at hn;grind
 intro h;have h1:=(w h).2;rw[R.fab W.mir]at h1;exact R.co 2 0 (by lia) (Bi.mpr (W.ec 2 0 (by lia) (by lia) (by lia))) h1.symm
end
structure Sv (n:Nat)(r:Nat->AC)(A:Nat->Nat->Prop):Prop where
 sw:∃o,Sw n r Tr o/\∀x y,A x y↔3<=x/\x<n/\∃m,m<3/\o m x=y
 asy:∀x y,A x y->¬A y x
def Rn (A:Nat->Nat->Prop)(a b c:Nat):Prop:=A a b/\A b c/\A c a
def tnA (A:Nat->Nat->Prop)(a b c:Nat):Nat->Nat->Prop:=λx y=>(A x y/\¬(x=a/\y=b)/\¬(x=b/\y=c)/\¬(x=c/\y=a))\/(x=a/\y=c)\/(x=b/\y=a)\/(x=c/\y=b)
def Si (r:Nat->AC)(s:Bool)(a b c:Nat):Prop:=(s=true↔¬Rc r (sh3 a b c) 0 2 a b)
section
variable {n:Nat}{r:Nat->AC}{A A1 A2 e e':Nat->Nat->Prop}{s:Bool}{a b c a' b' c' p q:Nat}
theorem Sv.mem (V:Sv n r A)(h:A a b):b∈r a:=by
 obtain⟨o,W,z⟩:=V.sw;obtain⟨w,Y,m,j,e⟩:=(z _ _).mp h;rw[<- e];exact W.om w Y j
theorem Sv.inn (V:Sv n r A)(h:A a b):3<=a/\a<n:=by
 obtain⟨o,W,z⟩:=V.sw;obtain⟨w,j,_⟩:=(z _ _).mp h;exact⟨w,j⟩
theorem Sv.ne (V:Sv n r A)(h:A a b):a≠b:=λe=>V.asy _ _ h (by rw[<- e]at h ⊢;exact h)
theorem Rn.rot (h:Rn A a b c):Rn A b c a:=⟨h.2.1,h.2.2,h.1⟩
theorem Sv.turn (V:Sv n r A)(h:Rn A a b c):Sv n r (tnA A a b c):=by
 obtain⟨o,W,m⟩:=V.sw;obtain⟨h1,Y,j⟩:=h;have F:=V.ne h1;have B:=V.ne Y;have P:=V.ne j;obtain⟨x,R,e1⟩:=((m _ _).mp h1).2.2;obtain⟨y,Q,e2⟩:=((m _ _).mp Y).2.2;obtain⟨w,N,e3⟩:=((m _ _).mp j).2.2;have X:=V.inn h1;have U:=V.inn Y;have J:=V.inn j;obtain⟨D,W',tn⟩:=W.turn X U J R Q N e1 e2 e3;refine⟨⟨D,W',λp q=>?_⟩,λp q h k=>?_⟩
 .unfold tnA;constructor
  .intro z;have hp:3<=p/\p<n:=by
    rcases z with⟨z,_⟩ | ⟨rfl,_⟩ | ⟨rfl,_⟩ | ⟨rfl,_⟩
    .exact V.inn z
    .exact X
    .exact U
    .exact J
   refine⟨hp.1,hp.2,(tn p q hp.1 hp.2).mpr ?_⟩;rcases z with⟨z,k⟩ | z
   .exact .inl ⟨((m _ _).mp z).2.2,k⟩
   .exact .inr z
  .rintro⟨j,hn,z⟩;rcases (tn p q j hn).mp z with⟨z,k⟩ | z
   .exact .inl ⟨(m _ _).mpr ⟨j,hn,z⟩,k⟩
   .exact .inr z
 .have M:=V.asy p q
  unfold tnA at h k;grind
theorem sh3_rot:sh3 b c a p q↔sh3 a b c p q:=by unfold sh3;simp only[Aa1,Ac2,or_false];grind
theorem cX0 (G:Good n r)(h:q∈r p):∀{x y:Nat},Rc r (sh3 b c a) p q x y↔Rc r (sh3 a b c) p q x y:=λ{x y}=>
 ⟨V1 (λ_ _ h=>G.sym h) G.tri h λ_ _ _=>sh3_rot,V1 (λ_ _ h=>G.sym h) G.tri h λ_ _ _=>sh3_rot.symm⟩
theorem bV3 (G:Good n r)(S:Rs r)(z:b∈r a)(m:c∈r b)(j:a∈r c) :
  (Rc r (sh3 a b c) 0 2 a b↔¬Rc r (sh3 a b c) 0 2 b a)/\(Rc r (sh3 a b c) 0 2 b c↔Rc r (sh3 a b c) 0 2 a b)/\(Rc r (sh3 a b c) 0 2 c a↔Rc r (sh3 a b c) 0 2 a b)/\(Rc r (sh3 a b c) 0 2 a c↔¬Rc r (sh3 a b c) 0 2 a b):=by
 have Q:a≠b:=λe=>G.self b (by rw[e]at z;exact z)
 have D:b≠c:=λe=>G.self c (by rw[e]at m;exact m)
 have F:a≠c:=λe=>G.self c (by rw[e]at j;exact j)
 obtain⟨H,e,R,U,Y,X,_⟩:=bL2 (u:=λp q=>decide ((p=a/\q=b)\/(p=b/\q=c)\/(p=c/\q=a))) (v:=λp q=>decide ((q=a/\p=b)\/(q=b/\p=c)\/(q=c/\p=a))) (sh:=sh3 a b c) G S z m j
  (λp q _ h=>⟨As h,Ak (by grind)⟩) (λp q _ h=>⟨Ak (by grind),As h⟩) (λp q _ h J=>by rw[Ak h,Ak J]) (λp q _=>Iff.rfl)
 have h1:=U.st a b z
 have M:=U.st b c m
 have N:=U.st c a j
 have w:∀p q,((p=a/\q=b)\/(p=b/\q=c)\/(p=c/\q=a))->rsn (λp q=>decide ((p=a/\q=b)\/(p=b/\q=c)\/(p=c/\q=a))) (λp q=>decide ((q=a/\p=b)\/(q=b/\p=c)\/(q=c/\p=a))) p q=1:=λp q h=>by
  unfold rsn
  have:¬((q=a/\p=b)\/(q=b/\p=c)\/(q=c/\p=a)):=by grind
  simp[h,this]
 rw[w a b (.inl ⟨rfl,rfl⟩)]at h1;rw[w b c (.inr (.inl ⟨rfl,rfl⟩))]at M;rw[w c a (.inr (.inr ⟨rfl,rfl⟩))]at N;have v1:=Y a b;have v2:=Y b a;have v3:=Y b c;have v4:=Y c b;have v5:=Y c a;have v6:=Y a c;rw[<- X a b z,<- X b a (G.sym z),<- X b c m,<- X c a j,<- X a c (G.sym j)]
 lia
theorem Si.rot (G:Good n r)(S:Rs r)(w:b∈r a)(z:c∈r b)(j:a∈r c)(h:Si r s a b c):Si r s b c a:=by
 unfold Si at *;have e:=cX0 (a:=a) (b:=b) (c:=c) G (C6 G.outs.1).1 (x:=b) (y:=c);rw[h,e,(bV3 G S w z j).2.1]
theorem Si.rev (G:Good n r)(S:Rs r)(w:b∈r a)(z:c∈r b)(j:a∈r c)(h:Si r s a b c):Si r (!s) a c b:=by
 have e:Rc r (sh3 a c b) 0 2 a c↔Rc r (sh3 a b c) 0 2 a c:=
  ⟨V1 (λ_ _ h=>G.sym h) G.tri (C6 G.outs.1).1 λ_ _ _=>by unfold sh3;simp only[Aa1,Ac2,or_false];grind,V1 (λ_ _ h=>G.sym h) G.tri (C6 G.outs.1).1 λ_ _ _=>by unfold sh3;simp only[Aa1,Ac2,or_false];grind⟩
 unfold Si at *;rw[e,(bV3 G S w z j).2.2.2];cases s <;> simp_all
theorem Si.un (h:Si r s a b c)(h':Si r s' a b c):s=s':=by
 unfold Si at *;rw[<- h']at h;cases s <;> cases s' <;> simp_all
theorem Si.ex (r:Nat->AC)(a b c:Nat):∃s,Si r s a b c:=by
 by_cases h:Rc r (sh3 a b c) 0 2 a b
 .exact⟨false,by unfold Si;simp[h]⟩
 .exact⟨true,by unfold Si;simp[h]⟩
theorem Sv.same (V:Sv n r A)(G:Good n r)(S:Rs r)(h:Rn A a b c)(h':Rn A a b c')(k:Si r s a b c)(k':Si r s a b c'):c=c':=by
 have two:∀{c:Nat},Rn A a b c->Rc r (sh3 a b c) 0 2 a b\/Rc r (sh3 a b c) 0 2 b a:=λ{c} h=>by
  have:=(bV3 G S (V.mem h.1) (V.mem h.2.1) (V.mem h.2.2)).1
  by_cases x:Rc r (sh3 a b c) 0 2 a b
  .exact .inl x
  .exact .inr (by rw[this]at x;exact Classical.byContradiction x)
 obtain⟨o,W,D⟩:=V.sw;have m:∀{c:Nat},Rn A a b c->Si r s a b c->∃i j k,o i a=b/\o j b=c/\i<3/\j<3/\k<3/\(s=true/\Tr i j k\/s=false/\Tr i k j):=λ{c} h q=>by
  obtain⟨h1,R,Q⟩:=h;obtain⟨i,hi,e1⟩:=((D _ _).mp h1).2.2;obtain⟨j,B,e2⟩:=((D _ _).mp R).2.2;obtain⟨k,P,e3⟩:=((D _ _).mp Q).2.2;have w:=V.inn h1;have U:=V.inn R;have J:=V.inn Q;refine⟨i,j,k,e1,e2,hi,B,P,?_⟩;rcases W.ring3 w.1 U.1 J.1 w.2 U.2 J.2 hi B P e1 e2 e3 with t | t
  .exact .inl ⟨q.mpr (W.lft t w U J e1 e2 e3),t⟩
  .refine .inr ⟨?_,t⟩;have y:=W.rgt t w U J e1 e2 e3;have x:=(two ⟨h1,R,Q⟩).resolve_right y;rw[Bool.eq_false_iff];exact λz=>(q.mp z) x
 obtain⟨i,j,k1,e1,e2,hi,B,P,t⟩:=m h k;obtain⟨i',j',k1',M,N,F,hj',hk',Y⟩:=m h' k';have w:=V.inn h.1;have ei:i=i':=W.oinj w.1 w.2 hi F (e1.trans M.symm);subst ei;have ej:j=j':=by
  rcases t with⟨x,t⟩ | ⟨x,t⟩ <;> rcases Y with⟨X,Y⟩ | ⟨X,Y⟩
  .exact(W.cl.un t Y).1
  .rw[x]at X;cases X
  .rw[x]at X;cases X
  .exact(W.cl.un t Y).2
 rw[<- e2,<- N,ej]
end
def Sg (r:Nat->AC)(s:Bool)(A A':Nat->Nat->Prop):Prop:=∃a b c,Rn A a b c/\Si r s a b c/\A'=tnA A a b c
inductive Rd (r:Nat->AC)(s:Bool):Nat->(Nat->Nat->Prop)->(Nat->Nat->Prop)->Prop
 | zero {A:Nat->Nat->Prop}:(∀a b c,Rn A a b c->¬Si r s a b c)->Rd r s 0 A A
 | succ {k:Nat} {A A' e:Nat->Nat->Prop}:Sg r s A A'->Rd r s k A' e->Rd r s (k+1) A e
section
variable {n:Nat}{r:Nat->AC}{A A1 A2 A' e e':Nat->Nat->Prop}{s:Bool}{a b c x y z p q k k':Nat}
theorem Sv.sg (V:Sv n r A)(h:Sg r s A A'):Sv n r A':=by
 obtain⟨a,b,c,h1,_,rfl⟩:=h;exact V.turn h1
theorem tnA_rot:tnA A b c a=tnA A a b c:=by
 funext x y
 unfold tnA;exact propext (by grind)
theorem Sv.two (V:Sv n r A)(G:Good n r)(S:Rs r)(h:Rn A a b c)(h':Rn A x y z)(k:Si r s a b c)(k':Si r s x y z) :
  tnA A a b c=tnA A x y z\/∀p q,((p=a/\q=b)\/(p=b/\q=c)\/(p=c/\q=a))->¬((p=x/\q=y)\/(p=y/\q=z)\/(p=z/\q=x)):=by
 by_cases U:∃p q,((p=a/\q=b)\/(p=b/\q=c)\/(p=c/\q=a))/\((p=x/\q=y)\/(p=y/\q=z)\/(p=z/\q=x))
 .left
  obtain⟨p,q,h1,Y⟩:=U;have X:∀{a b c:Nat},Rn A a b c->Si r s a b c->((p=a/\q=b)\/(p=b/\q=c)\/(p=c/\q=a))->∃t,Rn A p q t/\Si r s p q t/\tnA A p q t=tnA A a b c:=λ{a b c} h k z=>by
   have J:=k.rot G S (V.mem h.1) (V.mem h.2.1) (V.mem h.2.2)
   have Q:=J.rot G S (V.mem h.2.1) (V.mem h.2.2) (V.mem h.1)
   rcases z with⟨rfl,rfl⟩ | ⟨rfl,rfl⟩ | ⟨rfl,rfl⟩
   .exact⟨_,h,k,rfl⟩
   .exact⟨_,h.rot,J,tnA_rot⟩
   .exact⟨_,h.rot.rot,Q,tnA_rot.trans tnA_rot⟩
  obtain⟨t,M,N,R⟩:=X h k h1;obtain⟨D,w,j,m⟩:=X h' k' Y
  have:=V.same G S M w N j
  subst this;rw[<- R,<- m]
 .right
  intro p q h1 Y;exact U ⟨p,q,h1,Y⟩
theorem Sv.diamond (V:Sv n r A)(G:Good n r)(S:Rs r)(h1:Sg r s A A1)(J:Sg r s A A2):A1=A2\/∃A3,Sg r s A1 A3/\Sg r s A2 A3:=by
 obtain⟨a,b,c,h,k,rfl⟩:=h1;obtain⟨x,y,z,Q,k',rfl⟩:=J;rcases V.two G S h Q k k' with e | dj
 .exact .inl e
 .right
  have m:∀p q,((p=x/\q=y)\/(p=y/\q=z)\/(p=z/\q=x))->¬((p=a/\q=b)\/(p=b/\q=c)\/(p=c/\q=a)):=λp q h1 J=>dj p q J h1
  obtain⟨M,N,R⟩:=h;obtain⟨Y,X,U⟩:=Q;have t1:=m x y (.inl ⟨rfl,rfl⟩);have t2:=m y z (.inr (.inl ⟨rfl,rfl⟩));have t3:=m z x (.inr (.inr ⟨rfl,rfl⟩));have t4:=dj a b (.inl ⟨rfl,rfl⟩);have t5:=dj b c (.inr (.inl ⟨rfl,rfl⟩));have t6:=dj c a (.inr (.inr ⟨rfl,rfl⟩));refine⟨tnA (tnA A a b c) x y z,⟨x,y,z,⟨.inl ⟨Y,by grind⟩,.inl ⟨X,by grind⟩,.inl ⟨U,by grind⟩⟩,k',rfl⟩,⟨a,b,c,⟨.inl ⟨M,by grind⟩,.inl ⟨N,by grind⟩,.inl ⟨R,by grind⟩⟩,k,?_⟩⟩
  have j:=V.asy
  have D:=j _ _ M
  have F:=j _ _ N
  have B:=j _ _ R
  have P:=j _ _ Y
  have b5:=j _ _ X
  have b6:=j _ _ U
  funext p q
  unfold tnA;have w1:=dj p q;have w2:=j p q;refine propext ⟨λw=>?_,λw=>?_⟩
  .rcases w with⟨w | w,v⟩ | w
   .by_cases u:(p=a/\q=b)\/(p=b/\q=c)\/(p=c/\q=a)
    .grind
    .grind
   .right;exact w
   .left;refine⟨.inr w,?_⟩;grind
  .rcases w with⟨w | w,v⟩ | w
   .left;refine⟨.inl ⟨w.1,v⟩,w.2⟩
   .right;exact w
   .left;refine⟨.inr w,?_⟩;grind
theorem Rd.strip (G:Good n r)(S:Rs r):∀{k:Nat} {A A1:Nat->Nat->Prop},Sv n r A->Rd r s k A e->Sg r s A A1->∃k',k=k'+1/\Rd r s k' A1 e
 | 0,A,A1,V,h,g=>by
  cases h with
  | zero h=>
   obtain⟨a,b,c,h1,j,_⟩:=g;exact absurd j (h a b c h1)
 | k+1,A,A1,V,h,g=>by
  cases h with
  | @succ _ _ A2 _ g2 h=>
   refine⟨k,rfl,?_⟩;rcases V.diamond G S g g2 with e | ⟨X,m,Y⟩
   .rw[e];exact h
   .obtain⟨k',rfl,w⟩:=Rd.strip G S (V.sg g2) h Y;exact .succ m w
theorem Rd.uniq (G:Good n r)(S:Rs r):∀{k k':Nat} {A:Nat->Nat->Prop},Sv n r A->Rd r s k A e->Rd r s k' A e'->e=e'
 | 0,k',A,V,h,h'=>by
  cases h with
  | zero h=>
   cases h' with
   | zero _=>rfl
   | succ g _=>
    obtain⟨a,b,c,h1,j,_⟩:=g;exact absurd j (h a b c h1)
 | k+1,k',A,V,h,h'=>by
  cases h with
  | succ g h=>
   obtain⟨m,_,w⟩:=Rd.strip G S V h' g;exact Rd.uniq G S (V.sg g) h w
theorem Sv.undo (V:Sv n r A)(G:Good n r)(S:Rs r)(h:Rn A a b c)(k:Si r s a b c):Rn (tnA A a b c) a c b/\Si r (!s) a c b/\tnA (tnA A a b c) a c b=A:=by
 have j:=V.asy
 obtain⟨m,Y,X⟩:=h;have U:=j _ _ m;have J:=j _ _ Y;have M:=j _ _ X;have N:=V.ne m;have R:=V.ne Y;have Q:=V.ne X;refine⟨⟨by unfold tnA;grind,by unfold tnA;grind,by unfold tnA;grind⟩,k.rev G S (V.mem m) (V.mem Y) (V.mem X),?_⟩
 funext p q
 unfold tnA;refine propext ⟨λw=>?_,λw=>?_⟩
 .rcases w with⟨w | w,v⟩ | w
  .exact w.1
  .grind
  .grind
 .by_cases u:(p=a/\q=b)\/(p=b/\q=c)\/(p=c/\q=a)
  .right;grind
  .left
   refine⟨.inl ⟨w,by grind⟩,?_⟩
   grind
theorem Rd.turn (G:Good n r)(S:Rs r)(V:Sv n r A)(h:Rn A a b c)(d:Rd r s k A e):∃k',Rd r s k' (tnA A a b c) e:=by
 obtain⟨w,j⟩:=Si.ex r a b c;by_cases q:w=s
 .subst q;obtain⟨k',_,m⟩:=Rd.strip G S V d ⟨a,b,c,h,j,rfl⟩;exact⟨k',m⟩
 .have:s=Bool.not w:=by revert q;cases s <;> cases w <;> simp
  subst this;obtain⟨Y,X,U⟩:=V.undo G S h j;exact⟨k+1,.succ ⟨a,c,b,Y,X,U.symm⟩ d⟩
end
section
theorem Po.hits (G:Good n r)(h:Po r u v H):∀p q,q∈r p->∀j:Int,0<=j->j<=H p q->∃p' q',q'∈r p'/\H p' q'=j:=by
 have w:2∈r 0:=(C6 G.outs.1).1
 refine aX2 G (P:=λp q=>∀j:Int,0<=j->j<=H p q->∃p' q',q'∈r p'/\H p' q'=j) (λq x y X e=>?_) (λp q Y e j m U=>?_) w (λj m U=>⟨0,2,w,by have:=h.z;lia⟩)
 .rw[<- h.fa q x y X];exact e
 .have s:=h.st p q Y
  by_cases c:j<=H p q
  .exact e j m c
  .refine⟨q,p,G.sym Y,?_⟩;have : -1<=rsn u v p q:=by unfold rsn;split <;> split <;> lia
   lia
end
end TT
set_option maxHeartbeats 1000000
namespace K39
open PySem L2 LV PyProof.Rows
theorem Q0:C2 ["_law_arrows_here", "_law_cells", "_law_k", "_law_cell", "_law_found"] ["_law_arrows_here", "_law_cells"] (B3 u5):={}
theorem M9:C2 ["_law_drawing", "_law_arrows_here", "_law_lift", "_law_some", "_law_ring", "_law_there", "_law_further"] ["_law_drawing", "_law_arrows_here", "_law_lift"] (B3 aG3):={}
def pA (ps:List (Int×Int))(x y:Nat):Prop:=((x:Int),(y:Int))∈ps
structure Ar (m:Nat)(dr:AA)(ps:List (Int×Int)):Prop where
 ai:AI dr ps
 srt:sp ps=ps
 sv:TT.Sv (m+3) (TT.trn dr) (pA ps)
theorem Dw.rs (w:Dw m dr tr):TT.Rs (TT.trn dr):=by
 obtain⟨_,_,_,_,B⟩:=w;exact B.rs
section
variable {m:Nat}{dr tr:AA}{ps:List (Int×Int)}
theorem dJ1 (w:Dw m dr tr):pA (arr tr) x y↔3<=x/\x<m+3/\∃c,c<3/\TT.og tr c x=y:=by
 unfold pA;constructor
 .intro h;obtain⟨v,c,j,z,e⟩:=aI8 w h;simp only[Cu]at e;have e1:x=v+3:=by lia
  subst e1;exact⟨by lia,by lia,c,z,by lia⟩
 .rintro⟨h3,hx,c,z,rfl⟩;obtain⟨v,rfl⟩:∃v,x=v+3:=⟨x-3,by lia⟩
  unfold arr;rw[ga_mem];refine⟨v,by rw[w.gd.tl];lia,?_⟩
  rw[aW0 w (by lia)]
  have:(((v+3:Nat):Int))=3+(v:Int):=by lia
  rw[this];rcases (show c=0\/c=1\/c=2 by lia) with rfl | rfl | rfl <;> simp
theorem cO0 (w:Dw m dr tr):Ar m dr (sp (arr tr)):=by
 have z:AI dr (arr tr):=dG1 w
 have Y:pA (sp (arr tr))=pA (arr tr):=by
  funext x y;unfold pA;exact propext (aK0 _).mem_iff
 refine⟨z.perm (aK0 _),dD2 _,?_⟩;rw[Y];exact⟨⟨TT.og tr,w.gd.sw w.rs.h1,λx y=>dJ1 w⟩,λx y h j=>z.anti _ h j⟩
theorem aF4 {x y z:Nat}:pA (sp (tw ps (wys x y z)))=TT.tnA (pA ps) x y z:=by
 funext p q
 unfold pA TT.tnA;refine propext ?_;rw[(aK0 _).mem_iff,dO7];simp only[wys,Aa1,Ac2,or_false,Cu,Int.natCast_inj];grind
theorem Rn.ws (g:TT.Rn (pA ps) x y z):∀w∈wys (x:Int) y z,w∈ps:=λw j=>by
 simp only[wys,Aa1,Ac2,or_false]at j;rcases j with rfl | rfl | rfl
 .exact g.2.2
 .exact g.1
 .exact g.2.1
theorem Ar.turn (w:Dw m dr tr)(h:Ar m dr ps)(g:TT.Rn (pA ps) x y z):Ar m dr (sp (tw ps (wys x y z))):=
 ⟨(h.ai.turn w (Rn.ws g)).perm (aK0 _),dD2 _,by rw[aF4];exact h.sv.turn g⟩
end
section
variable {m:Nat}{dr tr:AA}{x y z:Nat}
theorem Tri.ne (w:Dw m dr tr)(t:Tri dr x y z):x≠y/\y≠z/\x≠z:=
 ⟨λe=>w.good.self y (by have:=t.1;rw[e]at this;exact this),λe=>w.good.self z (by have:=t.2.1;rw[e]at this;exact this),λe=>w.good.self z (by have:=t.2.2;rw[e]at this;exact this)⟩
theorem out_mem (Y:Dw m dr tr)(t3:Tri dr x y z):t∈aW8 dr x y z↔∃p q,q∈TT.trn dr p/\t=cL (TT.lnd (TT.trn dr) p q)/\TT.Rc (TT.trn dr) (TT.sh3 x y z) 0 2 p q:=by
 have G:=Y.good
 have w:2∈TT.trn dr 0:=(TT.C6 G.outs.1).1
 obtain⟨R,Q,D⟩:=t3.ne Y;have J:∀p q,q∈TT.trn dr p->(TT.shP (rgW x y z) p q↔TT.sh3 x y z p q):=λp q j=>by
  have M:p≠q:=λe=>G.self p (by rw[<- e]at j;exact j)
  unfold TT.shP rgW TT.sh3;simp only[Aa1,Ac2,or_false,Cu]
  lia
 have U:∀{p q:Nat},TT.Rc (TT.trn dr) (TT.shP (rgW x y z)) 0 2 p q↔TT.Rc (TT.trn dr) (TT.sh3 x y z) 0 2 p q:=λ{p q}=>
  ⟨TT.V1 (λ_ _ h=>G.sym h) G.tri w J,TT.V1 (λ_ _ h=>G.sym h) G.tri w λp q h=>(J p q h).symm⟩
 unfold aW8;rw[Aa8];have N:=Y.m7;constructor
 .rintro⟨l,hl,rfl⟩;obtain⟨p,q,j,rfl,X⟩:=(TT.cA7 G w (by lia)).mp hl
  exact⟨p,q,j,rfl,U.mp X⟩
 .rintro⟨p,q,j,rfl,X⟩;exact⟨_,(TT.cA7 G w (by lia)).mpr ⟨p,q,j,rfl,U.mpr X⟩,rfl⟩
theorem cP7 (w:Dw m dr tr)(h:q∈TT.trn dr p)(h':q'∈TT.trn dr p')(e:TT.lnd (TT.trn dr) p q=TT.lnd (TT.trn dr) p' q'):TT.Rc (TT.trn dr) sh 0 2 p q↔TT.Rc (TT.trn dr) sh 0 2 p' q':=
 TT.bM5 w.good (P:=TT.Rc (TT.trn dr) sh 0 2) (λq x y j=>⟨λz=>.rot z j,λz=>.rot (.rot z (w.good.tri _ _ _ j)) (w.good.tri _ _ _ (w.good.tri _ _ _ j))⟩) h h' e
theorem dG4 (w:Dw m dr tr)(t3:Tri dr x y z)(j:q∈TT.trn dr p):cL (TT.lnd (TT.trn dr) p q)∈bA1 m dr x y z↔¬TT.Rc (TT.trn dr) (TT.sh3 x y z) 0 2 p q:=by
 unfold bA1;rw[Ap,aH3 w,Bool.not_eq_true',Cb,out_mem w t3];have Y:2∈TT.trn dr 0:=(TT.C6 w.good.outs.1).1;constructor
 .rintro⟨_,h⟩ h';exact h ⟨p,q,j,rfl,h'⟩
 .intro h;refine⟨⟨p,q,j,rfl,λe=>h ((cP7 w Y j (by rw[e,aV3 w])).mp .base)⟩,?_⟩
  rintro⟨J,M,h1,X,U⟩;exact h ((cP7 w j h1 (aO2 X)).mpr U)
end
theorem cA8 (f g:α->Int):∀l:List α,(l.map λx=>f x+g x).sum=(l.map f).sum+(l.map g).sum
 | []=>rfl
 | a::l=>by simp only[Ac7,List.sum_cons,cA8 f g l];lia
theorem cN8 {α:Type}{f:α->Int}{c:Int}:∀l:List α,(∀x∈l,f x<=c)->(l.map f).sum<=c*l.length
 | [],_=>by simp
 | a::l,h=>by
  have h1:=cN8 l λx w=>h x (Ad4 _ w)
  have z:=h a Bl
  simp only[Ac7,List.sum_cons,Ay];rw[show((l.length+1:Nat):Int)=(l.length:Int)+1 by lia,Int.mul_add]
  lia
theorem cT5 {α:Type}{f:α->Int}:∀l:List α,(∀x∈l,0<=f x)->0<=(l.map f).sum
 | [],_=>by simp
 | a::l,h=>by
  have h1:=cT5 l λx w=>h x (Ad4 _ w)
  have z:=h a Bl
  simp only[Ac7,List.sum_cons];lia
theorem cA3 {α:Type}{f:α->Int}:∀l:List α,(∀x∈l,0<=f x)->(∃x∈l,1<=f x)->1<=(l.map f).sum
 | [],_,⟨x,hx,_⟩=>by cases hx
 | a::l,h,⟨x,hx,h1⟩=>by
  have z:=h a Bl
  have w:∀x∈l,0<=f x:=λx hx=>h x (Ad4 _ hx)
  simp only[Ac7,List.sum_cons];rcases Aa1.mp hx with rfl | hx
  .have:=cT5 l w;lia
  .have:=cA3 l w ⟨x,hx,h1⟩;lia
theorem dN3 (H:Nat->Nat->Int)(t:AD):hI (λp q => - H p q) t = - hI H t:=by
 unfold hI;split <;> simp
theorem dJ8 (H H':Nat->Nat->Int)(t:AD):hI (λp q=>H p q+H' p q) t=hI H t+hI H' t:=by
 unfold hI;split <;> simp
theorem cY8 (t:AD):hI (λ_ _=>0) t=0:=by
 unfold hI;split <;> rfl
theorem dF3 (w:Dw m dr tr)(X:TT.Po (TT.trn dr) u v H)(Q:t∈R9 m dr):hI H t<=15:=by
 obtain⟨p,q,R,_,e⟩:=aY1 w X Q;rw[e];rcases Int.lt_or_le (H p q) 16 with c | c
 .lia
 exfalso
 have U:2∈TT.trn dr 0:=(TT.C6 w.good.outs.1).1
 have nd:((List.range 16).map λj:Nat=>(j:Int)+1).Nodup:=by
  rw[Ac6,Ae0];exact(Ac6.mp Df).imp λh e=>h (by lia)
 have:=bY7 nd (m:=(R9 m dr).map (hI H)) λx D=>by
  obtain⟨j,J,rfl⟩:=Aa8.mp D;have J:=Ab5.mp J;obtain⟨M,N,Y,e'⟩:=X.hits w.good p q R ((j:Int)+1) (by lia) (by lia)
  have ho:TT.lnd (TT.trn dr) M N≠[0,2,1]:=λz=>by
   have:=X.lnd w.good Y U (by rw[z,aV3 w])
   have P:=X.z
   lia
  exact Aa8.mpr ⟨_,(aH3 w).mpr ⟨M,N,Y,rfl,ho⟩,by
   have:=aP2 w X Y
   unfold hN at this;rw[this,e']⟩
 rw[Aa3,Aa3,Cr]at this;have F:=bQ8 w;have B:=w.m7
 lia
def sm (k:Int)(m:Nat)(dr:AA)(H:Nat->Nat->Int):Int:=((R9 m dr).map λt=>k*hI H t).sum
theorem dP3 {m:Nat}{dr tr:AA}{u v:Nat->Nat->Bool}{H:Nat->Nat->Int}{k:Int}(w:Dw m dr tr)(j:TT.Po (TT.trn dr) u v H)(Y:k=1\/k = -1):sm k m dr H<=225:=by
 have h1:=cN8 (f:=λt=>k*hI H t) (c:=15) (R9 m dr) λt z=>by
  rcases Y with rfl | rfl
  .have:=dF3 w j z;lia
  .have:=dF3 w j.symm z
   rw[dN3]at this;lia
 have X:=bQ8 w
 have U:=w.m7
 unfold sm
 lia
theorem cU0 (k:Int)(m:Nat)(w:AA)(H H':Nat->Nat->Int):sm k m w (λp q=>H p q+H' p q)=sm k m w H+sm k m w H':=by
 unfold sm;rw[<- cA8]
 congr 1
 refine Bg λt _=>?_
 rw[dJ8,Int.mul_add]
theorem dJ4 {m:Nat}{dr tr:AA}{u v:Nat->Nat->Bool}{H:Nat->Nat->Int}{k e:Int}(X:Dw m dr tr)(J:TT.Po (TT.trn dr) u v H)(U:k=1\/k = -1)(F:e=1\/e = -1)(w:∀p q,H p q=0\/H p q=e)(h:k∈(R9 m dr).map (hI H)):1<=sm k m dr H:=by
 obtain⟨D,j,M⟩:=Aa8.mp h;obtain⟨R,Q,_,_,e1⟩:=aY1 X J j;have Y:k=e:=by have:=w R Q;lia
 subst Y;refine cA3 _ (λt N=>?_) ⟨D,j,?_⟩
 .obtain⟨p,q,_,_,e2⟩:=aY1 X J N;rw[e2];rcases w p q with z | z <;> rw[z] <;> rcases U with rfl | rfl <;> decide
 .rw[M];rcases U with rfl | rfl <;> decide
theorem dT2 (l:AD)(k:Int):(l.map PyData.int).any (λz=>PyData.eqv z (.int k))=decide (k∈l):=by
 induction l with
 | nil=>rfl
 | cons x l w=>
  rw[Ac7,List.any_cons,w];have e:PyData.eqv (.int x) (.int k)=decide (x=k):=rfl;rw[e,Ck];simp only[Eb,Am,Aa1];exact⟨λh=>h.imp Eq.symm id,λh=>h.imp Eq.symm id⟩
def lf (m:Nat)(dr:AA)(x y z:Nat):Bool:=decide (cL (TT.lnd (TT.trn dr) x y)∈bA1 m dr x y z)
section
variable {m:Nat}{dr tr:AA}{ps qs:List (Int×Int)}{x y z:Nat}{s:Bool}
theorem cT3 (w:Dw m dr tr)(t:Tri dr x y z):TT.Si (TT.trn dr) (lf m dr x y z) x y z:=by
 unfold TT.Si lf;rw[decide_eq_true_iff];exact dG4 w t t.1
theorem Ar.tri (ar:Ar m dr ps)(g:TT.Rn (pA ps) x y z):Tri dr x y z:=⟨ar.sv.mem g.1,ar.sv.mem g.2.1,ar.sv.mem g.2.2⟩
theorem Ar.lf (w:Dw m dr tr)(ar:Ar m dr ps)(g:TT.Rn (pA ps) x y z):TT.Si (TT.trn dr) s x y z↔K39.lf m dr x y z=s:=
 ⟨λh=>(cT3 w (ar.tri g)).un h,λh=>by rw[<- h];exact cT3 w (ar.tri g)⟩
theorem Ar.eq (a:Ar m dr ps)(b:Ar m dr qs)(h:pA ps=pA qs):ps=qs:=by
 rw[<- a.srt,<- b.srt];refine cM2 ((List.perm_ext_iff_of_nodup a.ai.nd b.ai.nd).mpr λu=>?_)
 have w:∀{p q:List (Int×Int)},Ar m dr p->pA p=pA q->u∈p->u∈q:=λ{p q} a h j=>by
  have lo:=a.ai.lo u j
  obtain⟨Y,X⟩:=u;obtain⟨x,rfl⟩:∃x:Nat,Y=(x:Int):=⟨Y.toNat,by have:=lo.1;simp only at this;lia⟩
  obtain⟨y,rfl⟩:∃y:Nat,X=(y:Int):=⟨X.toNat,by have:=lo.2.2.1;simp only at this;lia⟩
  have e:=congrFun (congrFun h x) y
  unfold pA at e;rw[<- e];exact j
 exact⟨w a h,w b h.symm⟩
theorem Ar.ring (ar:Ar m dr ps)(j:v∈rgL ps):∃x y z:Nat,v=[(x:Int),(y:Int),(z:Int)]/\TT.Rn (pA ps) x y z/\x<y/\x<z:=by
 obtain⟨a,b,c,rfl,m1,m2,w,h1,J⟩:=rgL_mem.mp j;have Y:=ar.ai.lo _ m1;have X:=ar.ai.lo _ m2;have U:=ar.ai.lo _ w;simp only at Y X U;obtain⟨x,rfl⟩:∃x:Nat,a=(x:Int):=⟨a.toNat,by lia⟩
 obtain⟨y,rfl⟩:∃x:Nat,b=(x:Int):=⟨b.toNat,by lia⟩
 obtain⟨z,rfl⟩:∃x:Nat,c=(x:Int):=⟨c.toNat,by lia⟩
 exact⟨x,y,z,rfl,⟨m1,m2,w⟩,by lia,by lia⟩
theorem aU2 (g:TT.Rn (pA ps) x y z)(h1:x<y)(w:x<z):[(x:Int),(y:Int),(z:Int)]∈rgL ps:=rgL_mem.mpr ⟨x,y,z,rfl,g.1,g.2.1,g.2.2,by lia,by lia⟩
theorem Ar.none (w:Dw m dr tr)(ar:Ar m dr ps)(h:∀x y z:Nat,[(x:Int),(y:Int),(z:Int)]∈rgL ps->K39.lf m dr x y z≠s):∀a b c,TT.Rn (pA ps) a b c->¬TT.Si (TT.trn dr) s a b c:=λa b c g k=>by
 have U:=ar.sv.ne g.1
 have J:=ar.sv.ne g.2.1
 have M:=ar.sv.ne g.2.2
 have t:=ar.tri g
 have G:=w.good
 have Y:=k.rot G w.rs t.1 t.2.1 t.2.2
 have X:=Y.rot G w.rs t.2.1 t.2.2 t.1
 rcases (show(a<b/\a<c)\/(b<c/\b<a)\/(c<a/\c<b) by lia) with⟨h1,j⟩ | ⟨h1,j⟩ | ⟨h1,j⟩
 .exact h a b c (aU2 g h1 j) ((ar.lf w g).mp k)
 .exact h b c a (aU2 g.rot h1 j) ((ar.lf w g.rot).mp Y)
 .exact h c a b (aU2 g.rot.rot h1 j) ((ar.lf w g.rot.rot).mp X)
def sg (s:Bool):Int:=if s then 1 else -1
theorem sg1 (s:Bool):sg s=1\/sg s = -1:=by cases s <;> simp[sg]
theorem Ar.lift' (X:Dw m dr tr)(ar:Ar m dr ps)(g:TT.Rn (pA ps) x y z)(k:TT.Si (TT.trn dr) s x y z):∃H,TT.Po (TT.trn dr) (uA ps) (uA (sp (tw ps (wys x y z)))) H/\(∀p q,H p q=0\/H p q=sg s)/\sg s∈(R9 m dr).map (hI H)/\0∈(R9 m dr).map (hI H):=by
 have G:=X.good
 have t:=ar.tri g
 have Y:=ar.sv.asy
 have vm:∀{p q:Nat},uA (sp (tw ps (wys (x:Int) y z))) p q=true↔TT.tnA (pA ps) x y z p q:=λ{p q}=>by
  rw[<- aF4];unfold uA pA;exact decide_eq_true_iff
 have vf:∀{p q:Nat},¬TT.tnA (pA ps) x y z p q->uA (sp (tw ps (wys (x:Int) y z))) p q=false:=λ{p q} h=>Bool.eq_false_iff.mpr λz=>h (vm.mp z)
 obtain⟨R,Q,D⟩:=g;have d1:=ar.sv.ne R;have d2:=ar.sv.ne Q;have d3:=ar.sv.ne D;have b1:=Y _ _ R;have b2:=Y _ _ Q;have b3:=Y _ _ D;have F:∀p q,q∈TT.trn dr p->((p=x/\q=y)\/(p=y/\q=z)\/(p=z/\q=x))->uA ps p q=true/\uA (sp (tw ps (wys x y z))) p q=false:=λp q J h=>by
  have hp:((p:Int),(q:Int))∈ps:=by
   rcases h with⟨rfl,rfl⟩ | ⟨rfl,rfl⟩ | ⟨rfl,rfl⟩
   .exact R
   .exact Q
   .exact D
  refine⟨As hp,vf ?_⟩;unfold TT.tnA
  lia
 have B:∀p q,q∈TT.trn dr p->((q=x/\p=y)\/(q=y/\p=z)\/(q=z/\p=x))->uA ps p q=false/\uA (sp (tw ps (wys x y z))) p q=true:=λp q J h=>by
  have hp:¬((p:Int),(q:Int))∈ps:=by
   rcases h with⟨rfl,rfl⟩ | ⟨rfl,rfl⟩ | ⟨rfl,rfl⟩
   .exact b1
   .exact b2
   .exact b3
  refine⟨Ak hp,vm.mpr ?_⟩;unfold TT.tnA
  lia
 have P:∀p q,q∈TT.trn dr p->¬((p=x/\q=y)\/(p=y/\q=z)\/(p=z/\q=x))->¬((q=x/\p=y)\/(q=y/\p=z)\/(q=z/\p=x))->uA ps p q=uA (sp (tw ps (wys x y z))) p q:=λp q J h1 h2=>by
  by_cases c:((p:Int),(q:Int))∈ps
  .rw[show uA ps p q=true from As c];symm
   exact vm.mpr (.inl ⟨c,λz=>h1 (.inl z),λz=>h1 (.inr (.inl z)),λz=>h1 (.inr (.inr z))⟩)
  .rw[show uA ps p q=false from Ak c];symm
   refine vf ?_;rintro (z | z)
   .exact c z.1
   .exact h2 (by lia)
 obtain⟨H,e,he,M,U,hr,hl⟩:=TT.bL2 (sh:=TT.sh3 x y z) G X.rs t.1 t.2.1 t.2.2 F B P (λp q _=>Iff.rfl)
 have w:2∈TT.trn dr 0:=(TT.C6 G.outs.1).1
 have e1:=hr x y t.1
 have st:=M.st x y t.1
 have r1:TT.rsn (uA ps) (uA (sp (tw ps (wys (x:Int) y z)))) x y=1:=by
  unfold TT.rsn;rw[vf (by unfold TT.tnA;lia),show uA ps x y=true from As R]
  rfl
 rw[r1]at st;have es:sg s=e:=by
  unfold TT.Si at k;rw[<- e1]at k;unfold sg;cases s with
  | true=>
   have:=k.mp rfl
   rw[Ac rfl];lia
  | false=>
   have:H x y=0:=Classical.byContradiction λz=>by have:=k.mpr z;cases this
   rw[Ab Ah];lia
 have inn:∀{p q:Nat} {e:Int},q∈TT.trn dr p->TT.lnd (TT.trn dr) p q≠[0,2,1]->H p q=e->e∈(R9 m dr).map (hI H):=λ{p q e} J ho hh=>by
  exact Aa8.mpr ⟨_,(aH3 X).mpr ⟨p,q,J,rfl,ho⟩,by
   have:=aP2 X M J
   unfold hN at this;rw[this,hh]⟩
 have ne:∀{p q:Nat},q∈TT.trn dr p->H p q=e->TT.lnd (TT.trn dr) p q≠[0,2,1]:=λ{p q} J hh z=>by
  have:=M.lnd G J w (by rw[z,aV3 X])
  have z0:=M.z
  lia
 rw[es];refine⟨H,M,U,?_,?_⟩
 .have v1:=U x y
  have v2:=U y x
  rcases he with rfl | rfl
  .exact inn t.1 (ne t.1 (by lia)) (by lia)
  .exact inn (G.sym t.1) (ne (G.sym t.1) (by lia)) (by lia)
 .have j:0∈TT.trn dr 2:=G.sym w
  have c0:∀{p q:Nat},p<3->∀ps:List (Int×Int),AI dr ps->uA ps p q=false:=λ{p q} hp ps ai=>by
   refine Ak λz=>?_
   have:=(ai.lo _ z).1
   simp only at this
   lia
  have N:=M.st 0 2 w
  have z0:=M.z
  unfold TT.rsn at N;rw[c0 (by lia) _ ar.ai,c0 (by lia) _ (ar.turn X ⟨R,Q,D⟩).ai]at N
  refine inn j (λe=>?_) (by simp at N;lia)
  rw[<- aV3 X]at e;rcases G.lnd_eq j w e with⟨e1,_⟩ | ⟨e1,e2⟩ | ⟨e1,_⟩
  .lia
  .exact(G.th_ne j).2.2 e2
  .exact(G.th_ne j).2.1 e1
theorem Ar.lift (j:Dw m dr tr)(ar:Ar m dr ps)(g:TT.Rn (pA ps) x y z)(k:TT.Si (TT.trn dr) s x y z):∃H,TT.Po (TT.trn dr) (uA ps) (uA (sp (tw ps (wys x y z)))) H/\1<=sm (sg s) m dr H:=by
 obtain⟨H,Y,w,h1,_⟩:=ar.lift' j g k;exact⟨H,Y,dJ4 j Y (sg1 s) (sg1 s) w h1⟩
theorem Ar.end_ex (Y:Dw m dr tr)(s:Bool):∀(N:Nat) {ps:List (Int×Int)} {H:Nat->Nat->Int},Ar m dr ps->TT.Po (TT.trn dr) (uA one) (uA ps) H->225-sm (sg s) m dr H<=(N:Int)->∃qs k,k<=N/\Ar m dr qs/\TT.Rd (TT.trn dr) s k (pA ps) (pA qs):=λN=>by
 induction N with
 | zero=>
  intro ps H ar U hN;refine⟨ps,0,Aa7 _,ar,.zero λa b c g k=>?_⟩
  obtain⟨X,w,h1⟩:=ar.lift Y g k;have J:=cU0 (sg s) m dr H X;have F:=dP3 Y (U.trans w) (sg1 s)
  lia
 | succ N Q=>
  intro ps H ar U hN;by_cases M:∃a b c,TT.Rn (pA ps) a b c/\TT.Si (TT.trn dr) s a b c
  .obtain⟨a,b,c,g,k⟩:=M;obtain⟨X,w,h1⟩:=ar.lift Y g k;have J:=cU0 (sg s) m dr H X;obtain⟨qs,j,B,R,D⟩:=Q (ar.turn Y g) (U.trans w) (by rw[J];lia)
   refine⟨qs,j+1,by lia,R,.succ ⟨a,b,c,g,k,rfl⟩ ?_⟩
   rw[<- aF4];exact D
  .exact⟨ps,0,by lia,ar,.zero λa b c g k=>M ⟨a,b,c,g,k⟩⟩
theorem cU8 (k:Int)(m:Nat)(dr:AA):sm k m dr (λ_ _=>0)=0:=by
 unfold sm
 have:(R9 m dr).map (λt=>k*hI (λ_ _=>0) t)=(R9 m dr).map λ_=>(0:Int):=Bg λt _=>by rw[cY8,Int.mul_zero]
 rw[this];induction R9 m dr with
 | nil=>rfl
 | cons a l w=>rw[Ac7,List.sum_cons,w];rfl
theorem Ar.ex (w:Dw m dr tr)(ar:Ar m dr ps)(s:Bool):∃qs k,k<=225/\Ar m dr qs/\TT.Rd (TT.trn dr) s k (pA ps) (pA qs):=
 Ar.end_ex w s (one:=ps) 225 ar TT.Po.refl (by rw[cU8];lia)
theorem Ar.back (w:Dw m dr tr)(ar:Ar m dr ps)(g:TT.Rn (pA ps) x y z):TT.Rn (pA (sp (tw ps (wys x y z)))) x z y/\sp (tw (sp (tw ps (wys x y z))) (wys x z y))=ps/\K39.lf m dr x z y = !K39.lf m dr x y z:=by
 have t:=ar.tri g
 obtain⟨Y,X,U⟩:=ar.sv.undo w.good w.rs g (cT3 w t);have j:TT.Rn (pA (sp (tw ps (wys x y z)))) x z y:=by rw[aF4];exact Y
 refine⟨j,((ar.turn w g).turn w j).eq ar (by rw[aF4,aF4];exact U),?_⟩
 exact((ar.turn w g).lf w j).mp X
end
def gS (m:Nat)(dr:AA)(s:Bool):AD->Bool
 | [a,b,c]=>decide (lf m dr a.toNat b.toNat c.toNat=s)
 | _=>false
def fSd (m:Nat)(dr:AA)(s:Bool):PyData->Option PyData
 | .tuple [.int a,.int b,.int c]=>if gS m dr s [a,b,c] then some (tI [a,b,c]) else none
 | _=>none
theorem cC1 (m:Nat)(w:AA)(s:Bool):∀L:AB,(∀v∈L,v.length=3)->(L.map tI).filterMap (fSd m w s)=(L.filter (gS m w s)).map tI
 | [],_=>rfl
 | v::L,h=>by
  obtain⟨a,b,c,rfl⟩:∃a b c,v=[a,b,c]:=by
   have:=h v (by simp)
   match v,this with
   | [a,b,c],_=>exact⟨a,b,c,rfl⟩
  rw[Ac7,Bo,cC1 m w s L λv z=>h v (by simp[z]),List.filter_cons]
  rw[show fSd m w s (tI [a,b,c])=(if gS m w s [a,b,c] then some (tI [a,b,c]) else none) from rfl]
  cases gS m w s [a,b,c] <;> rfl
theorem dM8:∀x y:Bool,PyData.eqv (.bool x) (.bool y)=decide (x=y):=by decide
theorem dD9 (b:Bool):Fit (.bool b):=⟨rfl,by simp[PyData.depth]⟩
def Cn (dr:AA)(one ps:List (Int×Int)):Prop:=∀s k e,TT.Rd (TT.trn dr) s k (pA one) e->∃k',TT.Rd (TT.trn dr) s k' (pA ps) e
theorem Cn.rf:Cn dr one one:=λs k e h=>⟨k,h⟩
theorem Cn.tr {dr:AA}{one ps qs:List (Int×Int)}(a:Cn dr one ps)(b:Cn dr ps qs):Cn dr one qs:=λs k e h=>by
 obtain⟨z,w⟩:=a s k e h;exact b s z e w
theorem Ar.cn (w:Dw m dr tr)(ar:Ar m dr ps)(g:TT.Rn (pA ps) x y z):Cn dr ps (sp (tw ps (wys x y z))):=λs k e h=>by
 obtain⟨Y,j⟩:=TT.Rd.turn w.good w.rs ar.sv g h;exact⟨Y,by rw[aF4];exact j⟩
def cI1 (ds:AF)(post:PyData->Prop):Prop:=∃(m:Nat) (dr tr:AA) (one:List (Int×Int)) (cs:AD),Dw m dr tr/\Ar m dr one/\cs.length<=63/\ds=[.tuple (one.map pD),lI cs]/\post=λd=>∃ps,d=.tuple (ps.map pD)/\Ar m dr ps/\Cn dr one ps
def cN1 (ds:AF)(post:PyData->Prop):Prop:=∃(m:Nat) (dr tr:AA) (one:List (Int×Int)) (s:Bool),Dw m dr tr/\Ar m dr one/\ds=[tD dr,.tuple (one.map pD),.int (sg s)]/\post=λd=>∃ps,d=.tuple (ps.map pD)/\Ar m dr ps/\Cn dr one ps
section
variable {P:Program}{w:World}{K:Frag}{mg:Str->Option Value}{base:Heap}{a:Ad}
theorem dP6 (T:Tx K mg a):K3 P w K mg base CX0 2 a.aK2 a.aM8 ["_law_arrows_here", "_law_cells"] (spX K cI1):=by
 have Y := @dF1 P w K mg base a T
 have U := @cH5 P w K mg base a T
 have J := @aM0 P w K mg base a T
 refine T.v9.F.ok Q0 (dO3 (by rintro ds d ⟨_,_,_,_,_,_,_,_,rfl,_⟩;rfl)) (λcdv A B s H vs Q E R h=>?_)
 obtain⟨ds,S,post,hS,r,⟨m,N,tr,one,cs,dw,ar,hcl,rfl,rfl⟩,q⟩:=h;refine⟨_,(A6 (J8 Aj rfl (cG4 K rfl T.a9 (A0 (pv 1) A5)) (T6 (n:=2) rfl (D5 (pgN 2 Q0) (D5 (pgN 3 Q0) P3))) (A6 (psS 4 Q0 (pcl Y R T.Q7 (A0 (pv 0) A5)))
   (B1 (M1 (C0 y4 (B6 (aJ0 K) (by rfl) T.O3 Aw (A0 (pv 4) A5)) A7 (F6 _)) (B1 (psS 0 Q0 (pcl U R T.N1 (A0 (pv 0) (A0 (B5 (ixK K) (pv 4) (B7 T8 (pcl J R T.N3 (A0 (pv 3) (A0 (B7 J6 A7 (pv 2)) A5))) (B6 (aJ0 K) (by rfl) T.O3 Aw (A0 (pv 4) A5))) (λ_ _=>rfl)) A5))))) E8))))
   (B1 (C8 (pv 0)))),bT3 hS r ?_ q⟩
 refine B2 (N9 (cY9 (ds:=cs.map PyData.int) (A4 v1 A8)) (λk ρ=>∃ps x2 x3 x4,(Ar m N ps/\Cn N one ps)/\ρ=[.val (.tuple (ps.map pD)),.val (lI cs),x2,x3,x4]) ⟨one,.no,.no,.no,⟨ar,Cn.rf⟩,rfl⟩ ?_ ?_)
 .rintro k d _ hd ⟨ps,x2,x3,x4,⟨ar,cn⟩,rfl⟩;obtain⟨y,D,rfl⟩:=aP1 hd;have hkl:k<cs.length:=by have:=(Ab0.mp D).1;simpa using this
  rw[Aa9]at D;obtain⟨c,hc,rfl⟩:=Au.mp D;refine⟨_,k7 (ds:=[.int (k:Int),.int c]) (E6 B4 (E6 B4 T7)),?_⟩;refine B2 (E4 (ds:=(M3 (rgL ps)).map tI) (J5 (pre:=cS6) (X:=E0) (A4 v0 A8) ⟨N,ps,ar.ai,rfl,rfl⟩) ?_ (show 4<5 by decide))
  refine bK6 (i:=4) rfl ?_;have hL:(M3 (rgL ps)).length<64:=by rw[(D1 _).length_eq];exact aS9 ar.ai
  show W K _ [.val (.tuple (ps.map pD)),.val (lI cs),vI (k:Int),vI c,.val (.list ((M3 (rgL ps)).map tI))] _
  refine U8 (C3 (aD2 (g:=λi j=>decide (i>j)) (P4 (ds:=(M3 (rgL ps)).map tI) (A4 v4 A8)) (B0 (i:=0)))) (λh=>?_) (λh=>F9 ⟨ps,_,_,_,⟨ar,cn⟩,rfl⟩)
  have hpos:0<(M3 (rgL ps)).length:=by have:=An h;rw[Aa3]at this;lia
  obtain⟨j,hj⟩:∃j:Nat,mx c (70+(k:Int)) % (((M3 (rgL ps)).map tI).length:Int)=(j:Int):=⟨(mx c (70+(k:Int)) % (((M3 (rgL ps)).map tI).length:Int)).toNat,by have:=Cc (mx c (70+(k:Int))) (b:=(((M3 (rgL ps)).map tI).length:Int)) (by rw[Aa3];lia);lia⟩
  have M:j<(M3 (rgL ps)).length:=by have:=Co (mx c (70+(k:Int))) (b:=(((M3 (rgL ps)).map tI).length:Int)) (by rw[Aa3];lia);rw[Aa3]at this hj;lia
  obtain⟨x,y,z,ev,g,_,_⟩:=ar.ring ((D1 _).mem_iff.mp (Di M));have hl21:=ar.ai.len;exact F3 (d:=.tuple ((sp (tw ps (wys x y z))).map pD)) (D7 (pre:=cC9) (X:=E0) (A4 v0 (A4 (E7 (ds:=(M3 (rgL ps)).map tI) (d':=tI [(x:Int),y,z]) v4 (e_i (D7 (pre:=i9) (X:=E0) (A4 v3 (A4 (N0 (g:=λi j=>i+j) (B0 (i:=70)) v2) A8)) ⟨c,70+(k:Int),by lia,rfl,rfl⟩) (P4 (ds:=(M3 (rgL ps)).map tI) (A4 v4 A8)) (by rw[Aa3];lia)) rfl (U1 j hj (by rw[Aa9,Aa2 M,ev];rfl))) A8)) ⟨ps,x,y,z,by lia,rfl,rfl⟩) ⟨sp (tw ps (wys x y z)),_,_,_,⟨ar.turn dw g,cn.tr (ar.cn dw g)⟩,rfl⟩
 .rintro _ ⟨ps,x2,x3,x4,⟨ar,cn⟩,rfl⟩;exact L6 v0 ⟨ps,rfl,ar,cn⟩
theorem dQ3 (T:Tx K mg a):K3 P w K mg base CX0 4 a.aY5 a.aU4 ["_law_drawing", "_law_arrows_here", "_law_lift"] (spX K cN1):=by
 have Y := @dF1 P w K mg base a T
 have U := @cH5 P w K mg base a T
 have J := @dC5 P w K mg base a T
 refine T.aH0.F.ok M9 (dO3 (by rintro ds d ⟨_,_,_,_,_,_,_,rfl,_⟩;rfl)) (λcdv A outer s' Hh vs Q E hr h=>?_)
 obtain⟨ds,S,post,hS,r,⟨m,M,tr,one,s,R,ar0,rfl,rfl⟩,q⟩:=h;refine⟨_,(A6 (psS 3 M9 V4)
   (A6 (U6 Aj (O5 (pv 3)) (A6 (psS 3 M9 V4)
   (A6 (J8 Aj rfl (M4 (pcl Y hr T.Q7 (A0 (pv 1) A5))) (pgN 4 M9) (A6 (psS 5 M9 (pcl U hr T.N1 (A0 (pv 1) (A0 (pv 4) A5))))
   (B1 (M1 (PW.pt (o7 (V7 (O5 (pv 3))) (aL6 (C0 (aF8 K hr) (pv 2) (pcl J hr T.Z3 (A0 (pv 0) (A0 (pv 1) (A0 (pv 5) A5)))) rfl)))) (A6 (psS 3 M9 V4)
   (B1 (psS 6 M9 (pv 5)))) E8))))
   (B1 (M1 (O5 (pv 3)) (B1 (psS 1 M9 (pv 6))) E8)))))
   (B1 (C8 (pv 1))))),bT3 hS r ?_ q⟩
 obtain⟨es,k0,_,ae,rd0⟩:=ar0.ex R s;refine B2 (F3 (d:=.bool true) aX9 ?_);refine B2 (p8 (λvr ρ=>∃(ps:List (Int×Int)) (b:Bool) (j:Nat) (D B N:Sl),Ar m M ps/\Cn M one ps/\TT.Rd (TT.trn M) s j (pA ps) (pA es)/\vr=2*j+b.toNat/\ρ=[vD M,.val (.tuple (ps.map pD)),vI (sg s),.val (.bool b),D,B,N]) ⟨_,one,true,k0,.no,.no,.no,ar0,Cn.rf,rd0,rfl,rfl⟩ ?_)
 rintro vr ρ' ⟨ps,b,j,D,B,N,ar,cn,rd,hv,rfl⟩;refine⟨b,t_b v3,?_⟩;cases b with
 | false=>
  rw[Ab Ah];exact L6 v1 ⟨ps,rfl,ar,cn⟩
 | true=>
  rw[Ac rfl];have hl21:=ar.ai.len;refine B2 (F3 (d:=.bool false) aX9 ?_);refine B2 (N9 (P6 (ds:=(M3 (rgL ps)).map tI) (EF.e' (J5 (pre:=cS6) (X:=E0) (A4 v1 A8) ⟨M,ps,ar.ai,rfl,rfl⟩))) (λi ρ=>∃(b:Bool) (D B N:Sl),(b=true->∃x y z:Nat,TT.Rn (pA ps) x y z/\TT.Si (TT.trn M) s x y z/\N=.val (.tuple ((sp (tw ps (wys x y z))).map pD)))/\ρ=[vD M,.val (.tuple (ps.map pD)),vI (sg s),.val (.bool b),D,B,N]) ⟨false,D,B,N,(λh=>by cases h),rfl⟩ ?_ ?_)
  .rintro i d _ hd ⟨b,D,B,N,hb,rfl⟩;rw[Aa9]at hd;obtain⟨t,ht,rfl⟩:=Au.mp hd;obtain⟨x,y,z,rfl,g,_,_⟩:=ar.ring ((D1 _).mem_iff.mp (Av ht));obtain⟨s2,hs2⟩:=TT.Si.ex (TT.trn M) x y z;obtain⟨H',po',h01,hin,_⟩:=ar.lift' R g hs2;refine⟨_,B4,?_⟩;refine B2 (F3 (d:=.tuple ((sp (tw ps (wys x y z))).map pD)) (D7 (pre:=cC9) (X:=E0) (A4 v1 (A4 v4 A8)) ⟨ps,x,y,z,by lia,rfl,rfl⟩) ?_)
   show W K _ [vD M,.val (.tuple (ps.map pD)),vI (sg s),.val (.bool b),.val (tI [(x:Int),y,z]),.val (.tuple ((sp (tw ps (wys x y z))).map pD)),N] _
   have t2:=aY3 (K:=K) (m:=false) (ρ:=[vD M,.val (.tuple (ps.map pD)),vI (sg s),.val (.bool b),.val (tI [(x:Int),y,z]),.val (.tuple ((sp (tw ps (wys x y z))).map pD)),N]) (d:=.int (sg s)) (d':=tI ((R9 m M).map (hI H'))) (ds:=((R9 m M).map (hI H')).map PyData.int) v2 (D7 (pre:=cN4) (X:=E0) (A4 v0 (A4 v1 (A4 v5 A8))) ⟨m,M,tr,ps,sp (tw ps (wys x y z)),H',R,po',rfl,rfl⟩) rfl (bZ7 _) (FitN.fit (S4 _))
   rw[dT2]at t2;refine U8 (z5 (z4 (t_b v3)) λ_=>C3 t2) (λh=>?_) (λh=>F9 ⟨b,_,_,N,hb,rfl⟩)
   simp only[Aq,Am]at h;have e2:s2=s:=by
    obtain⟨t0,ht0,e0⟩:=Aa8.mp h.2;obtain⟨p0,q0,_,_,e1⟩:=aY1 R po' ht0
    have:=h01 p0 q0
    rw[<- e1,e0]at this
    revert this
    unfold sg;cases s <;> cases s2 <;> simp
   subst e2;refine B2 (F3 (d:=.bool true) aX9 ?_);exact F3 (d:=.tuple ((sp (tw ps (wys x y z))).map pD)) v5 ⟨true,_,_,_,λ_=>⟨x,y,z,g,hs2,rfl⟩,rfl⟩
  .rintro _ ⟨b,D,B,N,hb,rfl⟩;refine U8 (t_b v3) (λh=>?_) (λh=>F9 ?_)
   .subst h;obtain⟨x,y,z,g,hs,rfl⟩:=hb rfl;obtain⟨j',rfl,rd'⟩:=TT.Rd.strip R.good R.rs ar.sv rd ⟨x,y,z,g,hs,rfl⟩;rw[<- aF4]at rd';refine F3 (d:=.tuple ((sp (tw ps (wys x y z))).map pD)) v6 ⟨_,?_,_,true,j',_,_,_,ar.turn R g,cn.tr (ar.cn R g),rd',rfl,rfl⟩;rw[hv];show 2*j'+1<2*(j'+1)+1
    lia
   .subst h;refine⟨_,?_,ps,false,j,_,_,_,ar,cn,rd,rfl,rfl⟩;rw[hv];show 2*j+0<2*j+1
    lia
end
end K39
namespace LR
open PySem PyProof.Rows
theorem dF8:∀(k n r:Nat),minRun' k n r<=n+r
 | 0,n,r=>by first | exact Aa7 _ | (show(_:Nat)<=n+r;simp[minRun'])
 | k+1,n,r=>by
  rw[minRun'_succ];split
  .exact Aa7 _
  .have:=dF8 k (n / 2) (max r (n % 2))
   lia
section
variable {prog:Program}{w:World}{A:Around}{E:Ec}{s:Shared}{a₀:Array Keyed}
theorem dO1 {st:SortSt}{Q:Option Nat->SortSt->Prop}(X:IntKeys a₀)(h1:1<=a₀.size)(U:SBase a₀ st)(M:SortedTo (arrOf st) a₀.size)(q:Q (some a₀.size) st):wpS (model prog w) A E s (countRun' 0 a₀.size) Q st:=by
 have one:SortedTo (arrOf st) 1:=λi j J N=>by
  have e:i=j:=by lia
  rw[e];exact Int.le_refl _
 have cl:∀n,n<=a₀.size->1<=n->(n=a₀.size\/K (arrOf st) n<K (arrOf st) (n-1))->n=a₀.size:=λn Y m z=>by
  by_cases c:n=a₀.size
  .exact c
  .have z:=z.resolve_left c
   have:=M (n-1) n (by lia) (by lia)
   lia
 rw[countRun0_eq];refine wpS_bind (wpS_ascLoop X (Aa7 _) (Aa7 1) h1 U one λn m Y _ z=>?_)
 have e:=cl n Y m z
 subst e;dsimp only;rw[Ac (by simp)]
 exact wpS_pure q
theorem cW4 {st:SortSt}{Q:Unit->SortSt->Prop}(R:IntKeys a₀)(Y:SBase a₀ st)(h1:1<=a₀.size)(B:SortedTo (arrOf st) a₀.size)
  (q:∀st',arrOf st'=arrOf st->failedOf st'=none->Q () st'):wpS (model prog w) A E s sortRuns' Q st:=by
 have F:=dF8 a₀.size a₀.size 0
 let X:SortSt->Prop:=λst'=>arrOf st'=arrOf st/\failedOf st'=none/\pendingOf st' = #[(0,a₀.size,0)]
 rw[sortRuns'_eq];refine wpS_bind (wpS_get ?_);dsimp only;simp only[Y.size];generalize minRun' a₀.size a₀.size 0=mr at F;refine wpS_bind (wpS_mono (wpS_forRange (I:=λx c st'=>(x=0/\c=(none,0)/\st'=st)\/(1<=x/\c=(none,a₀.size)/\X st')) (Q:=λc st'=>c=(none,a₀.size)/\X st') ?a ?b (.inl ⟨rfl,rfl,rfl⟩)) ?c)
 case b=>
  intro c st' z;rcases z with z | z
  .exact absurd z.1 (by lia)
  .exact z.2
 case a=>
  intro x c st' _ P z;rcases z with⟨ex,m,N⟩ | ⟨_,m,D⟩
  .subst ex m N;dsimp only;rw[Ab (by lia)]
   simp only[Nat.sub_zero,Nat.zero_add];refine wpS_bind (dO1 R h1 Y B ?_);dsimp only;rw[Ab (by lia)]
   refine wpS_bind (wpS_get ?_);rw[show(pendingOf st').back? = none by rw[Y.pend];rfl]
   dsimp only
   exact wpS_bind (wpS_modify (wpS_pure (.inr ⟨by lia,rfl,rfl,Y.failed,by show(pendingOf st').push _=_;rw[Y.pend];rfl⟩)))
  .subst m;dsimp only;rw[Ac (Aa7 _)];exact wpS_pure ⟨rfl,D⟩
 case c=>
  intro c st' z;obtain⟨m,U,J,M⟩:=z;subst m;dsimp only;refine wpS_bind (wpS_mono (wpS_forRange (I:=λ_ c j=>j=st'/\c=(none,())) (Q:=λc j=>j=st'/\c=(none,())) (λx c j _ _ z=>?_) (λ_ _ z=>z) ⟨rfl,rfl⟩) λc j z=>?_)
  .obtain⟨e1,e2⟩:=z;subst e1 e2;refine wpS_bind (wpS_get ?_);rw[Ac (by rw[M];exact Aa7 1)]
   exact wpS_pure ⟨rfl,rfl⟩
  .obtain⟨e1,e2⟩:=z;subst e1 e2;exact wpS_pure (q _ U J)
theorem dT3 (hI:IntsAre vs ns)(U:ns.Pairwise (·≥·)):SortedTo (vs.toArray.zip vs.toArray).reverse vs.length:=λi j J M=>by
 have R:=hI.length
 have z:∀k,k<vs.length->K (vs.toArray.zip vs.toArray).reverse k=ns.getD (vs.length-1-k) 0:=λk N=>by
  have Y:vs.length-1-k<ns.length:=by lia
  obtain⟨t,X⟩:=hI.get (vs.length-1-k) _ (Aa2 Y);have e:(vs.toArray.zip vs.toArray).reverse[k]? = some (Value.int ns[vs.length-1-k] t,Value.int ns[vs.length-1-k] t):=by
   rw[<- Array.getElem?_toList,Array.toList_reverse,List.getElem?_reverse (by simpa using N)]
   rw[Array.toList_zip,List.length_zip,Nat.min_self,List.getElem?_zip_eq_some];exact⟨X,X⟩
  unfold K;rw[e,Ac0,Aa2 Y];rfl
 rw[z i (by lia),z j M]
 have h1:vs.length-1-j<ns.length:=by lia
 have m:vs.length-1-i<ns.length:=by lia
 rw[Ac0,Ac0,Aa2 h1,Aa2 m];show ns[vs.length-1-i]<=ns[vs.length-1-j];by_cases e:i=j
 .subst e;exact Int.le_refl _
 .exact List.pairwise_iff_getElem.mp U _ _ h1 m (by lia)
theorem cE1 {a:Addr}{vs:AG}{ns:AD}{n:Nat}{P:Fin->Shared->Prop}(ho:s.heap.get? a=some (seqObj "list" vs.toArray n))(hI:IntsAre vs ns)(N:ns.Pairwise (·≥·))(M:2<=vs.length)(R:vs.length<=sizeLine)
  (h:P (.done (.ret .none)) {s with heap:=sortedHeap s.heap a vs vs.toArray}):wpAny (model prog w) A (Builtin.«list.sort» ⟨[.ref a],[(Str.ofString "reverse",.bool true)]⟩) P E s:=by
 have D:a<s.heap.objs.size:=Ab3 ho
 have j:¬vs.toArray.size<2:=by simpa using M
 obtain⟨e1,U⟩:∃e1,(s.heap.update a (Obj.mapSeq λ_ => #[])).get? a=some (seqObj "list" #[] e1):=⟨_,get?_update_seq ho (λ_ => #[])⟩
 have J:(((s.heap.update a (Obj.mapSeq λ_ => #[])).push (seqObj "tuple" vs.toArray 0)).push (seqObj "list" #[] 0)).get? a=some (seqObj "list" #[] e1):=by
  have Y:a≠(s.heap.update a (Obj.mapSeq λ_ => #[])).objs.size:=by rw[Heap.size_update];exact Ab9 D
  have X:a≠((s.heap.update a (Obj.mapSeq λ_ => #[])).push (seqObj "tuple" vs.toArray 0)).objs.size:=by rw[size_push',Heap.size_update];exact Ab9 (Dm D)
  rw[Heap.get?_push_ne _ _ _ X,Heap.get?_push_ne _ _ _ Y];exact U
 have back:(((vs.toArray.zip vs.toArray).reverse).map (·.2)).reverse=vs.toArray:=by
  apply Array.ext'
  simp only[Array.toList_reverse,Array.toList_map,Array.toList_zip,List.map_reverse,List.reverse_reverse];exact List.map_snd_zip (Aa7 _)
 rw[list_sort_rev];refine Aa (listItems_at ho rfl (Aa (listUpdate_at ho rfl (Aa (seqEpoch_at U rfl (Aa (wpAny_newTuple (Aa (wpAny_newList (Bx ?_))))))))));show wpAny (model prog w) A _ P E {s with heap:=((s.heap.update a (Obj.mapSeq λ_ => #[])).push (seqObj "tuple" vs.toArray 0)).push (seqObj "list" #[] 0)}
 rw[Ac rfl];refine Aa (wpAny_rule ?_);rw[Ab j,Ab j]
 match vs,hI,M,N,R,ho,h,U,J,back,j with
 | v1::v2::r,hI,M,N,R,ho,h,U,J,back,j=>
  rw[keyKind_ints hI];refine Aa (Ae ?_);have hp:((v1::v2::r).toArray.zip (v1::v2::r).toArray).reverse.Perm (pairsOf (v1::v2::r)):=Array.perm_iff_toList_perm.mpr (by rw[Array.toList_reverse];exact List.reverse_perm _)
  refine Aa (wpAny_mono (cW4 (a₀:=pairsOf (v1::v2::r)) (st:=SortSt.mk' oneType' ((v1::v2::r).toArray.zip (v1::v2::r).toArray).reverse #[] 7 none)
   (Q:=λ_ m=>arrOf m=((v1::v2::r).toArray.zip (v1::v2::r).toArray).reverse/\failedOf m=none) hI.intKeys ⟨hp,rfl,rfl,rfl⟩ (by rw[pairsOf_size];simp) (by rw[pairsOf_size];exact dT3 hI N) λm Y X=>⟨Y,X⟩) ?_ λ_ _ e=>e)
  intro z F q;obtain⟨⟨⟩,m⟩:=z;obtain⟨rfl,Y,X⟩:=q;dsimp only;refine Aa (seqEpoch_at J rfl (Aa (listUpdate_at J rfl ?_ (hsz2:=by
   rw[Ac rfl,Y,back];simp only[Ab2];lia))))
  rw[X,Ac rfl,Y,back];simp only[bne_self_eq_false,Dj,if_false];exact Ae h
theorem fall_sorted (Y:s.heap.IsList l vs.toArray)(hI:IntsAre vs ns)(j:ns.Pairwise (·≥·))(z:2<=vs.length)(X:vs.length<=sizeLine)
  (h:Q (.ref (s.heap.objs.size+1)) {s with heap:=sortedAll s.heap vs vs.toArray}):wpAny (model prog w) A (call (.builtin "sorted") [.ref l] [(Str.ofString "reverse",.bool true)]) Q E s:=by
 have e1:((s.heap.push (seqObj "list" #[] 0)).update s.heap.objs.size (Obj.mapSeq (· ++ vs.toArray))).objs.size=s.heap.objs.size+1:=by rw[Heap.size_update,size_push']
 have e2:(((s.heap.push (seqObj "list" #[] 0)).update s.heap.objs.size (Obj.mapSeq (· ++ vs.toArray))).push (seqObj "list" vs.toArray 0)).get? (s.heap.objs.size+1)=some (seqObj "list" vs.toArray 0):=by
  rw[<- e1];exact Ac3 _ rfl
 refine call_function_entry_kw kind_sorted plain_sorted entry_sorted (args_sorted_rev _ _) ?_;unfold Builtin.«sorted»;refine Aa (m:=checkCount "sorted" 1 1 _) (Ae (Aa (collect_list Y (Aa (wpAny_newList ?_)))));show wpAny _ _ _ _ _ {s with heap:=((s.heap.push (seqObj "list" #[] 0)).update s.heap.objs.size (Obj.mapSeq (· ++ vs.toArray))).push (seqObj "list" vs.toArray 0)}
 rw[e1];refine Aa (Bx (wpAny_call_entry_kw slot_list_sort ⟨_,e2,rfl⟩ entry_list_sort (cE1 e2 hI j z X ⟨_,rfl,?_⟩) (args_list_sort_rev _ _)));exact Ae ⟨_,rfl,h⟩
end
end LR
namespace LV
open PySem PySem.Spec PyProof.Rows L2
section
variable {K:Frag}{ρ ρ':List Sl}{m:Bool}{t ta tb:TE}{d d':PyData}{ds es:AF}
def RtT (K:Frag)(S:Addr->Prop)(B:Hp)(post:OT->Prop)(D:aT6):Prop:=
 ∀v u L H',Same B H'->(∀b∈L,B b=none)->L.Nodup->Dp K (hid (λb=>S b\/b∈L) H') H' v u L->post u->D.rt v H'
def WT (K:Frag)(t:TS)(ρ:List Sl)(R:AE)(post:OT->Prop):Prop:=
 ∀(S:Addr->Prop) (B:Hp) (D:aT6) (σ:L2.St) (H:Hp) (o:Nat->AL),Env K S B H σ ρ o->Sat K S B R D->RtT K S B post D->t D σ H
theorem bG7 {t u:TS}{R:AE}{post:OT->Prop}(h:W K t ρ {R with nx:=λρ'=>WT K u ρ' R post}):WT K (cZ9 t u) ρ R post:=λS B D σ H o I s r=>
 h S B {D with nx:=u D} σ H o I ⟨λρ' X z Y j w=>w S B D X z Y j s r,s.rt,s.rl,s.bk,s.ct⟩
theorem dP5 {t:TS}{R:AE}{post:OT->Prop}(h:W K t ρ R):WT K t ρ R post:=λS B D σ H o I s _=>h S B D σ H o I s
theorem aU8:∀{ds:AF} {xs:List V},Reps K Z xs ds->Dps K Z H xs (ds.map OT.leaf) []
 | [],_,r=>by cases r;exact .nil
 | d::ds,_,r=>by
  cases r with
  | cons a b=>exact .cons (L:=[]) (L':=[]) (.leaf a) (aU8 b)
theorem cX2 (hi:ρ[i]? = some (.own ds))(h:E K true t ρ d)(hp:post (.tup [.lst (ds.map OT.leaf),.leaf d])):WT K (cJ4 (aL8 (C9 (C4 i) (C9 t O1)))) ρ R post:=λS B D σ H o I s r=>by
 obtain⟨p,j,a,xs,b,c⟩:=I.own i ds hi;refine⟨_,a,h S B σ H o I _ λv H1 Y J=>⟨by show 2<=sizeLine;decide,λq U=>?_⟩⟩
 have g:=D8 (o:=.tup [.ref p,v]) U
 have sub:∀w,S w\/w∈[p]->E3 ρ o S w:=λw z=>z.elim .inl λz=>.inr ⟨i,_,hi,rfl,by rw[j];exact z⟩
 refine r _ (.tup [.lst (ds.map OT.leaf),.leaf d]) [p] _ (L2.Same.tr I.base (L2.Same.tr Y g)) (λw X=>I.new i _ hi rfl w (by rw[j];exact X)) (by simp) ?_ hp
 refine .tup (SqT.of C5) (.cons (L:=[p]) (L':=[]) (.lst (L:=[]) (g _ _ (Y _ _ b)) (aU8 (c.mono ?_))) (.cons (L:=[]) (L':=[]) (.leaf (J.mono ?_)) .nil))
 .exact E2 (L2.Same.tr Y g) λw z _=>sub w z
 .exact E2 g λw z _=>sub w z
def spT (K:Frag)(pre:AF->OT->Prop):Sp:=λvs H Q _=>∃(ds:AF) (S:Addr->Prop) (u:OT),(∀b,S b->∃u:HM,H b=some u.ho)/\Reps K (hid S H) vs ds/\pre ds u /\
 ∀v L H',Same H H'->(∀b∈L,H b=none)->L.Nodup->Dp K (hid (λb=>S b\/b∈L) H') H' v u L->Q v H'
theorem dX3 (h:∀ds u,pre ds u->ds.length=n):∀vs H Q E,spT K pre vs H Q E->vs.length=n:=by
 rintro vs H Q E ⟨ds,S,u,_,r,p,_⟩;rw[r.length];exact h ds u p
theorem dH0 {t:TS}{N:AH}{vs:List V}{S:Addr->Prop}{H:Hp}{Q:VK}{u:OT}(j:∀b,S b->∃u:HM,H b=some u.ho)(r:Reps K (hid S H) vs ds)(w:WT K t (sl0 N.length ds) {nx:=λ_=>False} (λx=>x=u))
  (k:∀v L H',Same H H'->(∀b∈L,H b=none)->L.Nodup->Dp K (hid (λb=>S b\/b∈L) H') H' v u L->Q v H'):t {nx:=λ_ H'=>Q .non H',rt:=Q} (L2.Y6 N vs) H:=
 w S H _ _ H _ (env0 j r) ⟨λρ' J H' X Y z=>z.elim,λv e H' s U z=>z.elim,λ_ _ _ _ _ _ _ _ z=>z.elim,λ_ _ _ _ _ z=>z.elim,λ_ _ _ _ _ z=>z.elim⟩ λv x L H' a b c e z=>k v L H' a b c (z▸e)
theorem bO5 {pre:AF->OT->Prop}{t:TA}{X:XK}{u:OT}(Y:A K true t ρ ds)(hp:pre ds u):EFT K (Y7 (spT K pre) [] X t) ρ u:=λS B σ H o I Q q=>
 Y S B σ H o I _ λvs H1 w rs=>⟨ds,E3 ρ o S,u,(I.grow w).lists,by rw[Bq];exact rs,hp,λv L z J n nd j=>q v L z (L2.Same.tr w J) (λb U=>T2 w (n b U)) nd j⟩
end
end LV
namespace L2
open PySem PySem.Spec PyProof.Rows
def tSR (K:Frag)(tl:TE):TE:=λσ H Q=>tl σ H λy H1=>∃(p:Addr) (l:AD),y=.ref p/\SqL K H1 p (l.map V.int)/\l.Pairwise (·≥·)/\∀a,H1 a=none->Q (.ref a) (upd H1 a (.lst (l.map V.int)))
theorem cL4 (K:Frag)(hg:Gl X "sorted")(hm:X.mg "sorted" = none)(he:PE X e tl)(hk:PE X ek (tC (.bl true)))(hK:X.K=K:=by rfl)(m:dB4 e=true:=by rfl) :
  PE X (.Call (.Name "sorted" p) [e] [⟨some "reverse",ek,kpos⟩] pos) (tSR K tl):=by
 subst hK;refine⟨λB s σ H Q I h=>?_⟩
 refine wpAny_Call_Name_kw (V8 I hg hm rfl ?_)
 let R:V->Hp->Prop:=λy H1=>∃(p:Addr) (l:AD),y=.ref p/\SqL X.K H1 p (l.map V.int)/\l.Pairwise (·≥·)/\∀a,H1 a=none->Q (.ref a) (upd H1 a (.lst (l.map V.int)))
 let R':List V->Hp->Prop:=λN H1=>match N with
  | [y]=>R y H1
  | _=>False
 have P:C9 tl O1 σ H R':=h
 refine callWith_kw (thn ((A0 he A5 m:PA X [e] (C9 tl O1)).run pos B s σ H R' I P) λus s1 pz=>?_) (by rw[aB7 m];rfl) (by rw[aB7 m];rfl) rfl rfl
 obtain⟨N,H1,I1,r1,q1⟩:=pz;obtain⟨y,rfl⟩:∃y,N=[y]:=by
  rcases N with _ | ⟨y,_ | ⟨z,zs⟩⟩
  .exact False.elim q1
  .exact⟨y,rfl⟩
  .exact False.elim q1
 obtain⟨pl,l,ey,hsq,hd,U⟩:=(show R y H1 from q1)
 subst ey;cases r1 with
 | cons ry rt=>
  cases rt
  obtain rfl:=(show _=Value.ref pl from ry)
  show wpAny _ _ (evalAll ((do let v <- eval ek X.env;standAt pos;pure v)::[])) _ _ s1
  refine wpAny_evalAll_cons (Aa (thn (hk B s1 σ H1 (λv H2=>v=.bl true/\H2=H1) I1 ⟨rfl,rfl⟩) λu Y pz=>?_))
  obtain⟨x,H2,D,r2,ex,eh⟩:=pz;subst ex eh;obtain rfl:=(show u=Value.bool true from r2)
  refine Aa (wpAny_standAt (Ae (wpAny_evalAll_nil ?_)));show wpAny _ _ (call (.builtin "sorted") [.ref pl] [(Str.ofString "reverse",.bool true)]) _ _ Y;obtain⟨its,rv,M,hz⟩:=D.list hsq;have hi:=LV.O7 rv;have hlen:=hi.length;have hl:=rv.length;rw[Aa3]at hl hz;have fin:∀(j:AJ),IntsAre j.toList l->(λv s'=>∃x H',Inv X B σ H' s'/\RelV x v/\Q x H') (.ref (Y.heap.objs.size+1)) {Y with heap:=sortedAll Y.heap its j}:=λj ho=>by
   obtain⟨e,he⟩:=sortedAll_at Y.heap its j;exact⟨.ref _,_,D.laid (t':=Y.toks) (λb o e=>sortedAll_old e) (Nat.le_succ _) (show ObjOk X.prog X.w _ _ _ (.lst (l.map V.int)) from⟨by rw[Aa3];exact hz,j.toList,e,LV.cD8 ho,he⟩),rfl,U _ (D.hok.fresh (Nat.le_succ _))⟩
  by_cases c:its.length<64
  .refine sorted_ints_rev (b:=true) M.isList hi c λj J a1 a2 F=>?_
   have F:J.Pairwise (·≥·):=F
   have e:J=l:=a2.eq_of_pairwise (λa b _ _ h1 P=>Int.le_antisymm P h1) F hd
   subst e;exact fin j a1
  .exact LR.fall_sorted M.isList hi hd (by lia) (by lia) (fin its.toArray (by simpa using hi))
end L2
namespace LV
open PySem L2
section
variable {K:Frag}{ρ:List Sl}
theorem cQ4 (m:E K false tl ρ (lI l))(j:l.Pairwise (·≥·)):EF K (tSR K tl) ρ (l.map .int):=λS B σ H o I Q q=>
 m S B σ H o I _ λv H1 z r=>by
  obtain⟨p,rfl,sq⟩:=bE0 r;exact⟨p,l,rfl,sq,j,λa w=>q a _ _ (L2.Same.tr z (D8 w)) (T2 z w) C5 (j5 (I.grow z).lists w (R5 l) (T4 l))⟩
theorem dE9 (h:LV.T K c ρ b)(h1:b=true->WT K t ρ R post)(j:b=false->WT K u ρ R post):WT K (cH6 c t u) ρ R post:=λS B D σ H o I s r=>
 h S B σ H o I _ λw z=>by
  cases b with
  | true=>rw[Ac rfl];exact h1 rfl S B D σ w o (I.grow z) s r
  | false=>rw[Ab Ah];exact j rfl S B D σ w o (I.grow z) s r
theorem cG3 (P:Nat->List Sl->Prop)(h0:∃k,P k ρ)
  (turn:∀k ρ',P k ρ'->∃b,T K c ρ' b/\if b=true then WT K tb ρ' {R with nx:=λρ2=>∃k',k'<k/\P k' ρ2,ct:=λρ2=>∃k',k'<k/\P k' ρ2,bk:=R.nx} post else R.nx ρ'):WT K (bS3 c tb) ρ R post:=λS B D σ H o I0 s r=>by
 obtain⟨k0,p0⟩:=h0;refine⟨λk Y U=>∃ρ' m,Env K S B U Y ρ' m/\P k ρ',⟨k0,ρ,o,I0,p0⟩,?_⟩
 rintro k Y U ⟨ρ',m,J,p⟩;obtain⟨b,hc,X⟩:=turn k ρ' p;refine hc S B Y U m J _ λH1 s1=>?_
 cases b with
 | true=>
  rw[Ac rfl]at X ⊢;refine⟨λσ2 F=>∃k',k'<k/\∃ρ2 o2,Env K S B F σ2 ρ2 o2/\P k' ρ2,λσ2 F ⟨k',j,z⟩=>⟨k',j,z⟩,?_⟩
  exact X S B _ Y H1 m (J.grow s1) ⟨λQ σ3 H3 N M ⟨k',j,w⟩=>⟨k',j,Q,N,M,w⟩,s.rt,s.rl,s.nx,λQ σ3 H3 N M ⟨k',j,w⟩=>⟨k',j,Q,N,M,w⟩⟩ r
 | false=>
  rw[Ab Ah]at X ⊢;exact s.nx _ Y H1 m (J.grow s1) X
theorem cI3:∀{ds:AF} {xs:List V} {L:AL},Dps K Z H xs (ds.map OT.leaf) L->L=[]/\Reps K Z xs ds
 | [],_,_,r=>by cases r;exact⟨rfl,.nil⟩
 | d::ds,_,_,r=>by
  cases r with
  | cons a b=>
   cases a with
   | leaf a=>
    obtain⟨rfl,b2⟩:=cI3 b;exact⟨rfl,.cons a b2⟩
theorem cQ2 (h:EFT K t ρ (.tup [.lst (ds.map OT.leaf),.leaf d])):EF K (tOp (rIx K) t (tC (.int 0))) ρ ds:=λS B σ H o I Q q=>
 h S B σ H o I _ λv L j m n nd w=>by
  cases w with
  | @tup a xs _ _ sq w=>
   cases w with
   | cons x y=>
    cases y with
    | cons y z=>
     cases z
     cases y with
     | leaf y=>
      cases x with
      | @lst p xs _ L1 e x=>
       obtain⟨rfl,x⟩:=cI3 x;refine .inr (.inl ⟨a,_,0,.ref p,rfl,rfl,sq,rfl,q p xs j m (n p (by simp)) e (x.mono (E2 (L2.Same.rf _) λb z _=>?_))⟩)
       exact z.imp id λz=>by simpa using z
theorem dA5 (h:WT K t ρ {R with nx:=λρ'=>WT K u ρ' R post} post):WT K (cZ9 t u) ρ R post:=λS B D σ H o I s r=>
 h S B {D with nx:=u D} σ H o I ⟨λρ' Y z m j w=>w S B D Y z m j s r,s.rt,s.rl,s.bk,s.ct⟩ r
theorem dM1 (hi:ρ[i]? = some (.own ds))(h:WT K t (ρ.set i (.val (.list ds))) R post):WT K t ρ R post:=λS B D σ H o I s r=>h S B D σ H o (I.frz hi (.inl ⟨rfl,rfl⟩)) s r
theorem cP6 (hi:ρ[i]? = some (.own (ds++[d])))(z:R.nx (ρ.set i (.own ds)))(nb:O0 ρ=true:=by rfl):W K (aZ1 (cY6 K "list" dB5 (C4 i))) ρ R:=λS B D σ H o I s=>by
 obtain⟨p,hp,a,xs,b,c⟩:=I.own i _ hi;obtain⟨y,h1,j⟩:=c.get' (i:=ds.length) (d:=d) (by simp)
 have w:=c.dropLast
 rw[List.dropLast_concat]at w;exact⟨_,a,.inl ⟨rfl,xs,SqL.of b⟩,_,xs,y,rfl,rfl,b,by rw[c.length];simpa using h1,s.nx _ _ _ _ (I.upd hi hp w (J4 nb)) z⟩
end
end LV
namespace L2
open PySem PySem.Spec PyProof.Rows
def Itv (K:Frag)(a:Addr)(n:Nat):It:=
 ⟨λi H=>∃xs x,SqL K H a xs/\xs.length=n/\i<n/\xs[n-1-i]? = some x,λi H x H'=>H'=H/\∀xs,SqL K H a xs->xs[n-1-i]? = some x,λi _=>n<=i⟩
theorem cP5 {P:Program}{w:World}{K:Frag}{tg:Expr}(a it:Addr)(n:Nat):bI2 P w K tg (Itv K a n) [it] it (λi h=>i<=n/\h.IsRevIter it a ((n:Int)-1-(i:Int))) where
 mem:=by simp
 obj:=λi h st b m=>by
  have e:b=it:=by simpa using m
  subst e;obtain⟨_,o,e,c,d⟩:=st;exact⟨o,e,λv z=>by rw[d]at z;cases z⟩
 keep:=λi h U st k=>⟨st.1,st.2.at λo e=>k it (by simp) o e⟩
 item:=by
  intro X F B D hc i aA s σ H E I J st M;subst F B D;obtain⟨xs,x,hq,hn,hi,hx⟩:=M;obtain⟨its,rv,p,hz⟩:=I.list hq;obtain⟨u,hu,ru⟩:=rv.get hx;obtain⟨N,f1,f2,f3,R,Q⟩:=J it (by simp)
  have j:=st.2
  rw[show(n:Int)-1-(i:Int)=((n-1-i:Nat):Int) by lia]at j
  refine wpAny_pyNext_rev_item j p.isList (x:=u) (by simpa using hu) λU Y sb=>?_
  have I1:Inv X aA σ H {s with heap:=U}:=I.turned (t':=s.toks) (λb o m e=>(sb.2 b m).trans e) N f1 f3 R Q
  obtain⟨o,e,c,d⟩:=id Y;exact⟨u,rfl,cA1 (s:={s with heap:=U}) e c d (by decide) ⟨x,H,I1,ru,⟨rfl,λys hy=>by rw[I.list_inj hy hq];exact hx⟩,⟨by lia,by rw[show(n:Int)-1-((i+1:Nat):Int)=((n-1-i:Nat):Int)-1 by lia];exact Y⟩,λb m=>(J b m).1⟩⟩
 done:=by
  intro X F B D hc i aA s σ H E I J st M;subst F B D;have M:n<=i:=M;obtain⟨N,f1,f2,f3,R,Q⟩:=J it (by simp)
  have j:=st.2
  have h1:=st.1
  rw[show(n:Int)-1-(i:Int) = -1 by lia]at j
  exact wpAny_pyNext_rev_end (I.ok.hd hc) j λU eb=>⟨rfl,I.turned (t':=s.toks) (λb o m e=>eb b o m e) N f1 f3 R Q⟩
 self:=λ_ _ _ _ _ st h=>wpAny_pyIter_revIter st.2 h
section
def dS7 (K:Frag)(tl:TE):TI:=λσ H R=>tl σ H λx H1=>∃a xs,x=.ref a/\SqL K H1 a xs/\R (Itv K a xs.length) H1
theorem dH8 (K:Frag){l:Expr}{tl:TE}{p pos:Pos}(M:Gl X "reversed")(Q:X.mg "reversed" = none)(N:PE X l tl)(U:X.K=K:=by rfl)(m:starEach [l] X.env=[(false,eval l X.env)]:=by rfl):PI X tg (.Call (.Name "reversed" p) [l] [] pos) (dS7 K tl):=by
 subst U;refine⟨?_⟩;intro Y s σ H R I h;refine wpAny_Call_Name_kw (V8 I M Q boot_reversed ?_);refine Az ?_ (by rw[m];rfl) rfl
 rw[m];show wpAny _ _ (spliced [(false,eval l X.env)]) _ _ s;refine Calls.spliced_cons (thn (N Y s σ H _ I h) λu j pz=>?_)
 obtain⟨x,H1,z,B,a,xs,e1,D,q⟩:=pz;subst e1;cases B;refine Calls.spliced_nil ?_;obtain⟨its,P,F,hz⟩:=z.list D;have w:=P.length;refine call_reversed_list F.isList ?_;refine wpAny_pyIter_revIter (l:=a) (i:=(its.toArray.size:Int)-1) ⟨_,Ac3 _ rfl,rfl,rfl⟩ ?_;refine⟨j.heap.objs.size,[j.heap.objs.size],_,_,H1,rfl,z.kept (t':=j.toks) λb o e=>Aa6 _ e,cP5 a _ xs.length,⟨Ci _,_,Ac3 _ rfl,rfl,?_⟩,λb J=>?_,q⟩
 .show(revObj a ((its.toArray.size:Int)-1)).data=_
  rw[Ab2,<- w];show Data.fields #[.ref a,rawInt ((xs.length:Int)-1)]=.fields #[.ref a,rawInt ((xs.length:Int)-1-((0:Nat):Int))];rw[Int.natCast_zero,Int.sub_zero]
 .have e:b=j.heap.objs.size:=by simpa using J
  subst e;exact z.fpOk (Aa7 _) (z.hok.fresh (Aa7 _))
end
end L2
namespace LV
open PySem PySem.Spec PyProof.Rows L2
section
variable {K:Frag}{ρ:List Sl}{m:Bool}{t u:TE}{d:PyData}{ds:AF}
theorem dO4 (s:SqL K Z a xs)(r:Reps K Z xs ds):Wk K Z (Itv K a xs.length) ds.reverse where
 stop:=λi H h l=>by show xs.length<=i;rw[r.length,<- Ae1];exact l
 go:=λi H d h e=>by
  have hi:=(Ab0.mp e).1
  rw[Ae1,<- r.length]at hi;have Y:xs[xs.length-1-i]? = some xs[xs.length-1-i]:=Aa2 (by lia)
  exact⟨xs,_,H9 h s,rfl,hi,Y⟩
 yld:=λi H d x X h e y=>by
  obtain⟨rfl,y⟩:=y
  have:=y xs (H9 h s)
  obtain⟨U,h1,w⟩:=r.get this;have hi:=(Ab0.mp e).1;rw[Ae1]at hi;rw[List.getElem?_reverse hi,<- r.length,h1]at e;cases e;refine⟨L2.Same.rf _,λS j=>w.mono λb o q=>hid_some.mpr ⟨λz=>?_,h b o q⟩⟩
  rw[(j b z).1]at q;cases q
theorem dT5 (h:E K m t ρ (.list ds)):I K m (dS7 K t) ρ ds.reverse:=λS B σ H o J R q=>h S B σ H o J _ λv H1 w r=>by
 cases r with
 | lst s r=>exact⟨_,_,rfl,H9 z6 s,q _ H1 w (dO4 s r)⟩
end
end LV
set_option maxHeartbeats 1000000
namespace K39
open PySem L2 LV PyProof.Rows
theorem sc_turned_to_end:C2 ["drawing", "arrows", "left", "row", "here", "such"] ["drawing", "arrows", "left"] (B3 W1):={}
theorem Y1:C2 ["drawing", "one", "other", "down", "up"] ["drawing", "one", "other"] (B3 i7):={}
theorem dV2 {r:Nat->AC}{s:Bool}{A e:Nat->Nat->Prop}(h:TT.Rd r s 0 A e):A=e:=by cases h;rfl
def lv:Bool->Int
 | true=>1
 | false=>0
def Fs (m:Nat)(dr:AA)(s:Bool)(ps:List (Int×Int)):AB:=(M3 (rgL ps)).filter (gS m dr s)
def tnv (ps:List (Int×Int))(v:AD):List (Int×Int):=sp (tw ps (wys (v.getD 0 0) (v.getD 1 0) (v.getD 2 0)))
def rw1 (m:Nat)(dr:AA)(s:Bool):Nat->List (Int×Int)->AB×List (Int×Int)
 | 0,ps=>([],ps)
 | k+1,ps=>match Fs m dr s ps with
  | []=>([],ps)
  | v::_=>(v::(rw1 m dr s k (tnv ps v)).1,(rw1 m dr s k (tnv ps v)).2)
theorem cA4 (h:Fs m dr s ps=[]):∀k,rw1 m dr s k ps=([],ps)
 | 0=>rfl
 | k+1=>by unfold rw1;rw[h]
theorem bQ4 (h:Fs m dr s ps=v::F)(k:Nat):rw1 m dr s (k+1) ps=(v::(rw1 m dr s k (tnv ps v)).1,(rw1 m dr s k (tnv ps v)).2):=by
 rw[rw1];rw[h]
def cs:AB->AB->AB×AB
 | x::a,y::b=>if x=y then cs a b else(x::a,y::b)
 | a,b=>(a,b)
theorem dJ3:∀{A B:AB},(∀x a y b,A=x::a->B=y::b->x≠y)->cs A B=(A,B)
 | [],B,_=>by cases B <;> rfl
 | _::_,[],_=>rfl
 | x::a,y::b,h=>by rw[cs,Ab (h x a y b rfl rfl)]
def sw3:AD->AD
 | [a,b,c]=>[a,c,b]
 | l=>l
def bG0 (m:Nat)(dr:AA)(one two:List (Int×Int)):AB:=
 (cs (rw1 m dr true 225 one).1.reverse (rw1 m dr true 225 two).1.reverse).1.reverse++((cs (rw1 m dr true 225 one).1.reverse (rw1 m dr true 225 two).1.reverse).2).map sw3
abbrev Stp:=Nat×Nat×Nat×Bool
def tri (v:Stp):AD:=[(v.1:Int),(v.2.1:Int),(v.2.2.1:Int)]
def fl3 (v:Stp):Stp:=(v.1,v.2.2.1,v.2.1,!v.2.2.2)
def Wlk (dr:AA):List Stp->List (Int×Int)->List (Int×Int)->Prop
 | [],ps,qs=>ps=qs
 | v::L,ps,qs=>TT.Rn (pA ps) v.1 v.2.1 v.2.2.1/\v.1<v.2.1/\v.1<v.2.2.1/\TT.Si (TT.trn dr) v.2.2.2 v.1 v.2.1 v.2.2.1/\Wlk dr L (sp (tw ps (wys v.1 v.2.1 v.2.2.1))) qs
section
variable {m:Nat}{dr tr:AA}{ps qs one two es:List (Int×Int)}{s:Bool}
theorem wlk_app:∀{L L':List Stp} {ps qs:List (Int×Int)},Wlk dr (L++L') ps qs↔∃rs,Wlk dr L ps rs/\Wlk dr L' rs qs
 | [],L',ps,qs=>⟨λh=>⟨ps,rfl,h⟩,λ⟨rs,h1,h2⟩=>by rw[show ps=rs from h1];exact h2⟩
 | v::L,L',ps,qs=>by
  constructor
  .rintro⟨a,b,c,d,e⟩;obtain⟨rs,h1,h2⟩:=wlk_app.mp e;exact⟨rs,⟨a,b,c,d,h1⟩,h2⟩
  .rintro⟨rs,⟨a,b,c,d,h1⟩,h2⟩;exact⟨a,b,c,d,wlk_app.mpr ⟨rs,h1,h2⟩⟩
theorem Wlk.ar (w:Dw m dr tr):∀{L:List Stp} {ps:List (Int×Int)},Ar m dr ps->Wlk dr L ps qs->Ar m dr qs
 | [],ps,ar,h=>by rw[<- show ps=qs from h];exact ar
 | v::L,ps,ar,⟨a,_,_,_,e⟩=>Wlk.ar w (ar.turn w a) e
theorem Wlk.rev (w:Dw m dr tr):∀{L:List Stp} {ps:List (Int×Int)},Ar m dr ps->Wlk dr L ps qs->Wlk dr (L.reverse.map fl3) qs ps
 | [],ps,ar,h=>(show ps=qs from h).symm
 | v::L,ps,ar,⟨a,b,c,d,e⟩=>by
  rw[List.reverse_cons,Ad2];refine wlk_app.mpr ⟨_,Wlk.rev w (ar.turn w a) e,?_⟩;obtain⟨z,j,Y⟩:=ar.back w a;refine⟨z,c,b,?_,j⟩;refine((ar.turn w a).lf w z).mpr ?_;rw[Y,(ar.lf w a).mp d];rfl
theorem Fs_mem:v∈Fs m dr s ps↔v∈rgL ps/\gS m dr s v=true:=by unfold Fs;rw[Ap,(D1 _).mem_iff]
theorem bV4 (w:Dw m dr tr)(ar:Ar m dr ps)(h:v∈Fs m dr s ps):∃x y z:Nat,v=tri (x,y,z,s)/\TT.Rn (pA ps) x y z/\x<y/\x<z/\TT.Si (TT.trn dr) s x y z/\tnv ps v=sp (tw ps (wys x y z)):=by
 obtain⟨h1,X⟩:=Fs_mem.mp h;obtain⟨x,y,z,rfl,g,j,Y⟩:=ar.ring h1;exact⟨x,y,z,rfl,g,j,Y,(ar.lf w g).mpr (An X),rfl⟩
theorem dJ0 (w:Dw m dr tr)(ar:Ar m dr ps)(h:Fs m dr s ps=[]):TT.Rd (TT.trn dr) s 0 (pA ps) (pA ps):=
 .zero (ar.none w λx y z j Y=>by
  have:[(x:Int),(y:Int),(z:Int)]∈Fs m dr s ps:=Fs_mem.mpr ⟨j,As Y⟩
  rw[h]at this;cases this)
theorem aV9 (w:Dw m dr tr)(J:Ar m dr es):∀(k:Nat) {j:Nat} {ps:List (Int×Int)},Ar m dr ps->TT.Rd (TT.trn dr) s j (pA ps) (pA es)->j<=k ->
  ∃L:List Stp,(rw1 m dr s k ps).1=L.map tri/\(rw1 m dr s k ps).2=es/\Wlk dr L ps es/\(∀v∈L,v.2.2.2=s)/\L.length<=k:=λk=>by
 induction k with
 | zero=>
  intro j ps ar X hj;obtain rfl:j=0:=by lia
  have e:ps=es:=ar.eq J (dV2 X)
  exact⟨[],rfl,e,e,(λv U=>by cases U),Aa7 _⟩
 | succ k ih=>
  intro j ps ar X hj;cases h:Fs m dr s ps with
  | nil=>
   have e:ps=es:=ar.eq J (TT.Rd.uniq w.good w.rs ar.sv (dJ0 w ar h) X)
   rw[cA4 h];exact⟨[],rfl,e,e,(λv U=>by cases U),Ci _⟩
  | cons v F=>
   obtain⟨x,y,z,rfl,g,R,Q,M,N⟩:=bV4 w ar (show v∈Fs m dr s ps by rw[h];simp)
   obtain⟨j',rfl,Y⟩:=TT.Rd.strip w.good w.rs ar.sv X ⟨x,y,z,g,M,rfl⟩;rw[<- aF4]at Y;rw[bQ4 h,N];obtain⟨L,h1,D,B,P,h5⟩:=ih (ar.turn w g) Y (by lia)
   refine⟨(x,y,z,s)::L,by rw[h1];rfl,D,⟨g,R,Q,M,B⟩,λu hu=>?_,by simp;lia⟩
   rcases Aa1.mp hu with rfl | hu
   .rfl
   .exact P u hu
theorem cW3 (h:tri u=tri v)(w:u.2.2.2=v.2.2.2):u=v:=by
 unfold tri at h;simp only[Bj,and_true]at h;obtain⟨h1,z,j⟩:=h;exact Prod.ext (by lia) (Prod.ext (by lia) (Prod.ext (by lia) w))
theorem bX6 (w:Dw m dr tr)(Y:Ar m dr one)(X:Ar m dr two):∀{A B:List Stp} {e:List (Int×Int)},(∀v∈A,v.2.2.2=true)->(∀v∈B,v.2.2.2=true)->Wlk dr A.reverse one e->Wlk dr B.reverse two e ->
  ∃(A' B':List Stp) (e':List (Int×Int)),cs (A.map tri) (B.map tri)=(A'.map tri,B'.map tri)/\Wlk dr A'.reverse one e'/\Wlk dr B'.reverse two e'/\(∀v∈A',v.2.2.2=true)/\(∀v∈B',v.2.2.2=true)/\A'.length<=A.length/\B'.length<=B.length
 | [],B,e,hA,hB,h1,h2=>⟨[],B,e,by cases B <;> rfl,h1,h2,hA,hB,Aa7 _,Aa7 _⟩
 | a::A,[],e,hA,hB,h1,h2=>⟨a::A,[],e,rfl,h1,h2,hA,hB,Aa7 _,Aa7 _⟩
 | a::A,b::B,e,hA,hB,h1,h2=>by
  by_cases c:tri a=tri b
  .have z:a=b:=cW3 c ((hA a (by simp)).trans (hB b (by simp)).symm)
   subst z;rw[List.reverse_cons]at h1 h2;obtain⟨f,f1,f2⟩:=wlk_app.mp h1;obtain⟨g,M,D⟩:=wlk_app.mp h2;have N:=f1.ar w Y;have R:=M.ar w X;obtain⟨r1,_,_,_,e1⟩:=f2;obtain⟨r2,_,_,_,e2⟩:=D;have e1:sp (tw f (wys (a.1:Int) a.2.1 a.2.2.1))=e:=e1;have e2:sp (tw g (wys (a.1:Int) a.2.1 a.2.2.1))=e:=e2;have Q:f=g:=by
    have U:=(N.back w r1).2.1
    have J:=(R.back w r2).2.1
    rw[e1]at U;rw[e2]at J;rw[<- U,<- J]
   subst Q;obtain⟨A',B',e',F,P,q3,q4,q5,q6,q7⟩:=bX6 w Y X (λv j=>hA v (by simp[j])) (λv j=>hB v (by simp[j])) f1 M
   refine⟨A',B',e',?_,P,q3,q4,q5,by simp;lia,by simp;lia⟩
   rw[Ac7,Ac7,cs,Ac rfl];exact F
  .refine⟨a::A,b::B,e,?_,h1,h2,hA,hB,Aa7 _,Aa7 _⟩;rw[Ac7,Ac7,cs,Ab c]
theorem cQ5 (z:Dw m dr tr)(N:Ar m dr one)(j:Ar m dr two)(cn:Cn dr one two):∃L:List Stp,bG0 m dr one two=L.map tri/\Wlk dr L one two/\(L.map λv=>lv v.2.2.2).Pairwise (·≥·)/\L.length<=450:=by
 obtain⟨es,k,hk,Q,rd⟩:=N.ex z true;obtain⟨F,k2,P,D,J⟩:=j.ex z true;obtain⟨k3,rd3⟩:=cn true k _ rd;obtain rfl:F=es:=D.eq Q (TT.Rd.uniq z.good z.rs j.sv J rd3);obtain⟨L1,h1,_,h2,h3,h4⟩:=aV9 z Q 225 N rd hk;obtain⟨L2,g1,_,g2,g3,g4⟩:=aV9 z Q 225 j J P;obtain⟨A,B,e,q1,q2,M,q4,q5,q6,q7⟩:=bX6 z N j (A:=L1.reverse) (B:=L2.reverse) (λv Y=>h3 v (Bi.mp Y)) (λv Y=>g3 v (Bi.mp Y)) (by rw[List.reverse_reverse];exact h2) (by rw[List.reverse_reverse];exact g2)
 have M:=M.rev z j
 rw[List.reverse_reverse]at M;refine⟨A.reverse++B.map fl3,?_,wlk_app.mpr ⟨e,q2,M⟩,?_,?_⟩
 .unfold bG0;rw[h1,g1,<- List.map_reverse,<- List.map_reverse,q1,Ad2,<- List.map_reverse,Ae2,Ae2];rfl
 .rw[Ad2];refine List.pairwise_append.mpr ⟨?_,?_,λx X y U=>?_⟩
  .rw[Ae0];refine By (R:=λ_ _=>True) (λ{x y} X U _=>?_) (List.pairwise_of_forall λ_ _=>trivial)
   rw[q4 x (Bi.mp X),q4 y (Bi.mp U)];exact Int.le_refl _
  .rw[Ae2,Ae0];refine By (R:=λ_ _=>True) (λ{x y} X U _=>?_) (List.pairwise_of_forall λ_ _=>trivial)
   show lv (!x.2.2.2)≥lv (!y.2.2.2)
   rw[q5 x X,q5 y U];exact Int.le_refl _
  .obtain⟨u,hu,rfl⟩:=Aa8.mp X;rw[q4 u (Bi.mp hu)];obtain⟨v,Y,rfl⟩:=Aa8.mp U;obtain⟨w,hw,rfl⟩:=Aa8.mp Y;show lv true≥lv (!w.2.2.2);rw[q5 w hw];decide
 .rw[Ab7,Ae1,Aa3];rw[Ae1]at q6 q7
  lia
end
def fS3:PyData->Option PyData
 | .tuple [.int a,.int b,.int c]=>some (tI [a,c,b])
 | _=>none
theorem cC8:∀{U:AB},(∀v∈U,∃a b c:Int,v=[a,b,c])->(U.map tI).filterMap fS3=(U.map sw3).map tI
 | [],_=>rfl
 | v::U,h=>by
  obtain⟨a,b,c,rfl⟩:=h v (by simp)
  rw[Ac7,Bo,cC8 λv hv=>h v (by simp[hv])]
  rfl
def cF9 (ds:AF)(u:OT):Prop:=∃(m:Nat) (dr tr:AA) (ps:List (Int×Int)) (s:Bool),Dw m dr tr/\Ar m dr ps/\ds=[tD dr,.tuple (ps.map pD),.bool s]/\u=.tup [.lst (((rw1 m dr s 225 ps).1.map tI).map OT.leaf),.leaf (.tuple ((rw1 m dr s 225 ps).2.map pD))]
def cH2 (ds es:AF):Prop:=∃(m:Nat) (dr tr:AA) (one two:List (Int×Int)),Dw m dr tr/\Ar m dr one/\Ar m dr two/\Cn dr one two/\ds=[tD dr,.tuple (one.map pD),.tuple (two.map pD)]/\es=(bG0 m dr one two).map tI
section
variable {P:Program}{w:World}{K:Frag}{mg:Str->Option Value}{base:Heap}{a:Ad}
theorem dT9 (T:Tx K mg a):K3 P w K mg base CX0 8 a.y0 a.y2 ["drawing", "arrows", "left"] (spT K cF9):=by
 have M := @cE2 P w K mg base a T
 have N := @dR9 P w K mg base a T
 have J := @dR3 P w K mg base a T
 refine T.W2.F.ok sc_turned_to_end (dX3 (by rintro ds d ⟨_,_,_,_,_,_,_,rfl,_⟩;rfl)) (λcdv A outer s' H vs Q E hr h=>?_)
 obtain⟨ds,S,u,hS,r,⟨m,Y,tr,ps,s,R,B,rfl,rfl⟩,q⟩:=h;refine⟨_,(A6 (psS 3 sc_turned_to_end (D0 A5))
   (A6 (psS 4 sc_turned_to_end (pv 1))
   (B1 (U6 Aj (O5 V4) (A6 (l5 (i:=5) sc_turned_to_end.nd rfl rfl (T:=["ring"]) (N':=["ring", "drawing", "left"]) (is:=[0,2]) rfl (.of rfl rfl rfl (by exact⟨rfl,rfl,trivial⟩) rfl rfl rfl (by exact⟨⟨_,rfl,by first | exact .inl rfl | exact .inr rfl,by first | exact .inl rfl | exact .inr rfl⟩,⟨_,rfl,by first | exact .inl rfl | exact .inr rfl,by first | exact .inl rfl | exact .inr rfl⟩,trivial⟩)) (M4 (pcl N hr T.bX9 (A0 (pv 0) (A0 (pv 4) A5)))) (J0 (by decide)) λ_ _ _ _=>⟨(E9 (i:=0) (by decide +kernel:(["ring", "drawing", "left"]:AH).Nodup) rfl (Or.inl rfl)),(X5 (C0 (bF3 K hr) (pcl J hr T.bA7 (A0 (pv 1) (A0 (pv 0) A5))) (pv 2) (F6 _))),(pv 0)⟩)
   (A6 (M1 (C0 aP9 (B6 (aJ0 K) (by rfl) T.O3 Aw (A0 (pv 5) A5)) A7 (F6 _)) (B1 (C8 (D3 (A0 (pv 3) (A0 (pv 4) A5))))) E8)
   (A6 (E5 (K0 Ab1 Ag Af D2 (pv 3) (A0 (B5 (ixK K) (pv 5) A7 (λ_ _=>rfl)) A5)))
   (B1 (psS 4 sc_turned_to_end (pcl M hr T.bP0 (A0 (pv 0) (A0 (pv 4) (A0 (B5 (ixK K) (pv 5) A7 (λ_ _=>rfl)) A5))))))))))))),dH0 hS r ?_ q⟩
 have m7:=R.m7
 have hdl:=R.len
 obtain⟨es,k0,hk0,ae,rd0⟩:=B.ex R s;refine bG7 (E4 (ds:=[]) (F4 A8) ?_ (show 3<6 by decide))
 refine bG7 (F3 (d:=.tuple (ps.map pD)) v1 ?_);refine cG3 (λk ρ=>∃(U:List (Int×Int)) (L:AB) (j:Nat) (x5:Sl),Ar m Y U/\TT.Rd (TT.trn Y) s j (pA U) (pA es)/\j<=k/\L.length+k<=225/\L++(rw1 m Y s k U).1=(rw1 m Y s 225 ps).1/\(rw1 m Y s k U).2=(rw1 m Y s 225 ps).2/\ρ=[vD Y,.val (.tuple (ps.map pD)),.val (.bool s),.own (L.map tI),.val (.tuple (U.map pD)),x5]) ⟨225,ps,[],k0,.no,B,rd0,hk0,Aa7 _,rfl,rfl,rfl⟩ ?_
 rintro k _ ⟨U,L,j,x5,ar,rd,hjk,hLk,e1,e2,rfl⟩;refine⟨true,t_b aX9,?_⟩;rw[Ac rfl];have hl:=ar.ai.len;have hL:(M3 (rgL U)).length<64:=by rw[(D1 _).length_eq];exact aS9 ar.ai
 have cm:=J7 (K:=K) (m:=true) (ρ:=[vD Y,.val (.tuple (ps.map pD)),.val (.bool s),.own (L.map tI),.val (.tuple (U.map pD)),x5]) (n:=1) (is:=[0,2]) (g:=F5 0) (tt:=aD8 (tOp (bS9 K false) (Y7 (spV K cH7) [] E0 (C9 (C4 1) (C9 (C4 0) O1))) (C4 2))) (te:=C4 0) (fSd m Y s) (P6 (ds:=(M3 (rgL U)).map tI) (EF.e' (J5 (pre:=dE1) (X:=E0) (A4 v0 (A4 v4 A8)) ⟨Y,U,ar.ai,by lia,rfl,rfl⟩))) (by rw[Aa3];unfold sizeLine;lia) (λd hd=>by
   obtain⟨v,hv,rfl⟩:=Aa8.mp hd;obtain⟨x,y,z,rfl,g,_,_⟩:=ar.ring ((D1 _).mem_iff.mp hv);refine⟨_,B4,?_⟩;have e:=bZ9 (K:=K) (m:=false) (ρ:=(slC [vD Y,.val (.tuple (ps.map pD)),.val (.bool s),.own (L.map tI),.val (.tuple (U.map pD)),x5] 1 [0,2]).set 0 (.val (tI [(x:Int),y,z]))) (D7 (m:=false) (pre:=cH7) (X:=E0) (A4 v1 (A4 v0 A8)) ⟨m,Y,tr,x,y,z,R,ar.tri g,rfl,rfl⟩) (A9 (i:=2) (d:=.bool s) rfl) (dD9 _) (dD9 _);rw[dM8]at e;show match (if gS m Y s [(x:Int),y,z] then some (tI [(x:Int),y,z]) else none) with | none=>_ | some y=>_
   have eg:gS m Y s [(x:Int),y,z]=decide (decide (cL (TT.lnd (TT.trn Y) x y)∈bA1 m Y x y z)=s):=rfl
   cases h:gS m Y s [(x:Int),y,z] with
   | true=>rw[<- eg,h]at e;exact⟨C3 e,A9 rfl⟩
   | false=>rw[<- eg,h]at e;exact C3 e)
 rw[cC1 m Y s _ λv hv=>cM5 v ((D1 _).mem_iff.mp hv)]at cm
 have hF:(M3 (rgL U)).filter (gS m Y s)=Fs m Y s U:=rfl
 rw[hF]at cm;have hFl:(Fs m Y s U).length<64:=by rw[<- hF];exact Nat.lt_of_le_of_lt (List.length_filter_le _ _) hL
 refine bG7 (E4 cm ?_ (show 5<6 by decide))
 refine dM1 (i:=5) rfl (dA5 ?_);show WT K _ [vD Y,.val (.tuple (ps.map pD)),.val (.bool s),.own (L.map tI),.val (.tuple (U.map pD)),.val (.list ((Fs m Y s U).map tI))] _ _;cases D:Fs m Y s U with
 | nil=>
  refine dE9 (b:=true) (C3 (j4 (P4 (ds:=[]) (A4 v5 A8)) (B0 (i:=0)))) (λ_=>?_) (λh=>by cases h)
  refine cX2 (i:=3) rfl v4 ?_;rw[cA4 D]at e1 e2;rw[<- e1,<- e2,Bq]
 | cons v F=>
  rw[D]at hFl;have ht:=C3 (j4 (K:=K) (m:=false) (ρ:=[vD Y,.val (.tuple (ps.map pD)),.val (.bool s),.own (L.map tI),.val (.tuple (U.map pD)),.val (.list ((v::F).map tI))]) (P4 (ds:=(v::F).map tI) (A4 v5 A8)) (B0 (i:=0)));rw[show decide ((((v::F).map tI).length:Int)=0)=false from Ak (by rw[Aa3,Ay];lia)]at ht
  refine dE9 (b:=false) ht (λh=>by cases h) (λ_=>dP5 (F9 ?_))
  obtain⟨x,y,z,rfl,g,g1,g2,hs,et⟩:=bV4 R ar (show v∈Fs m Y s U by rw[D];simp)
  obtain⟨j',rfl,rd'⟩:=TT.Rd.strip R.good R.rs ar.sv rd ⟨x,y,z,g,hs,rfl⟩;rw[<- aF4]at rd';obtain⟨k',rfl⟩:∃k',k=k'+1:=⟨k-1,by lia⟩
  rw[bQ4 D,et]at e1 e2;refine bG7 (G8 (d:=tI (tri (x,y,z,s))) rfl (LV.E.imm (E7 (m:=true) (ds:=(tri (x,y,z,s)::F).map tI) v5 (B0 (i:=0)) rfl (U1 0 rfl rfl))) ?_ ?_)
  .rw[Aa3];unfold sizeLine;lia
  refine dP5 (F3 (d:=.tuple ((sp (tw U (wys (x:Int) y z))).map pD)) (D7 (pre:=dF9) (X:=E0) (A4 v0 (A4 v4 (A4 (LV.E.imm (E7 (m:=true) (ds:=(tri (x,y,z,s)::F).map tI) (d':=tI [(x:Int),y,z]) v5 (B0 (i:=0)) rfl (U1 0 rfl rfl))) A8))) ⟨m,Y,tr,U,x,y,z,R,ar.tri g,by lia,rfl,Rn.ws g,rfl⟩) ⟨k',by lia,sp (tw U (wys (x:Int) y z)),L++[tri (x,y,z,s)],j',.val (.list ((tri (x,y,z,s)::F).map tI)),ar.turn R g,rd',by lia,by simp;lia,?_,e2,?_⟩)
  .rw[Ad7];exact e1
  .rw[Ad2];rfl
theorem dP7 (T:Tx K mg a):K3 P w K mg base CX0 9 a.aF1 a.aE8 ["drawing", "one", "other"] (spL K cH2):=by
 have Y := @dT9 P w K mg base a T
 refine T.P8.F.ok Y1 (aR3 (by rintro ds d ⟨_,_,_,_,_,_,_,_,_,rfl,_⟩;rfl)) (λcdv A outer s' H vs Q E hr h=>?_)
 obtain⟨ds,S,es',hS,r,⟨m,J,tr,one,two,B,a1,a2,cn,rfl,rfl⟩,q⟩:=h;refine⟨_,(A6 (psS 3 Y1 (B5 (ixK K) (pcl Y hr T.W2 (A0 (pv 0) (A0 (pv 1) (A0 V4 A5)))) A7 (λ_ _=>rfl)))
   (A6 (psS 4 Y1 (B5 (ixK K) (pcl Y hr T.W2 (A0 (pv 0) (A0 (pv 2) (A0 V4 A5)))) A7 (λ_ _=>rfl)))
   (A6 (U6 Aj (PW.pt (o7 (C0 y4 (B6 (aJ0 K) (by rfl) T.O3 Aw (A0 (pv 3) A5)) A7 (F6 _)) (o7 (C0 y4 (B6 (aJ0 K) (by rfl) T.O3 Aw (A0 (pv 4) A5)) A7 (F6 _)) (aL6 (C0 (bF3 K hr) (B5 (ixK K) (pv 3) (aF3 e5 A7) (λ_ _=>rfl)) (B5 (ixK K) (pv 4) (aF3 e5 A7) (λ_ _=>rfl)) (F6 _)))))) (A6 (E5 (aF6 Ab1 PySem.F.slot_list_pop PySem.F.type_list_pop aH1 (pv 3)))
   (B1 (E5 (aF6 Ab1 PySem.F.slot_list_pop PySem.F.type_list_pop aH1 (pv 4))))))
   (B1 (C8 (B7 (L5 K) (pv 3) (N2 (T:=["a", "b", "c"]) (N':=["a", "b", "c"]) (is:=[]) rfl (.of rfl rfl rfl (by exact trivial) rfl rfl rfl (by exact trivial)) (dH8 K rfl T.Z1 (pv 4)) (dW2 (by decide) (by decide) (by decide)) λ_ _ _ _=>⟨(T6 (n:=3) rfl (D5 (E9 (i:=0) (by decide +kernel:(["a", "b", "c"]:AH).Nodup) rfl (Or.inl rfl)) (D5 (E9 (i:=1) (by decide +kernel:(["a", "b", "c"]:AH).Nodup) rfl (Or.inl rfl)) (D5 (E9 (i:=2) (by decide +kernel:(["a", "b", "c"]:AH).Nodup) rfl (Or.inl rfl)) P3)))),N7,(D3 (A0 (pv 0) (A0 (pv 2) (A0 (pv 1) A5))))⟩))))))),W0 hS r ?_ q⟩
 have sz:∀{ps:List (Int×Int)},Ar m J ps->(rw1 m J true 225 ps).1.length<=225/\∀v∈(rw1 m J true 225 ps).1,∃a b c:Int,v=[a,b,c]:=λ{ps} ar=>by
  obtain⟨es,k,hk,ae,rd⟩:=ar.ex B true;obtain⟨L,h1,_,_,_,h4⟩:=aV9 B ae 225 ar rd hk;rw[h1];refine⟨by rw[Aa3];exact h4,λv M=>?_⟩
  obtain⟨u,_,rfl⟩:=Aa8.mp M;exact⟨_,_,_,rfl⟩
 refine B2 (E4 (ds:=(rw1 m J true 225 one).1.map tI) (cQ2 (bO5 (pre:=cF9) (X:=E0) (A4 v0 (A4 v1 (A4 aX9 A8))) ⟨m,J,tr,one,true,B,a1,rfl,rfl⟩)) ?_ (show 3<5 by decide))
 refine B2 (E4 (ds:=(rw1 m J true 225 two).1.map tI) (cQ2 (bO5 (pre:=cF9) (X:=E0) (A4 v0 (A4 v2 (A4 aX9 A8))) ⟨m,J,tr,two,true,B,a2,rfl,rfl⟩)) ?_ (show 4<5 by decide))
 obtain⟨z1,_⟩:=sz a1;obtain⟨z2,z3⟩:=sz a2;unfold bG0;generalize (rw1 m J true 225 one).1=d0 at *;generalize (rw1 m J true 225 two).1=u0 at *;refine B2 (p8 (λk ρ=>∃D U:AB,D.length=k/\D.length<=225/\U.length<=225/\(∀v∈U,∃a b c:Int,v=[a,b,c])/\cs D.reverse U.reverse=cs d0.reverse u0.reverse/\ρ=[vD J,.val (.tuple (one.map pD)),.val (.tuple (two.map pD)),.own (D.map tI),.own (U.map tI)]) ⟨_,d0,u0,rfl,z1,z2,z3,rfl,rfl⟩ ?_)
 rintro k _ ⟨D,U,hk,l1,l2,l3,hc,rfl⟩;have lst:∀(l:AB),0<l.length->∃l' x,l=l'++[x]/\l.getLastD []=x:=λl hl=>by
  rcases l.eq_nil_or_concat with rfl | ⟨l',x,rfl⟩
  .simp at hl
  .exact⟨l',x,List.concat_eq_append,by simp⟩
 refine⟨decide (((D.map tI).length:Int)>0)&&(decide (((U.map tI).length:Int)>0)&&decide (D.getLastD []=U.getLastD [])),?_,?_⟩
 .refine z5 (C3 (aD2 (g:=λi j=>decide (i>j)) (P4 (ds:=D.map tI) (A4 (F2 (i:=3) rfl) A8)) (B0 (i:=0)))) λh1=>z5 (C3 (aD2 (g:=λi j=>decide (i>j)) (P4 (ds:=U.map tI) (A4 (F2 (i:=4) rfl) A8)) (B0 (i:=0)))) λh2=>?_
  have h1:=An h1
  have h2:=An h2
  rw[Aa3]at h1 h2;obtain⟨N,x,eD,lD⟩:=lst D (by lia)
  obtain⟨R,y,eU,lU⟩:=lst U (by lia)
  have e:=bZ9 (K:=K) (m:=false) (ρ:=[vD J,.val (.tuple (one.map pD)),.val (.tuple (two.map pD)),.own (D.map tI),.own (U.map tI)]) (E7 (m:=false) (ds:=D.map tI) (d':=tI x) (F2 (i:=3) rfl) (aE2 (B0 (i:=1))) rfl (by rw[eD,Ad2];exact r9)) (E7 (m:=false) (ds:=U.map tI) (d':=tI y) (F2 (i:=4) rfl) (aE2 (B0 (i:=1))) rfl (by rw[eU,Ad2];exact r9)) (S4 _).fit (S4 _).fit
  rw[o4]at e;rw[lD,lU];exact C3 e
 cases hB:decide (((D.map tI).length:Int)>0)&&(decide (((U.map tI).length:Int)>0)&&decide (D.getLastD []=U.getLastD [])) with
 | true=>
  simp only[Aq,Am,Aa3]at hB;obtain⟨h1,h2,h3⟩:=hB;obtain⟨N,x,rfl,lD⟩:=lst D (by lia)
  obtain⟨R,y,rfl,lU⟩:=lst U (by lia)
  rw[lD,lU]at h3;subst h3;rw[Ac rfl];simp only[Ad2,Ac7,Cj];refine B2 (cP6 (i:=3) (ds:=N.map tI) (d:=tI x) rfl ?_);refine cP6 (i:=4) (ds:=R.map tI) (d:=tI x) rfl ⟨N.length,by rw[<- hk];simp,N,R,rfl,by simp at l1;lia,by simp at l2;lia,λv M=>l3 v (by simp[M]),?_,rfl⟩
  rw[<- hc,List.reverse_append,List.reverse_append];show _=cs (x::N.reverse) (x::R.reverse);rw[cs,Ac rfl]
 | false=>
  rw[Ab Ah];have he:cs D.reverse U.reverse=(D.reverse,U.reverse):=dJ3 λx a y b e1 e2 e=>by
   have d1:D=a.reverse++[x]:=by rw[<- List.reverse_reverse (as:=D),e1,List.reverse_cons]
   have d2:U=b.reverse++[y]:=by rw[<- List.reverse_reverse (as:=U),e2,List.reverse_cons]
   rw[d1,d2,e]at hB;simp at hB
  rw[<- hc,he];have cm:=J7 (K:=K) (m:=false) (ρ:=[vD J,.val (.tuple (one.map pD)),.val (.tuple (two.map pD)),.own (D.map tI),.own (U.map tI)]) (n:=3) (is:=[]) (g:=bJ6 K 3 (T0 (F5 0) (T0 (F5 1) (T0 (F5 2) aY4)))) (tt:=aM1) (te:=aL8 (C9 (C4 0) (C9 (C4 2) (C9 (C4 1) O1)))) fS3 (dT5 (ds:=U.map tI) (F2 (i:=4) rfl)) (by rw[Ae1,Aa3];unfold sizeLine;lia) (λd hd=>by
   rw[Bi]at hd;obtain⟨v,M,rfl⟩:=Aa8.mp hd;obtain⟨x,y,z,rfl⟩:=l3 v M;exact⟨_,k7 (ds:=[.int x,.int y,.int z]) (E6 B4 (E6 B4 (E6 B4 T7))),y9,G1 (A4 (LV.E.imm (y6 (i:=0) rfl)) (A4 (LV.E.imm (y6 (i:=2) rfl)) (A4 (LV.E.imm (y6 (i:=1) rfl)) A8)))⟩)
  rw[<- List.map_reverse,cC8 λv M=>l3 v (Bi.mp M)]at cm
  refine u4 (aG9 (F2 (i:=3) rfl) (EF.e' cm) (U9 aN7 _) (U9 aN7 _) (by simp only[Aa3,Ae1];unfold sizeLine;lia)) ?_
  show _=(D.reverse.reverse++U.reverse.map sw3).map tI
  rw[List.reverse_reverse,Ad2]
end
end K39
namespace LH
open PySem PySem.SetTable
end LH
namespace L2
open PySem PySem.Spec PyProof.Rows
end L2
namespace LH
open PySem PySem.SetTable
end LH
namespace L2
open PySem PySem.Spec PyProof.Rows
end L2
namespace LH
open PySem PySem.SetTable
end LH
namespace L2
open PySem PySem.Spec PyProof.Rows
end L2
namespace LH
open PySem
end LH
namespace L2
open PySem PySem.Spec PyProof.Rows
end L2
namespace LV
open PySem PySem.Spec PyProof.Rows L2
end LV
namespace L2
open PySem PySem.Spec PyProof.Rows
open PySem.Calls
end L2
namespace LV
open PySem L2 PyProof.Rows
end LV
namespace L2
open PySem PySem.Spec PyProof.Rows
section
variable {prog:Program}{w:World}{A:Around}{E:Ec}
theorem bT9 (B:s.TypeIs (.ref a) "list")(Y:IsTup s.heap tp cs.toArray)(D:AnswersAll (λs=>s.TypeIs (.ref a) "list") (.ref a) cs vs)
  (J:∀tk',Q (.done (.ret (.bool (vs.any id)))) {s with toks:=tk'}):wpAny (model prog w) A (Builtin.«isinstance.nested» ⟨[.ref a,.ref tp,.int 0 tk],[]⟩) Q E s:=by
 obtain⟨o,N,X⟩:=B;obtain⟨h,g,d,t,os⟩:=s;obtain⟨ot,ht,j,n,m⟩:=Y;have R:(⟨h,g,d,t,os⟩:Shared).TypeIs (.ref tp) "tuple" := ⟨_,ht,j⟩;have f1:=F.isi_sub_tuple;have U:(Value.type "list" == Value.ref tp)=false:=by rfl
 repeat (any_goals (first | assumption | (with_reducible refine wpAny_loadPart_at N ?_;rw[X]) | wp_step))
 rw[m];refine Ae ?_;refine Aa ?_;simp only[Option.getD_some];rw[<- Array.forIn_toList,List.toList_toArray];refine isinstance_items (dep:=0) (P:=λs=>s.TypeIs (.ref a) "list") (λs tk z=>z) cs vs _ _ D ⟨o,N,X⟩ λtk'=>?_
 cases M:vs.any id with
 | true=>
  simp only[if_true]
  repeat (any_goals (first | assumption | wp_step))
  exact M▸J tk'
 | false=>
  simp only[Dj,if_false]
  repeat (any_goals (first | assumption | wp_step))
  exact M▸J tk'
end
section
def dB8 (K:Frag)(xs:List V)(H:Hp)(Q:VK):Prop:=∃a p ys,xs=[.ref a,.ref p]/\SqL K H a ys/\SqT K H p [.ty "list",.ty "tuple"]/\Q (.bl true) H
theorem cF3 (K:Frag)(N:X.K=K:=by rfl):V2 X (.builtin "isinstance") (dB8 K):=by
 subst N;intro aA s σ H xs us Q I r h;obtain⟨a,p,ys,rfl,D,hp,q⟩:=h;obtain⟨Y,_,F,_⟩:=I.list D;obtain⟨its,rv,tp,_⟩:=I.tuple hp;cases r with
 | cons B P=>
  cases P with
  | cons r3 r4=>
   cases r4;cases B;cases r3
   have m:s.TypeIs (.ref a) "list" := by obtain⟨o,e,c,_⟩:=F.isList;exact⟨o,e,c⟩
   have hi:its=[.type "list",.type "tuple"]:=by
    cases rv with
    | cons h1 U=>cases U with | cons J M=>cases M;cases h1;cases J;rfl
   subst hi;have z:AnswersAll (λs=>s.TypeIs (.ref a) "list") (.ref a) [.type "list",.type "tuple"] [true,false]:=
    ⟨Answers.of_true (by kernel_rfl) (by rw[Ao];kernel_rfl),Answers.of_false_list (by decide) (by kernel_rfl) (by rw[Ao];kernel_rfl),trivial⟩
   exact Be (S:=λ_ R s=>(s.TypeIs (.ref a) "list" /\ IsTup s.heap p [Value.type "list",Value.type "tuple"].toArray)/\∀w,R (.ok (.ret (.bool true))) {s with toks:=w}) (λ_ _ _ _ _ j=>isinstance_outer (bT9 j.1.1 j.1.2 z λw=>j.2 w) (by intro q;cases q)) ⟨⟨m,tp⟩,λw=>⟨.bl true,H,I.tok _,rfl,q⟩⟩
end
end L2
namespace LV
open PySem L2 PyProof.Rows
section
variable {K:Frag}{ρ:List Sl}{m:Bool}{ta:TE}{ds:AF}{P:Program}{w:World}
theorem dL5 (z:E K false ta ρ (.list ds)):E K m (tCB (dB8 K) (C9 ta (C9 (aL8 (C9 (tC (.ty "list")) (C9 (tC (.ty "tuple")) O1))) O1))) ρ (.bool true):=E.bor (E.imm (m:=false) λS B σ H o I Q q=>z S B σ H o I _ λv H1 j r=>by
 cases r with
 | @lst a xs _ sq rr=>
  have sq:SqL K H1 a xs:=sq
  refine⟨by show 2<=sizeLine;decide,λp hp=>?_⟩
  have g:=D8 (o:=.tup [.ty "list",.ty "tuple"]) hp
  exact⟨a,p,xs,rfl,H9 g sq,SqT.of C5,q _ _ (L2.Same.tr j g) (.bl _)⟩)
end
end LV
set_option maxHeartbeats 1000000
namespace K39
open PySem L2 LV PyProof.Rows
theorem aZ2:C2 ["_law_found"] ["_law_found"] (B3 p4):={}
theorem w6:C2 ["_law_found", "_law_many", "_law_row"] ["_law_found", "_law_many"] (B3 X6):={}
def dB9 (ds:AF)(d:PyData):Prop:=∃(L:AB) (n:Nat),L.length<=1000/\n<=100/\(∀l∈L,l.length=n)/\ds=[.list (L.map tI),.int (n:Int)]/\d=.bool true
theorem dI7 (l:AD):PyData.eqv (.list (l.map PyData.int)) (.list (l.map PyData.int))=true:=by
 have:PyData.eqv (.list (l.map PyData.int)) (.list (l.map PyData.int))=PyData.eqvAll (l.map PyData.int) (l.map PyData.int):=by rw[PyData.eqv]
 rw[this,Y9 (f:=PyData.int) (λa b=>rfl)]
 exact As rfl
theorem cP9 (l:AD):Fit (.list (l.map PyData.int)):=(aC2 (n:=0) (bN5 l)).fit
theorem dM3 (ps w:List (Int×Int)):PyData.eqv (.tuple (ps.map pD)) (.tuple (w.map pD))=decide (ps=w):=by
 rw[PyData.eqv];exact Y9 cH8 ps w
theorem G7:C2 ["_law_drawing", "_law_one", "_law_other", "_law_found", "_law_arrows_here", "_law_lifts", "_law_a", "_law_b", "_law_c", "_law_there"] ["_law_drawing", "_law_one", "_law_other", "_law_found"] (B3 e6):={}
def cR8 (ds:AF)(d:PyData):Prop:=∃(m:Nat) (dr tr:AA) (one two:List (Int×Int)) (L:List Stp),Dw m dr tr/\Ar m dr one/\Wlk dr L one two/\(L.map λv=>lv v.2.2.2).Pairwise (·≥·)/\L.length<=450/\ds=[tD dr,.tuple (one.map pD),.tuple (two.map pD),.list ((L.map tri).map tI)]/\d=.bool true
theorem dO0 (z:Dw m dr tr)(U:TT.Po (TT.trn dr) u v H)(w:∀p q,H p q=0\/H p q=sg s)(h1:sg s∈(R9 m dr).map (hI H))(j:0∈(R9 m dr).map (hI H)):lv s∈(R9 m dr).map (hI H)/\∀a∈(R9 m dr).map (hI H),a<=lv s:=by
 refine⟨by cases s;exact j;exact h1,λa Y=>?_⟩
 obtain⟨t,X,rfl⟩:=Aa8.mp Y;obtain⟨p,q,_,_,e⟩:=aY1 z U X
 have:=w p q
 rw[e]
 revert this
 unfold sg lv;cases s <;> simp <;> lia
section
variable {P:Program}{w:World}{K:Frag}{mg:Str->Option Value}{base:Heap}{a:Ad}
theorem cP0 (T:Tx K mg a):K3 P w K mg base CX0 1 a.aI5 a.aH6 ["_law_found"] (spV K bO4):=by
 refine T.aN1.F.ok aZ2 (W3 (by rintro ds d ⟨_,rfl,_⟩;rfl)) (λj A z s H vs Q E Y h=>?_)
 obtain⟨ds,S,d,m,r,⟨i,rfl,rfl⟩,q⟩:=h;refine⟨_,(B1 (C8 (bS8 (B6 (dA6 K) (by rfl) T.N4 boot_isinstance (A0 (pv 0) (A0 (bC1 rfl T.bN8 boot_int) A5))) (bS6 (dI9 (B6 (dA6 K) (by rfl) T.N4 boot_isinstance (A0 (pv 0) (A0 (bC1 rfl T.bU7 boot_bool) A5)))))))),K7 m r ?_ q⟩
 exact L6 (cJ2 (cB0 (T := "int") (d:=.int i) v0) λh=>(dP1 (cB0 (T := "bool") (d:=.int i) v0))) rfl
theorem cZ0 (T:Tx K mg a):K3 P w K mg base CX0 2 a.aA5 a.aB8 ["_law_found", "_law_many"] (spV K dB9):=by
 have z := @cP0 P w K mg base a T
 refine T.aB4.F.ok w6 (W3 (by rintro ds d ⟨_,_,_,_,_,rfl,_⟩;rfl)) (λR A U s H vs Q E hr h=>?_)
 obtain⟨ds,S,d,B,r,⟨L,n,h1,h2,D,rfl,rfl⟩,q⟩:=h;refine⟨_,(A6 (M1 (V7 (O5 (B6 (cF3 K) (by rfl) T.N4 boot_isinstance (A0 (pv 0) (A0 (D3 (A0 (bC1 rfl T.aG0 boot_list) (A0 (bC1 rfl T.P1 boot_tuple) A5))) A5))))) (B1 (C8 V4)) E8)
   (A6 (J8 Aj rfl (M4 (pv 0)) (pgN 2 w6) (B1 (M1 (PW.pt (aQ4 (V7 (O5 (B6 (dA6 K) (by rfl) T.N4 boot_isinstance (A0 (pv 2) (A0 (bC1 rfl T.P1 boot_tuple) A5))))) (aQ4 (C0 dU2 (B6 (aJ0 K) (by rfl) T.O3 Aw (A0 (pv 2) A5)) (pv 1) (F6 _)) (bR6 (V7 (O5 (B6 (aP8 K rfl) (by rfl) T.bM8 boot_all (A0 (N2 (T:=["_law_place"]) (N':=["_law_place"]) (is:=[]) rfl (.of rfl rfl rfl (by exact trivial) rfl rfl rfl (by exact trivial)) (i6 (pv 2)) (J0 (by decide)) λ_ _ _ _=>⟨(E9 (i:=0) (by decide +kernel:(["_law_place"]:AH).Nodup) rfl (Or.inl rfl)),N7,(pcl z hr T.aN1 (A0 (pv 0) A5))⟩) A5)))))))) (B1 (C8 V4)) E8)))
   (B1 (C8 V4)))),K7 B r ?_ q⟩
 refine B2 (U8 (b := !true) (z4 (t_b (dL5 (ds:=L.map tI) v0))) (λh=>by cases h) (λ_=>F9 ?_))
 refine B2 (N9 (P6 (ds:=L.map tI) v0) (λi ρ=>∃J,ρ=[.val (.list (L.map tI)),vI (n:Int),J]) ⟨.no,rfl⟩ ?_ ?_)
 .rintro i d _ j ⟨J,rfl⟩;rw[Aa9]at j;obtain⟨l,Y,rfl⟩:=Au.mp j;have X:=D l (Av Y);refine⟨_,B4,?_⟩;show W K _ [.val (.list (L.map tI)),vI (n:Int),.val (tI l)] _;have M:=dU6 (K:=K) (m:=false) (ρ:=[.val (.list (L.map tI)),vI (n:Int),.val (tI l)]) (P4 (ds:=l.map PyData.int) (A4 v2 A8)) v1;rw[show((l.map PyData.int).length:Int)=(n:Int) by rw[Aa3,X]]at M
  have N:=J7 (K:=K) (m:=true) (ρ:=[.val (.list (L.map tI)),vI (n:Int),.val (tI l)]) (n:=1) (is:=[]) (g:=F5 0) (tt:=aM1) (te:=Y7 (spV K bO4) [] E0 (C9 (C4 0) O1)) (λ_=>some (.bool true)) (aE0 (ds:=l.map PyData.int) v2) (by rw[Aa3];unfold sizeLine;lia) (λd j=>by
   obtain⟨q',hq,rfl⟩:=Aa8.mp j;exact⟨_,B4,y9,D7 (A4 v0 A8) ⟨q',rfl,rfl⟩⟩)
  rw[show(l.map PyData.int).filterMap (λ_=>some (PyData.bool true))=(l.map λ_=>true).map PyData.bool by
   rw[Bb,Ae2,<- List.filterMap_eq_map];exact M7 λx _=>rfl]at N
  refine U8 (b := !true||((!decide ((n:Int)=(n:Int))) || !((l.map λ_=>true).all id))) (bQ3 (z4 (t_b (cB0 (T := "tuple") (d:=tI l) v2))) λ_=>bQ3 (C3 M) λ_=>z4 (t_b (cL9 (l:=l.map λ_=>true) (A4 (EF.e' N) A8)))) (λh=>by simp at h) (λh=>F9 ⟨_,rfl⟩)
 .rintro _ ⟨J,rfl⟩;exact L6 aX9 rfl
theorem dT8 (T:Tx K mg a):K3 P w K mg base CX0 4 a.aD9 a.aE7 ["_law_drawing", "_law_one", "_law_other", "_law_found"] (spV K cR8):=by
 have J := @cZ0 P w K mg base a T
 have Y := @cH5 P w K mg base a T
 have U := @dC5 P w K mg base a T
 refine T.Q1.F.ok G7 (W3 (by rintro ds d ⟨_,_,_,_,_,_,_,_,_,_,_,rfl,_⟩;rfl)) (λcdv A outer s H vs Q E R h=>?_)
 obtain⟨ds,S,d,hS,r,⟨m,N,tr,one,two,L,dw,ar1,D,hf,hl,rfl,rfl⟩,q⟩:=h;refine⟨_,(A6 (M1 (PW.pt (aQ4 (V7 (O5 (B6 (dA6 K) (by rfl) T.N4 boot_isinstance (A0 (pv 3) (A0 (bC1 rfl T.aG0 boot_list) A5))))) (aQ4 (V7 (O5 (pcl J R T.aB4 (A0 (pv 3) (A0 A7 A5))))) (bR6 (C0 y4 (B6 (aJ0 K) (by rfl) T.O3 Aw (A0 (pv 3) A5)) A7 (F6 _)))))) (B1 (C8 V4)) E8)
   (A6 (psS 4 G7 (pv 1))
   (A6 (psS 5 G7 (D0 A5))
   (A6 (J8 Aj rfl (M4 (pv 3)) (T6 (n:=3) rfl (D5 (pgN 6 G7) (D5 (pgN 7 G7) (D5 (pgN 8 G7) P3)))) (A6 (M1 (PW.pt (aQ4 (C0 (M5 K R) (D3 (A0 (pv 6) (A0 (pv 7) A5))) (pv 4) rfl) (aQ4 (C0 (M5 K R) (D3 (A0 (pv 7) (A0 (pv 8) A5))) (pv 4) rfl) (aQ4 (C0 (M5 K R) (D3 (A0 (pv 8) (A0 (pv 6) A5))) (pv 4) rfl) (aQ4 (C0 y4 (pv 6) (pv 7) (F6 _)) (bR6 (C0 y4 (pv 6) (pv 8) (F6 _)))))))) (B1 (C8 V4)) E8)
   (A6 (psS 9 G7 (pcl Y R T.N1 (A0 (pv 4) (A0 (D3 (A0 (pv 6) (A0 (pv 7) (A0 (pv 8) A5)))) A5))))
   (A6 (E5 (K0 Ab1 Ag Af D2 (pv 5) (A0 (B6 (cF1 K rfl) (by rfl) T.cJ6 boot_max (A0 (pcl U R T.Z3 (A0 (pv 0) (A0 (pv 4) (A0 (pv 9) A5)))) A5)) A5)))
   (B1 (psS 4 G7 (pv 9)))))))
   (B1 (C8 (bS8 (l4 (bF3 K R) (pv 4) (pv 2) (F6 _)) (bS6 (l4 (bF3 K R) (pv 5) (cL4 K rfl T.N8 (pv 5) V4) (F6 _)))))))))),K7 hS r ?_ q⟩
 have hlen:(((L.map tri).map tI).length:Int)=(L.length:Int):=by simp
 show W K _ [vD N,.val (.tuple (one.map pD)),.val (.tuple (two.map pD)),.val (.list ((L.map tri).map tI)),.no,.no,.no,.no,.no,.no] _
 have t1:=aD2 (K:=K) (m:=false) (ρ:=[vD N,.val (.tuple (one.map pD)),.val (.tuple (two.map pD)),.val (.list ((L.map tri).map tI)),.no,.no,.no,.no,.no,.no]) (g:=λi j=>decide (i>j)) (P4 (ds:=(L.map tri).map tI) (A4 v3 A8)) (B0 (i:=1000))
 rw[hlen,Ak (by lia)]at t1
 refine B2 (U8 (b := !true||(!true||false)) (bQ3 (z4 (t_b (cB0 (T := "list") (d:=.list ((L.map tri).map tI)) v3))) λ_=>bQ3 (z4 (t_b (D7 (d:=.bool true) (pre:=dB9) (X:=E0) (A4 v3 (A4 (B0 (i:=3)) A8)) ⟨L.map tri,3,by rw[Aa3];lia,by lia,λl hl=>by obtain⟨v,_,rfl⟩:=Aa8.mp hl;rfl,rfl,rfl⟩))) λ_=>C3 t1) (λh=>by cases h) (λh=>F9 ?_))
 refine B2 (F3 (d:=.tuple (one.map pD)) v1 ?_);refine B2 (E4 (ds:=[]) (F4 A8) ?_ (show 5<10 by decide))
 refine B2 (N9 (P6 (ds:=(L.map tri).map tI) v3) (λi ρ=>∃(ps:List (Int×Int)) (x6 x7 x8 B:Sl),Ar m N ps/\Wlk N (L.drop i) ps two/\ρ=[vD N,.val (.tuple (one.map pD)),.val (.tuple (two.map pD)),.val (.list ((L.map tri).map tI)),.val (.tuple (ps.map pD)),.own (((L.take i).map λv=>lv v.2.2.2).map PyData.int),x6,x7,x8,B]) ⟨one,.no,.no,.no,.no,ar1,D,rfl⟩ ?_ ?_)
 .rintro i d _ hd ⟨ps,x6,x7,x8,B,ar,D,rfl⟩;rw[Aa9,Aa9]at hd;obtain⟨v',hv',rfl⟩:=Au.mp hd;obtain⟨v,hv,rfl⟩:=Au.mp hv';have hi:=(Ab0.mp hv).1;rw[Cd hi,show L[i]=v from(Ab0.mp hv).2]at D
  obtain⟨g,g1,g2,hs,wk'⟩:=D;obtain⟨x,y,z,s⟩:=v;obtain⟨H',po',h01,h1,h0⟩:=ar.lift' dw g hs;have mx':=dO0 dw po' h01 h1 h0;have hl21:=ar.ai.len;refine⟨_,k7 (ds:=[.int (x:Int),.int (y:Int),.int (z:Int)]) (E6 B4 (E6 B4 (E6 B4 T7))),?_⟩;generalize hLt:((L.take i).map λv=>lv v.2.2.2).map PyData.int=Lt
  show W K _ [vD N,.val (.tuple (one.map pD)),.val (.tuple (two.map pD)),.val (.list ((L.map tri).map tI)),.val (.tuple (ps.map pD)),.own Lt,vI (x:Int),vI (y:Int),vI (z:Int),B] _
  generalize hρ:[Sl.val (.tuple (N.map tN)),.val (.tuple (one.map pD)),.val (.tuple (two.map pD)),.val (.list ((L.map tri).map tI)),.val (.tuple (ps.map pD)),.own Lt,vI (x:Int),vI (y:Int),vI (z:Int),B]=ρ;have ni:∀{i j:Nat} {p q:Int},ρ[i]? = some (.val (.int p))->ρ[j]? = some (.val (.int q))->(p,q)∈ps->LV.T K (aD8 (tOp (bI4 K true) (aL8 (C9 (C4 i) (C9 (C4 j) O1))) (C4 4))) ρ false:=λ{i j p q} hi hj hm=>by
   have e:=S6 (K:=K) (m:=false) (ρ := ρ) (d:=pD (p,q)) (ds:=ps.map pD) (G1 (A4 (A9 hi) (A4 (A9 hj) A8))) (A9 (i:=4) (d:=.tuple (ps.map pD)) (by rw[<- hρ];rfl)) rfl (S7 (p,q)).fit (m8 ps)
   rw[aF5,As hm]at e;exact C3 e
  have gt:∀{i j:Nat} {p q:Int},ρ[i]? = some (.val (.int p))->ρ[j]? = some (.val (.int q))->p<q->LV.T K (aD8 (tOp (rI0 λi j=>.bl (decide (i>j))) (C4 i) (C4 j))) ρ false:=λ{i j p q} hi hj hm=>by
   have e:=aD2 (K:=K) (m:=false) (ρ := ρ) (g:=λi j=>decide (i>j)) (A9 hi) (A9 hj)
   rw[Ak (by lia)]at e
   exact C3 e
  have r6:ρ[6]? = some (.val (.int (x:Int))):=by rw[<- hρ];rfl
  have r7:ρ[7]? = some (.val (.int (y:Int))):=by rw[<- hρ];rfl
  have r8:ρ[8]? = some (.val (.int (z:Int))):=by rw[<- hρ];rfl
  refine B2 (U8 (b:=false||(false||(false||(false||false)))) (bQ3 (ni r6 r7 g.1) λ_=>bQ3 (ni r7 r8 g.2.1) λ_=>bQ3 (ni r8 r6 g.2.2) λ_=>bQ3 (gt r6 r7 (by simp only at g1;lia)) λ_=>gt r6 r8 (by simp only at g2;lia)) (λh=>by cases h) (λh=>F9 ?_))
  subst hρ;refine B2 (F3 (d:=.tuple ((sp (tw ps (wys x y z))).map pD)) (D7 (pre:=cC9) (X:=E0) (A4 v4 (A4 (d:=tI [(x:Int),y,z]) (G1 (A4 v6 (A4 v7 (A4 v8 A8)))) A8)) ⟨ps,x,y,z,by lia,rfl,rfl⟩) ?_)
  refine B2 (G8 (d:=.int (lv s)) (i:=5) (ds:=Lt) rfl (dI0 (l:=(R9 m N).map (hI H')) (M:=lv s) (A4 (D7 (m:=false) (pre:=cN4) (X:=E0) (A4 v0 (A4 v4 (A4 (A9 (i:=9) rfl) A8))) ⟨m,N,tr,ps,sp (tw ps (wys x y z)),H',dw,po',rfl,rfl⟩) A8) mx') ?_ ?_)
  .rw[<- hLt,Aa3,Aa3,Ad1];unfold sizeLine;lia
  refine F3 (d:=.tuple ((sp (tw ps (wys x y z))).map pD)) (A9 (i:=9) rfl) ⟨sp (tw ps (wys x y z)),vI (x:Int),vI (y:Int),vI (z:Int),.val (.tuple ((sp (tw ps (wys x y z))).map pD)),ar.turn dw g,wk',?_⟩;rw[De,hv,Ad2,Ad2,hLt];rfl
 rintro _ ⟨ps,x6,x7,x8,B,ar,D,rfl⟩;rw[Aa3,Aa3,List.drop_length]at D;obtain rfl:ps=two:=D;rw[Aa3,Aa3,Cm];have e1:=bZ9 (K:=K) (m:=false) (ρ:=[vD N,.val (.tuple (one.map pD)),.val (.tuple (ps.map pD)),.val (.list ((L.map tri).map tI)),.val (.tuple (ps.map pD)),.own ((L.map λv=>lv v.2.2.2).map PyData.int),x6,x7,x8,B]) (A9 (i:=4) (d:=.tuple (ps.map pD)) rfl) (A9 (i:=2) (d:=.tuple (ps.map pD)) rfl) (m8 _) (m8 _)
 rw[dM3,As rfl]at e1;have e2:=bZ9 (K:=K) (m:=false) (ρ:=[vD N,.val (.tuple (one.map pD)),.val (.tuple (ps.map pD)),.val (.list ((L.map tri).map tI)),.val (.tuple (ps.map pD)),.own ((L.map λv=>lv v.2.2.2).map PyData.int),x6,x7,x8,B]) (F2 (i:=5) rfl) (EF.e' (m:=false) (cQ4 (l:=L.map λv=>lv v.2.2.2) (F2 (i:=5) rfl) hf)) (cP9 _) (cP9 _)
 rw[dI7]at e2;exact L6 (cJ2 e1 λ_=>e2) rfl
end
set_option maxHeartbeats 1000000
theorem V9:C2 ["_law_script", "_law_m", "_law_cell", "_law_drawing", "_law_outs", "_law_one", "_law_other", "_law_found"] ["_law_script"] (B3 cN2):={}
def bW5 (K:Frag):Sp:=λvs H Q _=>∃(a:Addr) (ns:AD),vs=[.ref a]/\SqL K H a (ns.map V.int)/\ns.length<=63/\∀H',Q (.bl true) H'
def aZ4 (xs:AD)(lo hi:Option Int):AD:=List.take (HT.sIx xs.length xs.length hi-HT.sIx xs.length 0 lo) (List.drop (HT.sIx xs.length 0 lo) xs)
theorem cR6 (xs:AD)(lo hi:Option Int):LV.aO6 (xs.map PyData.int) lo hi=(aZ4 xs lo hi).map PyData.int:=by
 unfold LV.aO6 aZ4;rw[Aa3,List.map_take,List.map_drop]
theorem bY2 (xs:AD)(lo hi:Option Int):(aZ4 xs lo hi).length<=xs.length:=by
 unfold aZ4;rw[Ad1,Bs];lia
theorem Cn.sy {m:Nat}{dr tr:AA}{one two:List (Int×Int)}(w:Dw m dr tr)(X:Ar m dr one)(U:Ar m dr two)(cn:Cn dr one two):Cn dr two one:=λs k e h=>by
 obtain⟨M,j,_,J,Y⟩:=X.ex w s;obtain⟨N,z⟩:=cn s j _ Y
 have:=TT.Rd.uniq w.good w.rs U.sv h z
 exact⟨j,by rw[this];exact Y⟩
def rl (ns:AD)(m:Nat)(c:Int)(dr tr:AA)(one two:List (Int×Int))(x7:Sl):List Sl:=[.val (lI ns),vI (m:Int),vI c,vD dr,vD tr,.val (.tuple (one.map pD)),.val (.tuple (two.map pD)),x7]
section
variable {P:Program}{w:World}{K:Frag}{mg:Str->Option Value}{base:Heap}{a:Ad}
theorem dJ7 (T:Tx K mg a):K3 P w K mg base CX0 10 a.cA2 a.bO7 ["_law_script"] (bW5 K):=by
 have M := @aM0 P w K mg base a T
 have Y := @bX4 P w K mg base a T
 have G__law_built := @cO4 P w K mg base a T
 have G__law_arrows := @dM9 P w K mg base a T
 have D := @dP6 P w K mg base a T
 have G__law_end := @dQ3 P w K mg base a T
 have J := @dP7 P w K mg base a T
 have U := @dT8 P w K mg base a T
 refine T.dC4.F.ok V9 (by rintro vs H Q E ⟨_,_,rfl,_⟩;rfl) (λcdv A outer s H vs Q E hr h=>?_)
 obtain⟨ad,N,rfl,hS,hl,q⟩:=h;have r:Reps K (hid (λ_=>False) H) [V.ref ad] [lI N]:=by rw[bH2];exact .cons (.lst hS (R5 N)) .nil
 refine⟨_,(A6 (psS 1 V9 (B7 T8 (pcl M hr T.N3 (A0 (pcl Y hr T.M8 (A0 (pv 0) (A0 A7 A5))) (A0 A7 A5))) A7))
   (A6 (psS 2 V9 (pcl Y hr T.M8 (A0 (pv 0) (A0 A7 A5))))
   (A6 (M1 (C0 aP9 (B7 T8 (pcl M hr T.N3 (A0 (pcl Y hr T.M8 (A0 (pv 0) (A0 A7 A5))) (A0 A7 A5))) A7) A7 (F6 _)) (A6 (psS 1 V9 A7)
   (B1 (psS 2 V9 A7))) E8)
   (A6 (aO8 (pcl G__law_built hr T.aM3 (A0 (pv 2) (A0 (X0 (dI6 K) (pv 0) (U3 A7) (U3 A7)) (A0 (pv 1) A5)))) (T6 (n:=2) rfl (D5 (pgN 3 V9) (D5 (pgN 4 V9) P3))))
   (A6 (psS 5 V9 (pcl D hr T.v9 (A0 (pcl G__law_arrows hr T.aF0 (A0 (pv 4) A5)) (A0 (X0 (dI6 K) (pv 0) (U3 A7) (U3 A7)) A5))))
   (A6 (psS 6 V9 (pcl D hr T.v9 (A0 (pv 5) (A0 (X0 (dI6 K) (pv 0) (U3 A7) (U3 A7)) A5))))
   (A6 (M1 (C0 aP9 (B7 T8 (pcl M hr T.N3 (A0 (pcl Y hr T.M8 (A0 (pv 0) (A0 A7 A5))) (A0 A7 A5))) A7) A7 (F6 _)) (A6 (psS 6 V9 (pcl G__law_end hr T.aH0 (A0 (pv 3) (A0 (pv 5) (A0 A7 A5)))))
   (B1 (psS 5 V9 (pcl G__law_end hr T.aH0 (A0 (pv 3) (A0 (pv 5) (A0 (aF3 e5 A7) A5))))))) E8)
   (A6 (psS 7 V9 (pcl J hr T.P8 (A0 (pv 3) (A0 (pv 5) (A0 (pv 6) A5)))))
   (A6 (M1 (V7 (O5 (pcl U hr T.Q1 (A0 (pv 3) (A0 (pv 5) (A0 (pv 6) (A0 (pv 7) A5))))))) (B1 (C8 V4)) E8)
   (A6 (E5 (K0 Ab1 Ag Af D2 (pv 7) (A0 (D3 (A0 A7 (A0 A7 (A0 A7 A5)))) A5)))
   (A6 (M1 (V7 (O5 (pcl U hr T.Q1 (A0 (pv 3) (A0 (pv 5) (A0 (pv 6) (A0 (pcl J hr T.P8 (A0 (pv 3) (A0 (pv 5) (A0 (pv 6) A5)))) A5))))))) (B1 (C8 V4)) E8)
   (A6 (M1 (V7 (O5 (pcl U hr T.Q1 (A0 (pv 3) (A0 (pv 6) (A0 (pv 5) (A0 (pcl J hr T.P8 (A0 (pv 3) (A0 (pv 6) (A0 (pv 5) A5)))) A5))))))) (B1 (C8 V4)) E8)
   (B1 (C8 (pcl U hr T.Q1 (A0 (pv 3) (A0 (pv 5) (A0 (pv 5) (A0 (pcl J hr T.P8 (A0 (pv 3) (A0 (pv 5) (A0 (pv 5) A5)))) A5))))))))))))))))))),K7 (S:=λ_=>False) (λ_ z=>z.elim) r ?_ (d:=.bool true) (λv H' _ rv=>by cases rv;exact q H')⟩
 refine B2 (F3 (d:=.int (mx (cl N 0) 90 % 8)) (e_i (D7 (pre:=i9) (X:=E0) (A4 (D7 (A4 v0 (A4 B0 A8)) ⟨N,0,by lia,rfl,rfl⟩) (A4 B0 A8)) ⟨cl N 0,90,by lia,rfl,rfl⟩) B0 (by decide)) ?_)
 refine B2 (F3 (d:=.int (cl N 1)) (D7 (A4 v0 (A4 B0 A8)) ⟨N,1,by lia,rfl,rfl⟩) ?_)
 refine B2 (dF4 (λρ=>∃(m:Nat) (c:Int),m<=7/\ρ=[.val (lI N),vI (m:Int),vI c,.no,.no,.no,.no,.no]) (C3 (j4 (e_i (D7 (pre:=i9) (X:=E0) (A4 (D7 (A4 v0 (A4 B0 A8)) ⟨N,21,by lia,rfl,rfl⟩) (A4 B0 A8)) ⟨cl N 21,99,by lia,rfl,rfl⟩) (B0 (i:=8)) (by decide)) (B0 (i:=5)))) (λ_=>B2 (F3 (d:=.int 7) B0 (F3 (d:=.int 1822987953869300403535873) B0 ⟨7,1822987953869300403535873,by lia,rfl⟩))) (λ_=>F9 ⟨(mx (cl N 0) 90 % 8).toNat,cl N 1,by lia,?_⟩) ?_)
 .rw[show(((mx (cl N 0) 90 % 8).toNat:Nat):Int)=mx (cl N 0) 90 % 8 by lia];rfl
 rintro _ ⟨m,c,hm7,rfl⟩;obtain⟨R,tr,B⟩:=dR4 (TT.u8 (nu c (aZ4 N (some 2) (some 9))) m) (dQ2 c m);have dw:Dw m R tr:=⟨hm7,_,_,_,B⟩;refine B2 (cH1 (m:=true) (D7 (A4 v2 (A4 (EF.e' (bO3 (ds:=N.map PyData.int) v0 (e7 B0) (e7 B0) (T4 N))) (A4 v1 A8))) ⟨c,aZ4 N (some 2) (some 9),m,R,tr,hm7,B,by rw[cR6],rfl⟩) (k7 (E6 B4 (E6 B4 T7))) ?_)
 have ar0:=cO0 dw
 refine B2 (aW3 (i:=5) (pre:=cI1) (A4 (D7 (d:=.tuple ((sp (arr tr)).map pD)) (A4 v4 A8) ⟨m,R,tr,dw,rfl,rfl⟩) (A4 (d:=lI (aZ4 N (some 9) (some 15))) (by have e:=bO3 (K:=K) (ρ:=[.val (lI N),vI (m:Int),vI c,vD R,vD tr,.no,.no,.no]) (ds:=N.map PyData.int) v0 (e7 (B0 (i:=9))) (e7 (B0 (i:=15))) (T4 N);rw[cR6]at e;exact EF.e' e) A8)) ⟨m,R,tr,sp (arr tr),aZ4 N (some 9) (some 15),dw,ar0,Bd (bY2 _ _ _) hl,rfl,rfl⟩ ?_)
 rintro _ ⟨one,rfl,ar1,cn0⟩;refine B2 (aW3 (i:=6) (pre:=cI1) (A4 v5 (A4 (d:=lI (aZ4 N (some 15) (some 21))) (by have e:=bO3 (K:=K) (ρ:=[.val (lI N),vI (m:Int),vI c,vD R,vD tr,.val (.tuple (one.map pD)),.no,.no]) (ds:=N.map PyData.int) v0 (e7 (B0 (i:=15))) (e7 (B0 (i:=21))) (T4 N);rw[cR6]at e;exact EF.e' e) A8)) ⟨m,R,tr,one,aZ4 N (some 15) (some 21),dw,ar1,Bd (bY2 _ _ _) hl,rfl,rfl⟩ ?_)
 rintro _ ⟨two,rfl,ar2,cn⟩;show W K _ (rl N m c R tr one two .no) _;refine B2 (dF4 (λρ=>∃one two,Ar m R one/\Ar m R two/\Cn R one two/\ρ=rl N m c R tr one two .no) (C3 (j4 (e_i (D7 (pre:=i9) (X:=E0) (A4 (D7 (A4 v0 (A4 B0 A8)) ⟨N,21,by lia,rfl,rfl⟩) (A4 B0 A8)) ⟨cl N 21,96,by lia,rfl,rfl⟩) (B0 (i:=3)) (by decide)) (B0 (i:=1)))) (λ_=>?_) (λ_=>F9 ⟨one,two,ar1,ar2,cn,rfl⟩) ?_)
 .refine B2 (aW3 (i:=6) (pre:=cN1) (A4 v3 (A4 v5 (A4 (B0 (i:=1)) A8))) ⟨m,R,tr,one,true,dw,ar1,rfl,rfl⟩ ?_);rintro _ ⟨two',rfl,a2,c2⟩;refine aW3 (i:=5) (pre:=cN1) (A4 v3 (A4 v5 (A4 (aE2 (B0 (i:=1))) A8))) ⟨m,R,tr,one,false,dw,ar1,rfl,rfl⟩ ?_;rintro _ ⟨one',rfl,a1,c1⟩;exact⟨one',two',a1,a2,(c1.sy dw ar1 a1).tr c2,rfl⟩
 clear ar1 ar2 cn cn0
 rintro _ ⟨one,two,a1,a2,cn,rfl⟩;have wy:∀{p q:List (Int×Int)},Ar m R p->Ar m R q->Cn R p q->∃L:List Stp,bG0 m R p q=L.map tri/\Wlk R L p q/\(L.map λv=>lv v.2.2.2).Pairwise (·≥·)/\L.length<=450:=λa b c=>cQ5 dw a b c
 have call:∀{i j:Nat} {p q:List (Int×Int)} {x7:Sl},Ar m R p->Ar m R q->Cn R p q->(rl N m c R tr one two x7)[i]? = some (.val (.tuple (p.map pD)))->(rl N m c R tr one two x7)[j]? = some (.val (.tuple (q.map pD)))->LV.E K true (Y7 (spV K cR8) [] E0 (C9 (C4 3) (C9 (C4 i) (C9 (C4 j) (C9 (Y7 (spL K cH2) [] E0 (C9 (C4 3) (C9 (C4 i) (C9 (C4 j) O1)))) O1))))) (rl N m c R tr one two x7) (.bool true):=λ{i j p q x7} b1 b2 b3 hi hj=>by
  obtain⟨L,h1,h2,h3,h4⟩:=wy b1 b2 b3;exact D7 (A4 v3 (A4 (A9 hi) (A4 (A9 hj) (A4 (EF.e' (J5 (A4 v3 (A4 (A9 hi) (A4 (A9 hj) A8))) ⟨m,R,tr,p,q,dw,b1,b2,b3,rfl,rfl⟩)) A8)))) ⟨m,R,tr,p,q,L,dw,b1,h2,h3,h4,by rw[h1],rfl⟩
 obtain⟨L,h1,h2,h3,h4⟩:=wy a1 a2 cn;refine B2 (E4 (ds:=(bG0 m R one two).map tI) (J5 (pre:=cH2) (X:=E0) (A4 v3 (A4 v5 (A4 v6 A8))) ⟨m,R,tr,one,two,dw,a1,a2,cn,rfl,rfl⟩) ?_ (show 7<8 by decide))
 show W K _ (rl N m c R tr one two (.own ((bG0 m R one two).map tI))) _
 have hwl:((bG0 m R one two).map tI).length<=450:=by rw[h1];simpa using h4
 refine B2 (U8 (b := !true) (z4 (t_b (cU9 (pre:=cR8) (X:=E0) (d:=.bool true) (A4 (LV.E.bor (m:=false) v3) (A4 (LV.E.bor (m:=false) v5) (A4 (LV.E.bor (m:=false) v6) (A4 (F2 (i:=7) rfl) A8)))) ⟨m,R,tr,one,two,L,dw,a1,h2,h3,h4,by rw[h1],rfl⟩ rfl))) (λh=>by cases h) (λh=>F9 ?_))
 refine B2 (G8 (i:=7) (d:=tI [0,1,2]) rfl (G1 (A4 B0 (A4 B0 (A4 B0 A8)))) (by unfold sizeLine;lia) ?_)
 show W K _ (rl N m c R tr one two (.own ((bG0 m R one two).map tI++[tI [0,1,2]]))) _
 refine B2 (U8 (b := !true) (z4 (t_b (call a1 a2 cn rfl rfl).bor)) (λh=>by cases h) (λh=>F9 ?_))
 refine B2 (U8 (b := !true) (z4 (t_b (call a2 a1 (cn.sy dw a1 a2) rfl rfl).bor)) (λh=>by cases h) (λh=>F9 ?_))
 exact L6 (call a1 a1 Cn.rf rfl rfl) rfl
end
theorem fin_of {l:PySem.W.OpenLaw}{w:World}{fa f:Addr}{K:Frag}{mg:Str->Option Value}(z:mg "law" = some (.ref fa))(h:∃a:Ad,Tx K mg a/\a.cA2=f/\∀(s:Shared) (v:Value),BindsTo s a.bO7 ⟨[v],[]⟩ [("_law_script",v)])
  : ∃fd:FuncData,(∀(s:Shared) (v:Value),BindsTo s fd ⟨[v],[]⟩ [("_law_script",v)])/\∀base:Heap,K.In base->base.Ns mainGlobals mg->K3 l.prog w K mg base CX0 10 fa fd ["_law_script"] (bW5 K):=by
 obtain⟨a,T,ea,j⟩:=h;have e:=z.symm.trans T.dC4.m;cases e;exact⟨a.bO7,j,λbase _ _=>dJ7 T⟩
theorem walk {l:PySem.W.OpenLaw}{q:Program}{loose:AH}{XP:(Str->Option Value)->Heap->Prop}{YP:World->Heap->Prop}{d:DefRec}{K:Params->Frag}(U:l.most=some 63)(j:d.params.defaults=[])
  (Y:∀(w:World) (h:Heap),YP w h->(K w.params).In h)
  (F:∀(w:World) (mg:Str->Option Value) (fa:Addr) (h:Heap),(K w.params).In h->h.Ns mainGlobals mg->mg d.name=some (.ref fa) ->
   ∃fd:FuncData,(∀(s:Shared) (u:Value),BindsTo s fd ⟨[u],[]⟩ [("_law_script",u)])/\∀base:Heap,(K w.params).In base->base.Ns mainGlobals mg->K3 l.prog w (K w.params) mg base CX0 10 fa fd ["_law_script"] (bW5 (K w.params))) :
  PySem.W.WalkO q loose XP YP l.row.toRowW d [] (λf vs=>PySem.call f vs):=
 L2.cW2 (n:=63) (k:=10) (x := "_law_script") (CX:=λ_=>CX0) (sp:=λw=>bW5 (K w.params)) U (by decide) j ⟨rfl,by decide,by decide⟩ Y F (λ_ _ a J X _ m=>⟨a,J,rfl,m,X,λ_=>rfl⟩) λ_ _ _ _ _ z=>z
end K39
namespace PySem.W.Fast
def tw7668154747101553260:=0
def tw6888148108349947375:=0
def tw13350299403238367505:=0
def tw12164329999753921789:=0
def tw16883447924243291137:=0
def tw17848768009691568373:=0
def tw10833662083847770817:=0
def tw6235694180138849420:=0
def tw7606769087629431382:=0
def tw12372077219519507152:=0
def tw9521061746442568839:=0
def tw10027466295409876224:=0
def tw15317323448762796918:=0
def tw4328856847750640742:=0
def tw8197998094386583265:=0
def tw3118827509498933832:=0
def tw10629125291685561131:=0
def tw15306713233031542511:=0
def tw10621162925123917874:=0
def tw6706291815333881543:=0
def tw13040546048506651776:=0
def tw10532982980320436216:=0
def tw17218780953845030051:=0
def tw1380475775567346498:=0
def tw4598642355883411192:=0
def tw10913194763729375886:=0
def tw4434638593414918131:=0
def tw7886309730078920349:=0
def tw17998189980556435355:=0
def tw185633730309014046:=0
def tw6591177111452830838:=0
def tw13155536247478252915:=0
def tw12354070036776843491:=0
def tw15984307794124482895:=0
def tw14785159280975020614:=0
def tw14776855693578152401:=0
def tw1064138320805936730:=0
def tw7114488044635253072:=0
def tw7887190288458427297:=0
def tw6321636637694857674:=0
def tw3600138298686218431:=0
def tw411046901760341904:=0
def tw7682144116383862745:=0
def tw17602319450194356973:=0
def tw1608805858860194646:=0
def tw18250000654361099425:=0
def tw6133275843443755518:=0
def tw15603135642427519897:=0
def tw11094992968508675783:=0
def tw12300485479575399130:=0
def tw17664011677491649837:=0
def tw4252325952614430325:=0
def tw4922698688137948283:=0
def tw15096874545217169921:=0
def tw15366397043477621332:=0
def tw4015132058874298893:=0
def tw8059061105358553986:=0
def tw1425790168639114892:=0
def tw3928597721524185453:=0
def tw5320771060877537689:=0
def tw13853650974185381815:=0
def tw10712216219746477217:=0
def tw18102266652470257136:=0
def tw6806991237378685165:=0
def tw8320469806659845420:=0
def tw10815128464667959328:=0
def tw11979325990804996299:=0
def tw1657235487532924231:=0
def tw8794706252720470552:=0
def tw11635741969786729397:=0
def tw3527248483189533193:=0
def tw13146227838298443710:=0
def tw682432548863194847:=0
def tw7654670179505905480:=0
def tw5417136264372198913:=0
def tw15713448488234250039:=0
def tw10187466544956056755:=0
def tw3772224126246761506:=0
def tw11649510262310811131:=0
def tw12887140936370167460:=0
def tw9456597940424332343:=0
def tw1912116368832082168:=0
def tw12302567750195885729:=0
def tw16996339293591283311:=0
def tw86567856824320474:=0
def tw15025377633876444583:=0
def tw10848358954830640456:=0
def tw16239732005308200667:=0
def tw15654657909178525059:=0
def tw14340860125288263356:=0
def tw15619950308472903216:=0
def tw9507211466086136299:=0
def tw13297620776360754118:=0
def tw16137252601378658529:=0
def tw15411101212269404570:=0
def tw3339853303010532357:=0
def tw14485063623824737276:=0
def tw8154062621192467037:=0
def tw18235370137896600556:=0
def tw4525136108127477764:=0
def tw5122721240290501401:=0
def tw11530683333830666904:=0
def tw16001934704515392388:=0
def tw11018804577830794634:=0
def tw7548436201242897163:=0
def tw4044017697002501532:=0
def tw1901927520208483868:=0
def tw11731419666992867266:=0
def tw16728685558506199792:=0
def tw14344708870013406151:=0
def tw637344722824207533:=0
def tw11727994234035143799:=0
def tw10398422788534319605:=0
def tw12553727474349646513:=0
def tw12314162918599728176:=0
def tw16738863668597481239:=0
def tw5560811951405735261:=0
def tw54097897128538024:=0
def tw9263839591027074221:=0
def tw12426485575647694081:=0
def tw2327242350525494016:=0
def tw1034876303250112978:=0
def tw14566500376831294047:=0
def tw10299303861667454155:=0
def tw4488209642958569972:=0
def tw14806241386635984589:=0
def tw9859358848492042155:=0
def tw12388148659303688618:=0
def tw18313978454017366029:=0
def tw9891122329983537532:=0
def tw7052540363363711036:=0
def tw3954124506297780892:=0
def tw3209164764176778733:=0
def tw17374292278300285920:=0
def tw2624281752831763381:=0
def tw17790572710703801729:=0
def tw7024616750032600527:=0
def tw5958075107328837831:=0
def tw9180789842393418995:=0
def tw10798483033399895023:=0
def tw18083939339075005369:=0
def tw6639506043504413922:=0
def tw12635074368796026023:=0
def tw10523516646630336816:=0
def tw11462477408272468823:=0
def tw10896978770189899136:=0
def tw5063051096638909684:=0
def tw16956968995754927550:=0
def tw8610510256595847576:=0
def tw4539821106897631593:=0
def tw17154270085984039885:=0
def tw13113948445395718915:=0
def tw12978118034974549560:=0
def tw8046148670964281908:=0
def tw14539098167423482729:=0
def tw13426819696774387499:=0
def tw4451241822459231522:=0
def tw7982464346747860202:=0
def tw1012568544903969811:=0
def tw5960526467359520851:=0
def tw14637100570654536055:=0
def tw14156919158660459204:=0
def tw7060365211913097235:=0
def tw3738701123310093801:=0
def tw11043638872034435235:=0
def tw5619289607219784908:=0
def tw5987523100784056100:=0
def tw8277306099963303846:=0
def tw920073101025631118:=0
def tw11281824633297438025:=0
def tw12339150955395309492:=0
def tw4499639048122503228:=0
def tw16515669405432546675:=0
def tw13366339267660487972:=0
def tw12850672880501252859:=0
def tw9217363907091540563:=0
def tw14044736941379568684:=0
def tw4870587758424676553:=0
def tw5772358250739253550:=0
def tw7307934757669893697:=0
def tw15370168141418144365:=0
def tw1865843319990452332:=0
def tw15738015872528841434:=0
def tw15384241584447510966:=0
def tw3059521748137751321:=0
def tw2682852897710562814:=0
def tw11679752706561286930:=0
def tw18024602002734991409:=0
def tw14408101890629155866:=0
def tw2401252738179532026:=0
def tw1467900553228268505:=0
def tw5723666482801622278:=0
def tw16653615072540115128:=0
def tw4704985807038689772:=0
def tw4631473397925018916:=0
def tw10847532035878556471:=0
def tw10536002097192542008:=0
def tw16792719671893269390:=0
def tw11433596488578463762:=0
def tw15702497772806794338:=0
def tw3069588239082256262:=0
def tw6193627639401430764:=0
def tw18009264012564599739:=0
def tw17485712589300802872:=0
def tw1687529134019371873:=0
def tw11332533073710890761:=0
def tw4032926961536780893:=0
def tw8252458469556011426:=0
def tw7679733698385351377:=0
def tw18430935116669183249:=0
def tw16785902177908526172:=0
def tw2544380396555740081:=0
def tw7363039209438477127:=0
def tw13617108587462031737:=0
def tw3066954485847017453:=0
def tw4724961839687153064:=0
def tw8996826870447430401:=0
def tw12903187797941422911:=0
def tw12172253425614331694:=0
def tw18442489377115082651:=0
def tw2874233953134978783:=0
def tw10191233729108204390:=0
def tw13357860776047357447:=0
def tw338684071940500812:=0
def tw10844726431151868841:=0
def tw7252082350481510561:=0
def tw7822608884396084822:=0
def tw10293182111896028187:=0
def tw11820064743747529767:=0
def tw15821128931246652158:=0
def tw5033145544412573959:=0
def tw8386092721103380478:=0
def tw3553305195546421344:=0
def tw135712218036443231:=0
def tw10693417430723353139:=0
def tw16825537441954512314:=0
def tw13050740190882664327:=0
def tw4975210912575099885:=0
def tw1126619806263352872:=0
def tw15925482502972186954:=0
def tw3953346965936508338:=0
def tw12401786792040818709:=0
def tw14308436470357016690:=0
def tw8565746402782310992:=0
def tw15792607166205294940:=0
def tw12373293749811745124:=0
def tw16160024946459260942:=0
def tw3373803326095480834:=0
def tw3410124122717288826:=0
def tw3421674352242613756:=0
def tw961437365433216467:=0
def tw3825249582643362599:=0
def tw6693151960767553464:=0
def tw6351500203443784323:=0
def tw3197576407964694868:=0
def tw15862135437711188006:=0
def tw11039898228981700632:=0
def tw1762044447995845530:=0
def tw15837185831854902220:=0
def tw1859456091023608542:=0
def tw11631222581286289730:=0
def tw16665147339993372320:=0
def tw13521034178148113443:=0
def tw6284693941948107731:=0
def tw9718463649281437288:=0
def tw10836048921122761150:=0
def tw8449521922869674849:=0
def tw15074534739289036930:=0
def tw10994098924741393152:=0
def tw9688810249002346529:=0
end PySem.W.Fast
open PySem PySem.W PyProof.Rows
set_option maxRecDepth 100000 in
set_option maxHeartbeats 0 in
theorem PySem.Challenge.cw_threetrees_k39_whole_ways_holds : PySem.Challenge.rw_threetrees_k39_whole_ways.Holds := by
 w_on;o_law;k_head;(case hw=>w_witness2)
 k_fill
 refine K39.walk (l:=PySem.Challenge.rw_threetrees_k39_whole_ways) rfl rfl (λw h Y=>PySem.W.kIn_of Y) ?F
 case F=>
  intro w mg fa h KX G hmg;refine' K39.fin_of hmg (K39.tx_mk KX G ⟨_,L2.E1 _ _ _⟩ ⟨_,L2.E1 _ _ _⟩ ⟨_,L2.E1 _ _ _⟩ ⟨_,L2.E1 _ _ _⟩ ⟨_,L2.E1 _ _ _⟩ ⟨_,L2.E1 _ _ _⟩ ⟨_,L2.E1 _ _ _⟩ ⟨_,L2.E1 _ _ _⟩ ⟨_,L2.E1 _ _ _⟩ ⟨_,L2.E1 _ _ _⟩ ⟨_,L2.E1 _ _ _⟩ ⟨_,L2.E1 _ _ _⟩ ⟨_,L2.E1 _ _ _⟩ ⟨_,L2.E1 _ _ _⟩ ⟨_,L2.E1 _ _ _⟩ ⟨_,L2.E1 _ _ _⟩ ⟨_,L2.E1 _ _ _⟩ ⟨_,L2.E1 _ _ _⟩ ⟨_,L2.E1 _ _ _⟩ ⟨_,L2.E1 _ _ _⟩ ⟨_,L2.E1 _ _ _⟩ ⟨_,L2.E1 _ _ _⟩ ⟨_,L2.E1 _ _ _⟩ ⟨_,L2.E1 _ _ _⟩ ⟨_,L2.E1 _ _ _⟩ ⟨_,L2.E1 _ _ _⟩ ⟨_,L2.E1 _ _ _⟩ ⟨_,L2.E1 _ _ _⟩ ⟨_,L2.E1 _ _ _⟩ ⟨_,L2.E1 _ _ _⟩ ⟨_,L2.E1 _ _ _⟩ ⟨_,L2.E1 _ _ _⟩ ⟨_,L2.E1 _ _ _⟩ ⟨_,L2.E1 _ _ _⟩ ⟨_,L2.E1 _ _ _⟩ ⟨_,L2.E1 _ _ _⟩ ⟨_,L2.E1 _ _ _⟩ ⟨_,L2.E1 _ _ _⟩ ⟨_,L2.E1 _ _ _⟩ _ _ _ _ _ _ _ _ _ _ _ _ _ _ _ _)
  any_goals first | k_is | k_exc | kernel_rfl
