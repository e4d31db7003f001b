
import PyProof.Rows.All
import Wide.All
import OpenK.AllK
import Wide.FinOn
import Lean
import PyProof.EqAt
import PyProof.EqKinds
import PyProof.TupleCall
import KE.KDictList
import PyProof.Rows.TupDisplay
import PyProof.ZipIter
import PyProof.P3Eq
import PyProof.Rows.StrKeys3
import PyProof.Rows.StrWeight2
import PyProof.SliceStr2
import PyProof.StrLaws
import PyProof.Rows.Range3
import PySem.SetTable
import PyProof.SetScanFacts
import PyProof.SetKind
import PyProof.FactsAll.tuple_iterator
import PySem.Challenge.RW_threetrees_k40_all_arrows
set_option genSizeOfSpec false
set_option linter.all false
set_option Elab.async false
set_option maxRecDepth 100000
set_option linter.defProp false
abbrev AA:=List (List Nat)
abbrev AC:=List (List Int)
abbrev AD:=List Nat
abbrev AF:=List Int
abbrev AG:=List PySem.PyData
abbrev AH:=List PySem.Value
abbrev AJ:=List PySem.Str
abbrev AK:=Array PySem.Value
abbrev AL:=Option PySem.Addr
abbrev AM:=List PySem.Addr
abbrev AN:=List PySem.Expr
def Aa:=@PySem.wpAny_bind
def Ab:=@if_neg
def Ac:=@if_pos
def Ae:=@PySem.wpAny_pure
def Af:=@PySem.W.mg_of
def Ag:=@PySem.F.type_list_append
def Ah:=@PySem.F.slot_list_append
def Ai:=@Bool.false_ne_true
def Aj:=@Bool.and_eq_true
def Ak:=@decide_eq_true_eq
def Al:=@List.map_congr_left
def Am:=@List.mem_cons_self
def An:=@Nat.le_trans
def Ao:=@decide_eq_false
def Ap:=@List.mem_filter
def Aq:=@PySem.isSubtype_type
def Ar:=@PySem.boot_len
def As:=@of_decide_eq_true
def Au:=@PySem.PassesOwn.never
def Av:=@List.getElem?_set_self
def Aw:=@List.filterMap_map
def Ax:=@PySem.call_isinstance
def Ay:=@of_decide_eq_false
def Az:=@List.mem_of_getElem?
def Ba:=@List.length_cons
def Bb:=@PySem.W.mg_none_of
def Bc:=@List.filterMap_cons
def Bd:=@Array.getElem?_eq_getElem
def Be:=@List.mem_of_mem_take
def Bf:=@PyProof.Rows.slot_tuple_getitem
def Bg:=@List.replicate_succ
def Bh:=@List.drop_eq_getElem_cons
def Bi:=@List.headD_cons
def Bj:=@List.append_nil
def Bk:=@List.length_drop
def Bl:=@Array.length_toList
def Bm:=@List.take_succ_eq_append_getElem
def Bn:=@PyProof.Rows.callWith_type1
def Bo:=@List.length_range
def Bp:=@List.getElem?_append_right
def Bq:=@List.range_succ
def Br:=@List.getElem?_append_left
def Bs:=@List.flatten_cons
def Bu:=@decide_eq_true
def Bv:=@Int.emod_nonneg
def Bw:=@Nat.le_of_lt
def Bx:=@Bool.false_eq_true
def By:=@List.nodup_range
def Bz:=@PySem.wpAny_holding
def Ca:=@List.getElem?_replicate
def Cb:=@List.cons.injEq
def Cc:=@Bool.eq_iff_iff
def Cd:=@decide_eq_decide
def Ce:=@Int.emod_lt_of_pos
def Cf:=@List.mem_append_left
def Cg:=@List.mem_of_mem_drop
def Ci:=@decide_eq_false_iff_not
def Cj:=@Nat.zero_le
def Cm:=@Option.map_eq_some_iff
def Cn:=@List.length_replicate
def Co:=@PySem.wpAny_newObj_type
def Cp:=@PySem.sizeLine_eq
def Cq:=@PySem.wpAny_call_entry
def Cr:=@List.length_pos_iff
def Cs:=@List.idxOf_lt_length_iff
def Ct:=@List.length_erase_of_mem
def Cu:=@List.Pairwise.imp_of_mem
def Cv:=@List.take_succ
def Cw:=@List.length_pos_of_mem
def Cz:=@PySem.Heap.get?_update_other
def Dc:=@List.filterMap_eq_map
def Dd:=@List.perm_append_comm
def De:=@List.take_length
def Df:=@List.getElem_mem
def Dg:=@List.take_append_of_le_length
def Dh:=@List.length_set
def Di:=@Bool.or_eq_true
def Dj:=@List.map_nil
def Dk:=@Prod.mk.injEq
def Dl:=@PySem.wpAny_callSpecial?_slot
def Dm:=@List.take_of_length_le
def Dn:=@PySem.Heap.get?_update_self
def Dq:=@PySem.Heap.size_push
def Dr:=@List.filter_append
def Ds:=@List.getElem?_take
def Dt:=@List.zip_cons_cons
def Du:=@Nat.lt_succ_of_lt
def Dv:=@List.mem_reverse
def Dy:=@List.map_id
abbrev Dz:=PySem.Value->PySem.Shared->Prop
abbrev Eb:=List (PySem.Addr×PySem.Obj)
open PySem.W (Frag)
def Aa0:=@List.mem_append
def Aa1:=@List.mem_cons
def Aa2:=@List.getElem?_eq_getElem
def Aa3:=@List.length_map
def Aa4:=@List.nodup_append
def Aa5:=@List.nodup_cons
def Aa6:=@PySem.Heap.get?_push_of_some
def Aa7:=@Nat.le_refl
def Aa8:=@List.mem_map
def Aa9:=@List.getElem?_map
def Ab0:=@List.getElem?_eq_some_iff
def Ab1:=@PySem.F.plainAttrs_list
def Ab2:=@List.size_toArray
def Ab3:=@PySem.Heap.lt_size
def Ab4:=@Option.some.inj
def Ab5:=@List.mem_range
def Ab6:=@List.cons_append
def Ab7:=@List.length_append
def Ab8:=@Nat.lt_of_lt_of_le
def Ab9:=@Nat.ne_of_lt
def Ac0:=@List.getD_eq_getElem?_getD
def Ac1:=@List.mem_append_right
def Ac2:=@List.not_mem_nil
def Ac3:=@PySem.Heap.get?_push_size
def Ac4:=@List.idxOf_lt_length_of_mem
def Ac5:=@List.eq_nil_or_concat
def Ac6:=@List.nodup_iff_pairwise_ne
def Ac7:=@List.map_cons
def Ac8:=@Int.toNat_natCast
def Ac9:=@List.all_eq_true
def Ad0:=@List.getElem?_set_ne
def Ad1:=@List.length_take
def Ad2:=@List.map_append
def Ad3:=@List.take_append_drop
def Ad4:=@List.mem_cons_of_mem
def Ad5:=@List.append_of_mem
def Ad6:=@List.getElem?_eq_none
def Ad7:=@List.append_assoc
def Ad8:=@List.mem_singleton
def Ad9:=@Nat.lt_irrefl
def Ae0:=@List.pairwise_map
def Ae1:=@List.pairwise_cons
def Ae2:=@List.length_reverse
def Ae3:=@List.map_map
namespace L2
open PySem PySem.Spec PyProof.Rows
abbrev Key:=Sum Int Str
def cY7:Key->Value->Bool
 | .inl k,v=>Value.isInt k v
 | .inr x,v=>Value.isStrOf x v
def dT4 (w:World):Key->Int
 | .inl k=>hashInt k
 | .inr x=>hashStr w x
theorem K9:∀{k:Key} {v:Value},cY7 k v=true->(∃i t,k=Sum.inl i/\v=Value.int i t)\/(∃x t,k=Sum.inr x/\v=Value.str x t)
 | .inl i,v,h=>by
  obtain⟨t,e⟩:=Value.isInt_shape (k:=i) (v:=v) h;exact .inl ⟨i,t,rfl,e⟩
 | .inr x,v,h=>by
  obtain⟨t,e⟩:=Value.isStrOf_shape (x:=x) (v:=v) h;exact .inr ⟨x,t,rfl,e⟩
theorem dG6 (a b:Int):decide ((Sum.inl a:Key)=Sum.inl b)=(a==b):=by
 by_cases e:a=b
 .subst e;simp
 .have h:¬(Sum.inl a:Key)=Sum.inl b:=λq=>e (Sum.inl.inj q)
  rw[Ao h];exact(beq_eq_false_iff_ne.mpr e).symm
theorem dF0 (a b:Str):decide ((Sum.inr a:Key)=Sum.inr b)=decide (a=b):=by
 by_cases e:a=b
 .subst e;simp
 .have h:¬(Sum.inr a:Key)=Sum.inr b:=λq=>e (Sum.inr.inj q)
  rw[Ao h,Ao e]
theorem dH7 (a:Int)(b:Str):decide ((Sum.inl a:Key)=Sum.inr b)=false:=Ao (λq=>nomatch q)
theorem dK9 (a:Str)(b:Int):decide ((Sum.inr a:Key)=Sum.inl b)=false:=Ao (λq=>nomatch q)
def bV8 (prog:Program)(w:World):PySem.KeyKind prog w Key where
 is:=cY7
 hash:=dT4 w
 inj:=λv a b ha hb=>by
  rcases K9 ha with⟨i,t,rfl,rfl⟩ | ⟨x,t,rfl,rfl⟩
  .rcases K9 hb with⟨j,u,rfl,e⟩ | ⟨y,u,rfl,e⟩
   .injection e with e1 _;rw[e1]
   .exact nomatch e
  .rcases K9 hb with⟨j,u,rfl,e⟩ | ⟨y,u,rfl,e⟩
   .exact nomatch e
   .injection e with e1 _;rw[e1]
 byValue:=λk v h=>by
  rcases K9 h with⟨i,t,rfl,rfl⟩ | ⟨x,t,rfl,rfl⟩ <;> rfl
 pyHash:=λhv h=>by
  rcases K9 hv with⟨i,t,rfl,rfl⟩ | ⟨x,t,rfl,rfl⟩
  .exact wpAny_pyHash_int h
  .exact wpAny_pyHash_str h
 eqBool:=λhu hv h=>by
  rcases K9 hu with⟨i,t,rfl,rfl⟩ | ⟨x,t,rfl,rfl⟩
  .rcases K9 hv with⟨j,u,rfl,rfl⟩ | ⟨y,u,rfl,rfl⟩
   .rw[dG6]at h;exact wpAny_eqBool_int h
   .rw[dH7]at h;exact SeqAt.EqAt.int_str i t y u _ _ _ _ h
  .rcases K9 hv with⟨j,u,rfl,rfl⟩ | ⟨y,u,rfl,rfl⟩
   .rw[dK9]at h;exact SeqAt.EqAt.str_int x t j u _ _ _ _ h
   .rw[dF0]at h;exact wpAny_eqBool_str h
 «strs» := λk x t v h=>by
  rcases K9 h with⟨i,u,rfl,e⟩ | ⟨y,u,rfl,e⟩
  .exact nomatch e
  .injection e with e1 _
   subst e1;cases v <;> rfl
inductive V where
 | non | bl (b:Bool) | int (i:Int) | str (x:Str) | byt (b:Array UInt8) | flt (b:UInt64) | ref (a:Addr) | ty (n:String)
 deriving DecidableEq
def RelV:V->Value->Prop
 | .non,u=>u=Value.none
 | .bl b,u=>u=Value.bool b
 | .int i,u=>∃t,u=Value.int i t
 | .str x,u=>∃t,u=Value.str x t
 | .byt b,u=>∃t,u=Value.bytes b t
 | .flt b,u=>∃t,u=Value.float b t
 | .ref a,u=>u=Value.ref a
 | .ty n,u=>u=Value.type n
abbrev Vals:List V->AH->Prop:=Paired RelV
theorem Vals.length {xs:List V}{us:AH}(r:Vals xs us):xs.length=us.length:=Paired.length r
theorem Vals.get:∀{xs:List V} {us:AH} {i:Nat} {x:V},Vals xs us->xs[i]? = some x->∃u,us[i]? = some u/\RelV x u
 | _,_,_,_,.nil,e=>by simp at e
 | _,_,0,_,.cons r _,e=>by simp at e;subst e;exact⟨_,rfl,r⟩
 | _,_,i+1,x,.cons _ t,e=>by
  obtain⟨u,h1,h2⟩:=Vals.get (i:=i) (x:=x) t (by simpa using e)
  exact⟨u,by simpa using h1,h2⟩
theorem Vals.set {x:V}{u:Value}(r:RelV x u):∀{xs:List V} {us:AH} (i:Nat),Vals xs us->Vals (xs.set i x) (us.set i u)
 | _,_,_,.nil=>.nil
 | _,_,0,.cons _ t=>.cons r t
 | _,_,i+1,.cons q t=>.cons q (Vals.set r i t)
theorem Vals.append:∀{xs ys:List V} {us ws:AH},Vals xs us->Vals ys ws->Vals (xs++ys) (us++ws)
 | _,_,_,_,.nil,s=>s
 | _,_,_,_,.cons r t,s=>.cons r (Vals.append t s)
theorem Vals.take:∀{xs:List V} {us:AH} (n:Nat),Vals xs us->Vals (xs.take n) (us.take n)
 | _,_,0,_=>.nil
 | _,_,_+1,.nil=>.nil
 | _,_,n+1,.cons r t=>.cons r (Vals.take n t)
theorem Vals.drop:∀{xs:List V} {us:AH} (n:Nat),Vals xs us->Vals (xs.drop n) (us.drop n)
 | _,_,0,r=>r
 | _,_,_+1,.nil=>.nil
 | _,_,n+1,.cons _ t=>Vals.drop n t
def dP2:Option V->Option Value->Prop
 | some v,some u=>RelV v u
 | none,none=>True
 | _,_=>False
def KV {κ:Type}:List (κ×V)->List (κ×Value)->Prop:=Paired λ(p:κ×V) (q:κ×Value)=>p.1=q.1/\RelV p.2 q.2
def kV:Key->V
 | .inl i=>.int i
 | .inr x=>.str x
inductive HO where
 /-- a list -/
 | lst (xs:List V)
 /-- a tuple (never changes) -/
 | tup (xs:List V)
 /-- a dict whose keys are ints and texts;one whose keys are tuples of ints and texts (the empty one is both) -/
 | dK (kvs:List (Key×V)) | dT (kvs:List (List Key×V))
 /-- a set of ints: its members,its size -/
 | set (S:Int->Bool) (n:Nat)
 /-- an instance of the class at C,its dict at dx,its attributes -/
 | ins (C dx:Addr) (fs:List (Str×V))
 /-- the dict of the instance at x -/
 | own (x:Addr)
 /-- the dict of an exception -/
 | xd (fs:List (Str×V))
 /-- a bound method,f of x -/
 | met (f x:Addr)
 /-- a range object lo,lo+1,.. below hi -/
 | rng (lo hi:Int)
 /-- a thing that is known to the object (the script;a dict while a loop walks it): read,never written while it is so -/
 | frz (o:Obj) (u:HO)
 /-- a code object's table -/
 | tbl (ps:AK)
 /-- any other thing,by what is true of its one object (a def of one's own: SetO a S n:=HO.ext λh=>..) -/
 | ext (φ:Heap->Prop)
abbrev Hp:=Addr->Option HO
def upd (H:Hp)(a:Addr)(o:HO):Hp:=λb=>if b=a then some o else H b
theorem C2 {H:Hp}{a:Addr}{o:HO}:upd H a o a=some o:=by unfold upd;rw[Ac rfl]
theorem B8 {H:Hp}{a b:Addr}{o:HO}(h:b≠a):upd H a o b=H b:=by unfold upd;rw[Ab h]
theorem D8 {H:Hp}{a b:Addr}{o:HO}(h:H a=some o)(h':H b=none):a≠b:=by
 intro e;subst e;rw[h]at h';cases h'
def Tup0 (h:Heap)(a:Addr)(items:AK):Prop:=∃o,h.get? a=some o/\o.cls=.type "tuple" /\ (∃n,o.data=.seq items n)/\o.dict=none
theorem Tup0.tup {h:Heap}{a:Addr}{items:AK}(p:Tup0 h a items):IsTup h a items:=p.imp λ_ q=>⟨q.1,q.2.1,q.2.2.1⟩
theorem Tup0.nw (h:Heap)(items:AK)(n:Nat):Tup0 (h.push {cls:=.type "tuple",data:=.seq items n}) h.objs.size items:=⟨_,Ac3 _ rfl,rfl,⟨n,rfl⟩,rfl⟩
section
variable (P:Program)(w:World)
def ObjOk (H:Hp)(h:Heap)(a:Addr):HO->Prop
 | .lst xs=>xs.length<=sizeLine/\∃(its:AH) (n:Nat),Vals xs its/\h.get? a=some {cls:=.type "list",data:=.seq its.toArray n}
 | .tup xs=>xs.length<=sizeLine/\∃its:AH,Vals xs its/\Tup0 h a its.toArray
 | .dK kvs=>kvs.length<=sizeLine/\(a==sysModules)=false/\∃vs,KV kvs vs/\h.DictOf (bV8 P w) a vs
 | .dT kvs=>kvs.length<=sizeLine/\(a==sysModules)=false/\∃xs:List (List Key×Addr×Value),
   Paired (λ(p:List Key×V) (q:List Key×Addr×Value)=>p.1=q.1/\H q.2.1=some (.tup (p.1.map kV))/\RelV p.2 q.2.2) kvs xs /\
   ∃o es ep,h.get? a=some o/\o.ExactDict/\o.data=.dict es ep/\es.toList=xs.map (entryOfKey (tupleKind (bV8 P w)))/\(xs.map (·.1)).Nodup
 | .set S n=>h.SetOf (intKind P w) a S n
 | .ins C dx fs=>H dx=some (.own a)/\fs.length<=1000/\dx≠a/\h.get? a=some (PySem.W.instObj C dx) /\
   ∃mA,h.Ns1 dx mA/\(∀f,dP2 (fs.lookup f) (mA f))/\PySem.Within mA (fs.map (·.1))
 | .own _=>∃o,h.get? a=some o
 | .xd fs=>∃mA,h.Ns1 a mA/\∀f,dP2 (fs.lookup f) (mA f)
 | .rng lo hi=>∃t u v,h.get? a=some {cls:=.type "range",data:=.fields #[.int lo t,.int hi u,.int 1 v]}
 | .frz o u=>h.get? a=some o/\ObjOk H h a u
 | .tbl ps=>h.get? a=some {cls:=.none,data:=.fields ps}
 | .met f x=>h.get? a=some (PySem.W.methodObj (.ref f) (.ref x))
 | .ext φ => φ h/\(∃o,h.get? a=some o)/\∀h1 h2:Heap,φ h1->(∀o,h1.get? a=some o->h2.get? a=some o)->φ h2
def HOk (H:Hp)(h:Heap):Prop:=∀a o,H a=some o->ObjOk P w H h a o
end
section
variable {P:Program}{w:World}{H H':Hp}{h h':Heap}{a:Addr}{o:HO}
theorem ObjOk.lt (x:ObjOk P w H h a o):a<h.objs.size:=by
 cases o with
 | lst xs=>obtain⟨_,_,_,_,e⟩:=x;exact Ab3 e
 | tup xs=>obtain⟨_,_,_,p⟩:=x;exact p.tup.lt
 | dK kvs=>obtain⟨_,_,_,_,o,_,_,e,_⟩:=x;exact Ab3 e
 | dT kvs=>obtain⟨_,_,_,_,o,_,_,e,_⟩:=x;exact Ab3 e
 | set S n=>obtain⟨o,_,_,_,e,_⟩:=x;exact Ab3 e
 | ins C dx fs=>obtain⟨_,_,_,e,_⟩:=x;exact Ab3 e
 | own y=>obtain⟨_,e⟩:=x;exact Ab3 e
 | xd fs=>obtain⟨_,⟨_,_,_,e,_⟩,_⟩:=x;exact Ab3 e
 | rng lo hi=>obtain⟨_,_,_,e⟩:=x;exact Ab3 e
 | frz z u=>obtain⟨e,_⟩:=x;exact Ab3 e
 | tbl ps=>exact Ab3 (show h.get? a=some _ from x)
 | met f y=>exact Ab3 (show h.get? a=some _ from x)
 | ext φ=>obtain⟨_,⟨_,e⟩,_⟩:=x;exact Ab3 e
theorem Paired.mapP {α β:Type}{F G:α->β->Prop}:∀{l₁:List α} {l₂:List β},Paired F l₁ l₂->(∀a b,F a b->G a b)->Paired G l₁ l₂
 | _,_,.nil,_=>.nil
 | _,_,.cons r t,f=>.cons (f _ _ r) (Paired.mapP t f)
theorem ObjOk.stay (x:ObjOk P w H h a o)(k:∀b u,(b=a\/H b=some (.own a))->h.get? b=some u->h'.get? b=some u)
  (ho:∀b,H b=some (.own a)->H' b=some (.own a)) (M:∀b xs,H b=some (.tup xs)->H' b=some (.tup xs)):ObjOk P w H' h' a o:=by
 induction o with
 | lst xs=>obtain⟨z,its,n,r,e⟩:=x;exact⟨z,its,n,r,k _ _ (.inl rfl) e⟩
 | tup xs=>obtain⟨z,its,r,j,e,c⟩:=x;exact⟨z,its,r,j,k _ _ (.inl rfl) e,c⟩
 | dK kvs=>obtain⟨z,y,vs,r,j,m,s,e,c⟩:=x;exact⟨z,y,vs,r,j,m,s,k _ _ (.inl rfl) e,c⟩
 | dT kvs=>
  obtain⟨z,y,xs,r,j,m,s,e,c⟩:=x;exact⟨z,y,xs,Paired.mapP r λp q z=>⟨z.1,M _ _ z.2.1,z.2.2⟩,j,m,s,k _ _ (.inl rfl) e,c⟩
 | set S n=>obtain⟨j,m,s,t,e,c⟩:=x;exact⟨j,m,s,t,k _ _ (.inl rfl) e,c⟩
 | ins C dx fs=>
  obtain⟨d,z,ne,e,Y,⟨X,m,s,J,c⟩,r⟩:=x;exact⟨ho _ d,z,ne,k _ _ (.inl rfl) e,Y,⟨X,m,s,k _ _ (.inr d) J,c⟩,r⟩
 | own y=>obtain⟨j,e⟩:=x;exact⟨j,k _ _ (.inl rfl) e⟩
 | xd fs=>obtain⟨Y,⟨X,m,s,e,c⟩,r⟩:=x;exact⟨Y,⟨X,m,s,k _ _ (.inl rfl) e,c⟩,r⟩
 | rng lo hi=>obtain⟨t,u,v,e⟩:=x;exact⟨t,u,v,k _ _ (.inl rfl) e⟩
 | frz j u N=>obtain⟨e,q⟩:=x;exact⟨k _ _ (.inl rfl) e,N q⟩
 | tbl ps=>
  have e:h.get? a=some {cls:=.none,data:=.fields ps}:=x
  show h'.get? a=some {cls:=.none,data:=.fields ps}
  exact k a _ (.inl rfl) e
 | met f y=>
  have e:h.get? a=some (PySem.W.methodObj (.ref f) (.ref y)):=x
  show h'.get? a=some (PySem.W.methodObj (.ref f) (.ref y))
  exact k a _ (.inl rfl) e
 | ext φ=>obtain⟨p,⟨o,e⟩,U⟩:=x;exact⟨U _ _ p λo q=>k _ _ (.inl rfl) q,⟨o,k _ _ (.inl rfl) e⟩,U⟩
theorem HOk.lt (x:HOk P w H h)(e:H a=some o):a<h.objs.size:=(x a o e).lt
theorem HOk.fresh (x:HOk P w H h)(e:h.objs.size<=a):H a=none:=by
 cases q:H a with
 | none=>rfl
 | some u=>exact absurd (Ab8 (x.lt q) e) (Ad9 _)
theorem HOk.kept (x:HOk P w H h)(k:∀b u,h.get? b=some u->h'.get? b=some u):HOk P w H h':=λa o e=>
 (x a o e).stay (λb u _ q=>k b u q) (λ_ q=>q) λ_ _ q=>q
theorem HOk.laid (x:HOk P w H h)(k:∀b u,h.get? b=some u->h'.get? b=some u)(hp:h.objs.size<=a)(y:ObjOk P w (upd H a o) h' a o):HOk P w (upd H a o) h':=λb u e=>by
 have r:=x.fresh hp
 by_cases z:b=a
 .subst z;rw[C2]at e;cases e;exact y
 .rw[B8 z]at e;exact(x b u e).stay (λc v _ q=>k c v q) (λc q=>by rw[B8 (D8 q r)];exact q) λc xs q=>by rw[B8 (D8 q r)];exact q
end
def Rd (H:Hp)(a:Addr)(u:HO):Prop:=H a=some u\/∃o,H a=some (.frz o u)
theorem Rd.ok {P:Program}{w:World}{H:Hp}{h:Heap}{a:Addr}{u:HO}(r:Rd H a u)(x:HOk P w H h):ObjOk P w H h a u:=by
 rcases r with r | ⟨o,r⟩
 .exact x a u r
 .obtain⟨_,q⟩:=x a _ r;exact q
def Mut:Option HO->Prop
 | some (.lst _)=>True
 | some (.dK _)=>True
 | some (.dT _)=>True
 | some (.set _ _)=>True
 | some (.ins _ _ _)=>True
 | some (.ext _)=>True
 | _=>False
section
variable {P:Program}{w:World}{H:Hp}{h h':Heap}{x e:Addr}{o':HO}
theorem HOk.write (ok:HOk P w H h)(mu:Mut (H x))(U:e=x\/H e=some (.own x))(k:∀b u,b≠e->h.get? b=some u->h'.get? b=some u)(Y:∃u,h'.get? e=some u)
  (X:ObjOk P w (upd H x o') h' x o'):HOk P w (upd H x o') h':=λb u q=>by
 have p:∀c y,H c=some (.own y)->c≠x:=λc y r z=>by subst z;rw[r]at mu;exact mu
 have s:∀c xs,H c=some (.tup xs)->c≠x:=λc xs r z=>by subst z;rw[r]at mu;exact mu
 by_cases m:b=x
 .subst m;rw[C2]at q;cases q;exact X
 .rw[B8 m]at q;by_cases j:b=e
  .have J:H b=some (.own x):=by
    rcases U with z | z
    .exact absurd (j.trans z) m
    .rw[j];exact z
   rw[q]at J;cases J;obtain⟨v,M⟩:=Y;exact⟨v,by rw[j];exact M⟩
  .refine(ok b u q).stay (λc v hc r=>k c v ?_ r) (λc r=>by rw[B8 (p c b r)];exact r) λc xs r=>by rw[B8 (s c xs r)];exact r
   rcases hc with rfl | hc
   .exact j
   .rintro rfl;rcases U with z | z
    .exact p c b hc z
    .rw[hc]at z;cases z;exact m rfl
end
structure Un (fs ex:AM)(H H':Hp)(h h':Heap):Prop where
 keep:∀b o,h.get? b=some o->H b=none->b∉fs->b∉ex->h'.get? b=some o
 slot:∀b o,h.get? b=some o->H b=none->b∈fs->b∉ex->∃sl,h'.get? b=some {o with slots:=sl}
 free:∀b o,h.get? b=some o->H b=none->b∉ex->H' b=none
 there:∀b o,h.get? b=some o->b∉ex->∃o',h'.get? b=some o'
 tups:∀b xs,H b=some (.tup xs)->H' b=some (.tup xs)
 frzs:∀b o u,H b=some (.frz o u)->H' b=some (.frz o u)
 tbls:∀b ps,H b=some (.tbl ps)->∃more,H' b=some (.tbl (ps++more))
section
variable {fs fs' ex ex':AM}{H H1 H2:Hp}{h h1 h2 h':Heap}{a x e:Addr}{o:HO}
theorem Un.any (u:Un fs ex H H1 h h1){b:Addr}{ob:Obj}(q:h.get? b=some ob)(n:H b=none)(w:b∉ex):∃sl,h1.get? b=some {ob with slots:=sl}:=by
 by_cases y:b∈fs
 .exact u.slot b ob q n y w
 .exact⟨ob.slots,u.keep b ob q n y w⟩
theorem Un.kept (k:∀b u,h.get? b=some u->h'.get? b=some u):Un fs ex H H h h':=
 ⟨λb y q _ _ _=>k b y q,λb y q _ _ _=>⟨y.slots,k b y q⟩,λ_ _ _ n _=>n,λb y q _=>⟨y,k b y q⟩,λ_ _ q=>q,λ_ _ _ q=>q,λ_ ps q=>⟨#[],by rw[q];simp⟩⟩
theorem Un.refl:Un fs ex H H h h:=Un.kept λ_ _ q=>q
theorem Un.laid (k:∀b u,h.get? b=some u->h'.get? b=some u)(hp:h.objs.size<=a)(y:H a=none):Un fs ex H (upd H a o) h h' where
 keep:=λb u q _ _ _=>k b u q
 slot:=λb u q _ _ _=>⟨u.slots,k b u q⟩
 free:=λb u q n _=>by rw[B8 (Ab9 (Ab8 (Ab3 q) hp))];exact n
 there:=λb u q _=>⟨u,k b u q⟩
 tups:=λb xs q=>by rw[B8 (D8 q y)];exact q
 frzs:=λb u xs q=>by rw[B8 (D8 q y)];exact q
 tbls:=λb ps q=>⟨#[],by rw[B8 (D8 q y),q];simp⟩
theorem Un.write (mu:Mut (H x))(s:e=x\/H e=some (.own x))(k:∀b u,b≠e->h.get? b=some u->h'.get? b=some u)(w:∃u,h'.get? e=some u):Un fs ex H (upd H x o) h h':=by
 have p:∀b,H b=none->b≠x:=λb n z=>by subst z;rw[n]at mu;exact mu
 have c:∀b,H b=none->b≠e:=λb n z=>by
  subst z;rcases s with r | r
  .exact p b n r
  .rw[n]at r;cases r
 have j:∀b u,H b=some u->¬Mut (some u)->b≠x:=λb u q nm z=>by subst z;rw[q]at mu;exact nm mu
 refine⟨λb u q n _ _=>k b u (c b n) q,λb u q n _ _=>⟨u.slots,k b u (c b n) q⟩,λb u q n _=>by rw[B8 (p b n)];exact n,λb u q _=>?_,
  λb xs q=>by rw[B8 (j b _ q λz=>z)];exact q,λb u xs q=>by rw[B8 (j b _ q λz=>z)];exact q,λb ps q=>⟨#[],by rw[B8 (j b _ q λz=>z),q];simp⟩⟩
 by_cases y:b=e
 .subst y;exact w
 .exact⟨u,k b u y q⟩
end
def trk (h:Heap)(H:Hp):AM:=(List.range h.objs.size).filter λa=>(H a).isSome
def bA3 (h:Heap)(H:Hp):Heap:=PySem.W.hideAll h (trk h H)
theorem cB0 (h:Heap)(H:Hp):(bA3 h H).objs.size=h.objs.size:=PySem.W.hideAll_size _ _
theorem cC8 {h:Heap}{H:Hp}{b:Addr}{o:Obj}(e:h.get? b=some o)(n:H b=none):(bA3 h H).get? b=some o:=
 PySem.W.hideAll_get _ e λy=>by
  have q:(H b).isSome=true:=(Ap.mp y).2
  rw[n]at q;simp at q
theorem cS2 {h:Heap}{H:Hp}{b:Addr}{o:Obj}(e:(bA3 h H).get? b=some o):h.get? b=some o/\H b=none:=by
 have e':h.get? b=some o:=PySem.W.of_hideAll (trk h H) e
 refine⟨e',?_⟩;cases q:H b with
 | none=>rfl
 | some x=>
  have y:b∈trk h H:=Ap.mpr ⟨Ab5.mpr (Ab3 e'),by simp[q]⟩
  have z:(bA3 h H).get? b=none:=PySem.W.hideAll_none (trk h H) y
  rw[z]at e;cases e
def bF3 (g h:Heap)(L:Addr):List (Addr×Obj):=(List.range h.objs.size).filterMap λa=>if a=L\/(g.get? a).isSome=true then none else(h.get? a).map λo=>(a,o)
theorem L4 {g h:Heap}{L a:Addr}{o:Obj}(h1:a≠L)(y:g.get? a=none)(e:h.get? a=some o):(a,o)∈bF3 g h L:=
 List.mem_filterMap.mpr ⟨a,Ab5.mpr (Ab3 e),by simp[h1,y,e]⟩
theorem aP4 {g h:Heap}{L:Addr}{p:Addr×Obj}(hp:p∈bF3 g h L):p.1≠L/\g.get? p.1=none/\h.get? p.1=some p.2:=by
 obtain⟨b,_,e⟩:=List.mem_filterMap.mp hp;split at e
 .cases e
 .rename_i hn;cases q:h.get? b with
  | none=>rw[q]at e;simp at e
  | some u=>
   rw[q]at e;simp only[Option.map_some,Option.some.injEq]at e;subst e;refine⟨λz=>hn (.inl z),?_,q⟩
   show g.get? b=none
   cases r:g.get? b with
   | none=>rfl
   | some v=>exact(hn (.inr (by simp[r]))).elim
theorem aR0 {g h:Heap}{L:Addr}:News g L h (bF3 g h L):=λp hp=>let ⟨a,b,c⟩:=aP4 hp;⟨c,a,b⟩
structure Mod (K:Frag)(mg:Str->Option Value)(base:Heap):Prop where
 kin:K.In base
 glob:base.Ns mainGlobals mg
 blt:∃mb,base.Ns builtinsNs mb/\∀x:Str,x≠"__name__" -> mb x=bootBuiltins x
 nolimit:base.NoLimit
structure Cx where
 prog:Program
 w:World
 K:Frag
 mg:Str->Option Value
 base:Heap
 A:Around
 N:AJ
 s₀:Shared
 H₀:Hp
 env:Env
 outer:List Env
 stack:List Env
 ex:AM
 fn:Str->Bool
 calm:Bool
 pn:List (Addr×Obj)
 xe:Value->Shared->Prop
def frs (l:List Env):AM:=l.filterMap (·.frame)
abbrev Cx.fs (X:Cx):AM:=frs X.outer
def Vis (sc:Scope)(x:Str):Prop:=sc.names.lookup x=some .local\/sc.names.lookup x=some .cell\/sc.names.lookup x=some .free
def Loc (sc:Scope)(x:Str):Prop:=sc.names.lookup x=some .local\/sc.names.lookup x=some .cell
def dR8 (env:Env)(h:Heap)(m:Str->Option Value)(x:Str)(u:Value):Prop:=
 (env.kindOf x=some .local/\m x=some u)\/((env.kindOf x=some .cell\/env.kindOf x=some .free)/\∃c,env.cells.lookup x=some c/\h.IsCell c (some u))
structure Cx.Ok (X:Cx):Prop where
 mod:Mod X.K X.mg X.base
 kind:X.env.scope.kind=.function
 glob:X.env.globals=mainGlobals
 blt:X.env.builtins=builtinsNs
 above:X.s₀.heap.objs.size<=X.env.locals
 inj:∀x y c,X.env.cells.lookup x=some c->X.env.cells.lookup y=some c->x=y
 has:∀x,(X.env.kindOf x=some .cell\/X.env.kindOf x=some .free)->∃c,X.env.cells.lookup x=some c
 cab:∀x c,X.fn x=true->X.env.cells.lookup x=some c->X.s₀.heap.objs.size<=c
 hd:X.calm=true->X.A.handled=none
 frames:X.A.frames=some X.stack
 stk:X.stack=X.outer\/(X.stack=X.env::X.outer/\X.env.frame=some X.env.locals)
 exf:∀b∈X.ex,b≠X.env.locals/\∀x c,X.env.cells.lookup x=some c->c≠b
 bs:∀b o,X.base.get? b=some o->X.s₀.heap.get? b=some o/\X.H₀ b=none
 bsz:X.base.objs.size<=X.s₀.heap.objs.size
 noex:∀b o,X.base.get? b=some o->b∉X.ex
 exfs:∀b∈X.ex,b∉X.fs
 funs:X.s₀.heap.FunFrames X.base X.outer
 frf:∀b∈X.fs,X.H₀ b=none
structure Inv (X:Cx)(aA:Eb)(σ:List (Option V))(H:Hp)(s:Shared):Prop where
 ok:X.Ok
 os:s.os=X.s₀.os
 bare:AllBare s.gens
 base:Un X.fs X.ex X.H₀ H X.s₀.heap s.heap
 loc:∃m,s.heap.Ns X.env.locals m/\∀(i:Nat) (x:Str) (v:V),X.N[i]? = some x->σ[i]? = some (some v)->Vis X.env.scope x->∃u,RelV v u/\dR8 X.env s.heap m x u
 cell:∀x c,X.env.cells.lookup x=some c->∃v,s.heap.IsCell c v
 free:H X.env.locals=none
 freeC:∀x c,X.env.cells.lookup x=some c->H c=none
 pin:∀p∈X.pn++aA,s.heap.get? p.1=some p.2/\H p.1=none/\p.1≠X.env.locals/\p.1∉X.fs/\∀v,p.2.data≠.cell v
 hok:HOk X.prog X.w H s.heap
 len:σ.length=X.N.length
section
variable {X:Cx}{aA:Eb}{σ:List (Option V)}{H H':Hp}{s:Shared}{h':Heap}
theorem Cx.Ok.nofr (ok:X.Ok){b:Addr}{o:Obj}(e:X.base.get? b=some o):b∉X.fs:=λy=>by
 have:=(ok.funs.mem y).1
 rw[e]at this;cases this
theorem Inv.bs (I:Inv X aA σ H s):∀b o,X.base.get? b=some o->s.heap.get? b=some o/\H b=none:=λb o e=>
 ⟨I.base.keep b o (I.ok.bs b o e).1 (I.ok.bs b o e).2 (I.ok.nofr e) (I.ok.noex b o e),I.base.free b o (I.ok.bs b o e).1 (I.ok.bs b o e).2 (I.ok.noex b o e)⟩
theorem Inv.bk (I:Inv X aA σ H s):∀b o,X.base.get? b=some o->s.heap.get? b=some o:=λb o e=>(I.bs b o e).1
theorem Inv.mod (I:Inv X aA σ H s):Mod X.K X.mg X.base:=I.ok.mod
theorem Inv.kIn (I:Inv X aA σ H s):X.K.In s.heap:=I.ok.mod.kin.keeps I.bk
theorem Inv.lt (I:Inv X aA σ H s):X.env.locals<s.heap.objs.size:=let ⟨_,e,_⟩:=I.loc;e.lt
theorem Inv.sz (I:Inv X aA σ H s):X.s₀.heap.objs.size<=s.heap.objs.size:=An I.ok.above (Bw I.lt)
theorem Inv.nofs (I:Inv X aA σ H s){a:Addr}(h:s.heap.objs.size<=a):a∉X.fs:=λe=>by
 obtain⟨_,o,ho,_⟩:=I.ok.funs.mem e;exact absurd (Ab8 (Ab3 ho) (An I.sz h)) (Ad9 _)
theorem Inv.cne (I:Inv X aA σ H s):∀x c,X.env.cells.lookup x=some c->c≠X.env.locals:=λx c e z=>by
 obtain⟨v,o,ho,r⟩:=I.cell x c e;obtain⟨m,⟨p,j,k,w,y,_⟩,_⟩:=I.loc;rw[z,w]at ho;cases ho;rw[y]at r;cases r
theorem Inv.funs (I:Inv X aA σ H s):s.heap.FunFrames X.base X.outer:=by
 have all:∀(l:List Env),(∀b∈frs l,b∈X.fs)->X.s₀.heap.FunFrames X.base l->s.heap.FunFrames X.base l:=by
  intro l;induction l with
  | nil=>intro _ _;trivial
  | cons c r J=>
   intro j m;obtain⟨q,⟨L,o,k,Y,ho,p⟩,U⟩:=m;have y:L∈X.fs:=j L (by unfold frs;rw[Bc,k];exact Am)
   obtain⟨M,e⟩:=I.base.slot L o ho (I.ok.frf L y) y λz=>I.ok.exfs L z y
   exact⟨q,⟨L,_,k,Y,e,p⟩,J (λb w=>j b (by unfold frs;rw[Bc,k];exact Ad4 _ w)) U⟩
 exact all X.outer (λ_ w=>w) I.ok.funs
theorem Inv.stack (I:Inv X aA σ H s):s.heap.FunFrames X.base X.stack:=by
 rcases I.ok.stk with e | ⟨e,y⟩
 .rw[e];exact I.funs
 .rw[e];obtain⟨m,w,_⟩:=I.loc;refine .cons (by rw[I.ok.kind];decide) y w ?_ I.funs
  exact Heap.get?_none_of_le (An I.ok.bsz I.ok.above)
theorem Inv.stkSub (I:Inv X aA σ H s):∀b∈frs X.stack,b∈X.env.locals::X.fs:=λb y=>by
 rcases I.ok.stk with e | ⟨e,w⟩
 .rw[e]at y;exact Ad4 _ y
 .rw[e]at y;unfold frs at y;rw[Bc,w]at y;exact y
theorem Inv.stkFree (I:Inv X aA σ H s):∀b∈frs X.stack,H b=none:=λb hb=>by
 rcases Aa1.mp (I.stkSub b hb) with e | hb
 .rw[e];exact I.free
 .obtain⟨_,o,ho,_⟩:=I.ok.funs.mem hb;exact I.base.free b o ho (I.ok.frf b hb) λz=>I.ok.exfs b z hb
theorem Inv.step {g':Array GenState}{t':Nat}{d':Drawn}{ch:AM}(I:Inv X aA σ H s)
  (Y:∀b∈ch,(b∈X.ex\/X.s₀.heap.objs.size<=b)/\b≠X.env.locals/\(∀x c,X.env.cells.lookup x=some c->c≠b)/\∀p∈X.pn++aA,p.1≠b)
  (keep:∀b o,b≠X.env.locals->b∉X.fs->b∉ch->s.heap.get? b=some o->H b=none->h'.get? b=some o)
  (slot:∀b o,b≠X.env.locals->b∈X.fs->b∉ch->s.heap.get? b=some o->H b=none->∃sl,h'.get? b=some {o with slots:=sl}) (free:∀b o,b∉ch->s.heap.get? b=some o->H b=none->H' b=none)
  (there:∀b o,b∉ch->s.heap.get? b=some o->∃o',h'.get? b=some o')
  (B:∀b xs,H b=some (.tup xs)->H' b=some (.tup xs)) (Q:∀b o u,H b=some (.frz o u)->H' b=some (.frz o u)) (F:∀b ps,H b=some (.tbl ps)->∃more,H' b=some (.tbl (ps++more)))
  (ns:∀m,s.heap.Ns X.env.locals m->h'.Ns X.env.locals m) (hok:HOk X.prog X.w H' h') (hg:AllBare g') :
  Inv X aA σ H' {s with heap:=h',gens:=g',drawn:=d',toks:=t'}:=by
 have D:∀b o,X.s₀.heap.get? b=some o->b≠X.env.locals:=λb o e=>Ab9 (Ab8 (Ab3 e) I.ok.above)
 have M:∀b o,X.s₀.heap.get? b=some o->b∉X.ex->b∉ch:=λb o e y N=>by
  rcases (Y b N).1 with z | z
  .exact y z
  .exact absurd (Ab8 (Ab3 e) z) (Ad9 _)
 have j:∀x c,X.env.cells.lookup x=some c->∀v,s.heap.IsCell c v->h'.IsCell c v:=λx c e v ⟨o,ho,P⟩=>by
  have U:c∉ch:=λz=>(Y c z).2.2.1 x c e rfl
  by_cases hc:c∈X.fs
  .obtain⟨sl,q⟩:=slot c o (I.cne x c e) hc U ho (I.freeC x c e);exact⟨_,q,P⟩
  .exact⟨o,keep c o (I.cne x c e) hc U ho (I.freeC x c e),P⟩
 refine⟨I.ok,I.os,hg,⟨λb o e n N y=>?_,λb o e n N y=>?_,λb o e n y=>?_,λb o e y=>?_,λb xs e=>B b xs (I.base.tups b xs e),λb o xs e=>Q b o xs (I.base.frzs b o xs e),λb ps e=>?_⟩,?_,λx c e=>?_,?_,λx c e=>?_,λp hp=>?_,hok,I.len⟩
 .exact keep b o (D b o e) N (M b o e y) (I.base.keep b o e n N y) (I.base.free b o e n y)
 .obtain⟨sl,J⟩:=I.base.slot b o e n N y;obtain⟨sl',R⟩:=slot b _ (D b o e) N (M b o e y) J (I.base.free b o e n y);exact⟨sl',R⟩
 .obtain⟨o',J⟩:=I.base.there b o e y;exact free b o' (M b o e y) J (I.base.free b o e n y)
 .obtain⟨o',J⟩:=I.base.there b o e y;exact there b o' (M b o e y) J
 .obtain⟨m1,J⟩:=I.base.tbls b ps e;obtain⟨m2,R⟩:=F b _ J;exact⟨m1++m2,by rw[R,Array.append_assoc]⟩
 .obtain⟨m,hn,hl⟩:=I.loc;refine⟨m,ns m hn,λi x v J R e3=>?_⟩
  obtain⟨u,r,l⟩:=hl i x v J R e3;refine⟨u,r,?_⟩;rcases l with l | ⟨k,c,e,z⟩
  .exact .inl l
  .exact .inr ⟨k,c,e,j x c e _ z⟩
 .obtain⟨v,z⟩:=I.cell x c e;exact⟨v,j x c e v z⟩
 .obtain⟨m,⟨o,_,_,ho,_⟩,_⟩:=I.loc;exact free _ o (λz=>(Y _ z).2.1 rfl) ho I.free
 .obtain⟨v,o,ho,P⟩:=I.cell x c e;exact free c o (λz=>(Y c z).2.2.1 x c e rfl) ho (I.freeC x c e)
 .obtain⟨e,n,ne,nf,d⟩:=I.pin p hp;have U:p.1∉ch:=λz=>(Y p.1 z).2.2.2 p hp rfl
  exact⟨keep p.1 p.2 ne nf U e n,free p.1 p.2 U e n,ne,nf,d⟩
theorem Inv.un {t':Nat}(I:Inv X aA σ H s)(u:Un X.fs [] H H' s.heap h')(p:HOk X.prog X.w H' h'):Inv X aA σ H' {s with heap:=h',toks:=t'}:=by
 obtain⟨m,⟨o,M,J,ho,r⟩,_⟩:=id I.loc;obtain⟨Q,q⟩:=u.any ho I.free (by simp)
 exact I.step (g':=s.gens) (d':=s.drawn) (ch:=[]) (λ_ z=>nomatch z) (λb o _ c _ e n=>u.keep b o e n c (by simp)) (λb o _ c _ e n=>u.slot b o e n c (by simp)) (λb o _ e n=>u.free b o e n (by simp)) (λb o _ e=>u.there b o e (by simp)) u.tups u.frzs u.tbls (λN Y=>by
  obtain⟨R,j,k,y,U⟩:=Y;rw[ho]at y;cases y;exact⟨_,j,k,q,U⟩) p I.bare
theorem Inv.call {g':Array GenState}{t':Nat}{d':Drawn}{ch:AM}(I:Inv X aA σ H s)(u:Un (frs X.stack) ch H H' s.heap h')(J:HOk X.prog X.w H' h')(N:AllBare g')
  (k:∀b∈ch,(b∈X.ex\/X.s₀.heap.objs.size<=b)/\b≠X.env.locals/\(∀x c,X.env.cells.lookup x=some c->c≠b)/\∀p∈X.pn++aA,p.1≠b) :
  Inv X aA σ H' {s with heap:=h',gens:=g',drawn:=d',toks:=t'}:=by
 obtain⟨m,⟨o,F,D,ho,r⟩,_⟩:=id I.loc;obtain⟨sl,U⟩:=u.any ho I.free λz=>(k _ z).2.1 rfl
 exact I.step (ch:=ch) k (λb o U M y e n=>u.keep b o e n (λz=>(Aa1.mp (I.stkSub b z)).elim U M) y) (λb o _ _ y e n=>u.any e n y) (λb o y e n=>u.free b o e n y) (λb o y e=>u.there b o e y) u.tups u.frzs u.tbls (λB R=>by
  obtain⟨P,Y,q,j,Q⟩:=R;rw[ho]at j;cases j;exact⟨_,Y,q,U,Q⟩) J N
theorem Inv.turned {t':Nat}{it:Addr}(I:Inv X aA σ H s)(k:∀b o,b≠it->s.heap.get? b=some o->h'.get? b=some o)(Q:H it=none)(j:it≠X.env.locals)
  (h1:it∈X.ex\/X.s₀.heap.objs.size<=it) (J:∀x c,X.env.cells.lookup x=some c->c≠it) (M:∀p∈X.pn++aA,p.1≠it):Inv X aA σ H {s with heap:=h',toks:=t'}:=by
 have w:∀b u,H b=some u->b≠it:=λb u e z=>by rw[z,Q]at e;cases e
 refine I.step (g':=s.gens) (d':=s.drawn) (ch:=[it]) (λb N=>?_) (λb o _ _ y e _=>k b o (λz=>y (by simp[z])) e) (λb o _ _ y e _=>⟨o.slots,k b o (λz=>y (by simp[z])) e⟩) (λ_ _ _ _ n=>n)
  (λb o y e=>⟨o,k b o (λz=>y (by simp[z])) e⟩) (λ_ _ e=>e) (λ_ _ _ e=>e) (λb ps e=>⟨#[],by rw[e];simp⟩) (λm R=>?_) (λb u e=>?_) I.bare
 .have e:b=it:=by simpa using N
  subst e;exact⟨h1,j,J,M⟩
 .obtain⟨o,U,Y,ho,r⟩:=R;exact⟨o,U,Y,k _ o (Ne.symm j) ho,r⟩
 .refine(I.hok b u e).stay (λc v y q=>k c v ?_ q) (λ_ q=>q) λ_ _ q=>q
  rcases y with z | z
  .rw[z];exact w b u e
  .exact w c _ z
theorem Inv.tok (I:Inv X aA σ H s)(t:Nat):Inv X aA σ H {s with toks:=t}:=I.un (h':=s.heap) (t':=t) Un.refl I.hok
theorem Inv.kept {t':Nat}(I:Inv X aA σ H s)(k:∀b u,s.heap.get? b=some u->h'.get? b=some u):Inv X aA σ H {s with heap:=h',toks:=t'}:=I.un (Un.kept k) (I.hok.kept k)
theorem Inv.laid {a:Addr}{o:HO}{t':Nat}(I:Inv X aA σ H s)(k:∀b u,s.heap.get? b=some u->h'.get? b=some u)(hp:s.heap.objs.size<=a)(e:ObjOk X.prog X.w (upd H a o) h' a o) :
  Inv X aA σ (upd H a o) {s with heap:=h',toks:=t'}:=I.un (Un.laid k hp (I.hok.fresh hp)) (I.hok.laid k hp e)
theorem Inv.write {x e:Addr}{o:HO}{t':Nat}(I:Inv X aA σ H s)(mu:Mut (H x))(r:e=x\/H e=some (.own x))(k:∀b u,b≠e->s.heap.get? b=some u->h'.get? b=some u)(y:∃u,h'.get? e=some u)
  (z:ObjOk X.prog X.w (upd H x o) h' x o):Inv X aA σ (upd H x o) {s with heap:=h',toks:=t'}:=I.un (Un.write mu r k y) (I.hok.write mu r k y z)
theorem Inv.weak {σ':List (Option V)}(I:Inv X aA σ H s)(k:σ'.length=σ.length)(w:∀(i:Nat) v,σ'[i]? = some (some v)->σ[i]? = some (some v)):Inv X aA σ' H s:=
 ⟨I.ok,I.os,I.bare,I.base,let ⟨m,j,e⟩:=I.loc;⟨m,j,λi x v y z r=>e i x v y (w i v z) r⟩,I.cell,I.free,I.freeC,I.pin,I.hok,k.trans I.len⟩
theorem Inv.pins_of {pins':Eb}(I:Inv X aA σ H s)(h:∀p∈pins',s.heap.get? p.1=some p.2/\H p.1=none/\p.1≠X.env.locals/\p.1∉X.fs/\∀v,p.2.data≠.cell v):Inv X pins' σ H s:=
 ⟨I.ok,I.os,I.bare,I.base,I.loc,I.cell,I.free,I.freeC,λp hp=>(Aa0.mp hp).elim (λz=>I.pin p (Cf _ z)) (h p),I.hok,I.len⟩
theorem bH3 {N:AJ}(w:N.Nodup){i j:Nat}{x:Str}(a:N[i]? = some x)(b:N[j]? = some x):i=j:=by
 obtain⟨h1,e⟩:=Ab0.mp a;obtain⟨z,y⟩:=Ab0.mp b;exact(List.getElem_inj w).mp (e.trans y.symm)
theorem aY2 {M:Model}{A:Around}{E:Dz}{i:Nat}{x:Str}{v:V}{u:Value}{Q:Unit->Shared->Prop}(I:Inv X aA σ H s)(hN:X.N.Nodup)(hi:X.N[i]? = some x)(R:Loc X.env.scope x)(r:RelV v u)
  (h:∀s',Inv X aA (σ.set i (some v)) H s'->(∃a,Heap.SameBut a s.heap s'.heap/\(a=X.env.locals\/X.env.cells.lookup x=some a))->Q () s') (hf:X.fn x=true\/X.env.scope.names.lookup x=some .local:=by first | exact .inl rfl | exact .inr rfl | assumption):wpAny M A (storeName X.env x u) Q E s:=by
 obtain⟨m,hn,hl⟩:=id I.loc;have hcls:(X.env.scope.kind == .class||(X.env.scope.kind == .module&&X.env.locals != X.env.globals))=false:=by rw[I.ok.kind];rfl
 have hiσ:i<σ.length:=by rw[I.len];exact(Ab0.mp hi).1
 have cne:=I.cne
 have J:∀{a:Addr} {h':Heap},(∃o,s.heap.get? a=some o/\H a=none)->Heap.SameBut a s.heap h'->HOk X.prog X.w H h':=λ{a h'} ha Y b ob e=>by
  obtain⟨_,_,D⟩:=ha;refine(I.hok b ob e).stay (λc w' hc q=>(Y.2 c ?_).trans q) (λ_ q=>q) λ_ _ q=>q
  rintro rfl;rcases hc with rfl | hc
  .rw[D]at e;cases e
  .rw[D]at hc;cases hc
 rcases R with hk | hk
 .refine wpAny_storeName_local hk hn (λh' hn' Y=>?_) hcls
  obtain⟨oL,_,_,hoL,_⟩:=id hn;refine h _ ⟨I.ok,I.os,I.bare,⟨λb o e n B R=>?_,λb o e n B R=>?_,I.base.free,λb o e R=>?_,I.base.tups,I.base.frzs,I.base.tbls⟩,⟨_,hn',λj y v' U F e3=>?_⟩,λy c e=>?_,I.free,I.freeC,λp hp=>?_,J ⟨oL,hoL,I.free⟩ Y,by simpa using I.len⟩ ⟨_,Y,.inl rfl⟩
  .exact(Y.2 b (Ab9 (Ab8 (Ab3 e) I.ok.above))).trans (I.base.keep b o e n B R)
  .obtain⟨sl,U⟩:=I.base.slot b o e n B R;exact⟨sl,(Y.2 b (Ab9 (Ab8 (Ab3 e) I.ok.above))).trans U⟩
  .obtain⟨o',U⟩:=I.base.there b o e R;exact⟨o',(Y.2 b (Ab9 (Ab8 (Ab3 e) I.ok.above))).trans U⟩
  .by_cases hj:j=i
   .subst hj;rw[hi]at U;cases U;rw[Av hiσ]at F;cases F;exact⟨u,r,.inl ⟨hk,by simp⟩⟩
   .rw[Ad0 (Ne.symm hj)]at F;obtain⟨u',r',q⟩:=hl j y v' U F e3;refine⟨u',r',?_⟩;rcases q with⟨k,e⟩ | ⟨k,c,e,z⟩
    .refine .inl ⟨k,?_⟩
     have:y≠x:=λe=>hj (bH3 hN U (e▸hi))
     simp[this,e]
    .exact .inr ⟨k,c,e,z.sameBut Y (cne y c e)⟩
  .obtain⟨w',z⟩:=I.cell y c e;exact⟨w',z.sameBut Y (cne y c e)⟩
  .obtain⟨e,n,ne,nf,d⟩:=I.pin p hp;exact⟨(Y.2 p.1 ne).trans e,n,ne,nf,d⟩
 .have P:X.fn x=true:=by
   rcases hf with z | z
   .exact z
   .rw[z]at hk;cases hk
  obtain⟨c,hc⟩:=I.ok.has x (.inl hk);obtain⟨w',z⟩:=I.cell x c hc;refine wpAny_storeName_cell I.ok.kind hk hc z (λh' hc' Y=>?_)
  obtain⟨oc,hoc,hocd⟩:=id z;refine h {s with heap:=h'} ⟨I.ok,I.os,I.bare,⟨λb o e n B R=>?_,λb o e n B R=>?_,I.base.free,λb o e R=>?_,I.base.tups,I.base.frzs,I.base.tbls⟩,⟨m,hn.sameBut Y (Ne.symm (cne x c hc)),λj y v' U F e3=>?_⟩,λy c' e=>?_,I.free,I.freeC,λp hp=>?_,J ⟨oc,hoc,I.freeC x c hc⟩ Y,by simpa using I.len⟩ ⟨c,Y,.inr hc⟩
  .exact(Y.2 b (Ab9 (Ab8 (Ab3 e) (I.ok.cab x c P hc)))).trans (I.base.keep b o e n B R)
  .obtain⟨sl,U⟩:=I.base.slot b o e n B R;exact⟨sl,(Y.2 b (Ab9 (Ab8 (Ab3 e) (I.ok.cab x c P hc)))).trans U⟩
  .obtain⟨o',U⟩:=I.base.there b o e R;exact⟨o',(Y.2 b (Ab9 (Ab8 (Ab3 e) (I.ok.cab x c P hc)))).trans U⟩
  .by_cases hj:j=i
   .subst hj;rw[hi]at U;cases U;rw[Av hiσ]at F;cases F;exact⟨u,r,.inr ⟨.inl hk,c,hc,hc'⟩⟩
   .rw[Ad0 (Ne.symm hj)]at F;obtain⟨u',r',q⟩:=hl j y v' U F e3;refine⟨u',r',?_⟩;rcases q with q | ⟨k,c',e,z'⟩
    .exact .inl q
    .refine .inr ⟨k,c',e,z'.sameBut Y ?_⟩;rintro rfl;exact hj (bH3 hN U (I.ok.inj _ _ _ e hc▸hi))
  .by_cases hcc:c'=c
   .subst hcc;exact⟨_,hc'⟩
   .obtain⟨w2,z2⟩:=I.cell y c' e;exact⟨w2,z2.sameBut Y hcc⟩
  .obtain⟨e,n,ne,nf,d⟩:=I.pin p hp;refine⟨(Y.2 p.1 ?_).trans e,n,ne,nf,d⟩;intro q;rw[q,hoc]at e;have q':oc=p.2:=Ab4 e;exact d w' (by rw[<- q'];exact hocd)
theorem aH5 {M:Model}{A:Around}{E:Dz}{i:Nat}{x:Str}{v:V}{u:Value}{Q:Unit->Shared->Prop}(I:Inv X aA σ H s)(y:X.N.Nodup)(hi:X.N[i]? = some x)(z:Loc X.env.scope x)(r:RelV v u)
  (h:∀s',Inv X aA (σ.set i (some v)) H s'->Q () s') (w:X.fn x=true\/X.env.scope.names.lookup x=some .local:=by first | exact .inl rfl | exact .inr rfl | assumption):wpAny M A (storeName X.env x u) Q E s:=
 aY2 I y hi z r (λs' e _=>h s' e) w
theorem Inv.call' {s':Shared}{ch:AM}(I:Inv X aA σ H s)(ho:s'.os=s.os)(u:Un (frs X.stack) ch H H' s.heap s'.heap)(z:HOk X.prog X.w H' s'.heap)(r:AllBare s'.gens)
  (y:∀b∈ch,(b∈X.ex\/X.s₀.heap.objs.size<=b)/\b≠X.env.locals/\(∀x c,X.env.cells.lookup x=some c->c≠b)/\∀p∈X.pn++aA,p.1≠b):Inv X aA σ H' s':=by
 obtain⟨h',g',d',t',k⟩:=s';have e:k=s.os:=ho;subst e;exact I.call (g':=g') (t':=t') (d':=d') u z r y
end
abbrev XK:=Value->AL->Hp->Prop
abbrev St:=List (Option V)
abbrev VK:=V->Hp->Prop
abbrev TE:=St->Hp->VK->Prop
abbrev TT:=St->Hp->(Bool->Hp->Prop)->Prop
abbrev TA:=St->Hp->(List V->Hp->Prop)->Prop
structure aI9 where
 nx:St->Hp->Prop
 rt:VK
 bk:St->Hp->Prop:=λ_ _=>False
 ct:St->Hp->Prop:=λ_ _=>False
abbrev TS:=aI9->St->Hp->Prop
def EP (X:Cx)(aA:Eb)(σ:St)(Q:VK)(u:Value)(s':Shared):Prop:=∃v H',Inv X aA σ H' s'/\RelV v u/\Q v H'
def TP (X:Cx)(aA:Eb)(σ:St)(Q:Bool->Hp->Prop)(b:Bool)(s':Shared):Prop:=∃H',Inv X aA σ H' s'/\Q b H'
def AP (X:Cx)(aA:Eb)(σ:St)(Q:List V->Hp->Prop)(us:AH)(s':Shared):Prop:=∃vs H',Inv X aA σ H' s'/\Vals vs us/\Q vs H'
def SP (X:Cx)(aA:Eb)(D:aI9)(f:Flow)(s':Shared):Prop:=
 match f with
 | .next=>∃σ' H',Inv X aA σ' H' s'/\D.nx σ' H'
 | .brk=>∃σ' H',Inv X aA σ' H' s'/\D.bk σ' H'
 | .cont=>∃σ' H',Inv X aA σ' H' s'/\D.ct σ' H'
 | .ret u=>∃v σ' H',Inv X aA σ' H' s'/\RelV v u/\D.rt v H'
structure PE (X:Cx)(e:Expr)(t:TE):Prop where
 mk ::
 run :
  ∀(aA:Eb) (s:Shared) (σ:St) (H:Hp) (Q:VK),Inv X aA σ H s->t σ H Q->wpAny (model X.prog X.w) X.A (eval e X.env) (EP X aA σ Q) X.xe s
instance {X:Cx} {e:Expr} {t:TE}:CoeFun (PE X e t) λ_=>
 (∀(aA:Eb) (s:Shared) (σ:St) (H:Hp) (Q:VK),Inv X aA σ H s->t σ H Q->wpAny (model X.prog X.w) X.A (eval e X.env) (EP X aA σ Q) X.xe s):=⟨PE.run⟩
structure PT (X:Cx)(e:Expr)(t:TT):Prop where
 mk ::
 run :
  ∀(aA:Eb) (s:Shared) (σ:St) (H:Hp) (Q:Bool->Hp->Prop),Inv X aA σ H s->t σ H Q->wpAny (model X.prog X.w) X.A (isTrue e X.env (eval e X.env)) (TP X aA σ Q) X.xe s
instance {X:Cx} {e:Expr} {t:TT}:CoeFun (PT X e t) λ_=>
 (∀(aA:Eb) (s:Shared) (σ:St) (H:Hp) (Q:Bool->Hp->Prop),Inv X aA σ H s->t σ H Q->wpAny (model X.prog X.w) X.A (isTrue e X.env (eval e X.env)) (TP X aA σ Q) X.xe s):=⟨PT.run⟩
structure PW (X:Cx)(e:Expr)(t:TT):Prop where
 mk ::
 run :
  ∀(whole:Sem Value) (aA:Eb) (s:Shared) (σ:St) (H:Hp) (Q:Bool->Hp->Prop),Inv X aA σ H s->t σ H Q->wpAny (model X.prog X.w) X.A (isTrue e X.env whole) (TP X aA σ Q) X.xe s
instance {X:Cx} {e:Expr} {t:TT}:CoeFun (PW X e t) λ_=>
 (∀(whole:Sem Value) (aA:Eb) (s:Shared) (σ:St) (H:Hp) (Q:Bool->Hp->Prop),Inv X aA σ H s->t σ H Q->wpAny (model X.prog X.w) X.A (isTrue e X.env whole) (TP X aA σ Q) X.xe s):=⟨PW.run⟩
theorem PW.pt {X:Cx}{e:Expr}{t:TT}(h:PW X e t):PT X e t:=⟨h _⟩
structure PA (X:Cx)(es:AN)(t:TA):Prop where
 mk ::
 run :
  ∀(pos:Pos) (aA:Eb) (s:Shared) (σ:St) (H:Hp) (Q:List V->Hp->Prop),Inv X aA σ H s->t σ H Q->wpAny (model X.prog X.w) X.A (spliced (backTo pos (starEach es X.env))) (AP X aA σ Q) X.xe s
instance {X:Cx} {es:AN} {t:TA}:CoeFun (PA X es t) λ_=>
 (∀(pos:Pos) (aA:Eb) (s:Shared) (σ:St) (H:Hp) (Q:List V->Hp->Prop),Inv X aA σ H s->t σ H Q->wpAny (model X.prog X.w) X.A (spliced (backTo pos (starEach es X.env))) (AP X aA σ Q) X.xe s):=⟨PA.run⟩
structure PS (X:Cx)(st:Stmt)(t:TS):Prop where
 mk ::
 run :
  ∀(aA:Eb) (s:Shared) (σ:St) (H:Hp) (D:aI9),Inv X aA σ H s->t D σ H->wpAny (model X.prog X.w) X.A (exec st X.env) (SP X aA D) X.xe s
instance {X:Cx} {st:Stmt} {t:TS}:CoeFun (PS X st t) λ_=>
 (∀(aA:Eb) (s:Shared) (σ:St) (H:Hp) (D:aI9),Inv X aA σ H s->t D σ H->wpAny (model X.prog X.w) X.A (exec st X.env) (SP X aA D) X.xe s):=⟨PS.run⟩
structure PSs (X:Cx)(st:List Stmt)(t:TS):Prop where
 mk ::
 run :
  ∀(aA:Eb) (s:Shared) (σ:St) (H:Hp) (D:aI9),Inv X aA σ H s->t D σ H->wpAny (model X.prog X.w) X.A (execs st X.env) (SP X aA D) X.xe s
instance {X:Cx} {st:List Stmt} {t:TS}:CoeFun (PSs X st t) λ_=>
 (∀(aA:Eb) (s:Shared) (σ:St) (H:Hp) (D:aI9),Inv X aA σ H s->t D σ H->wpAny (model X.prog X.w) X.A (execs st X.env) (SP X aA D) X.xe s):=⟨PSs.run⟩
theorem thn {α:Type}{t:Sem α}{Q Q':α->Shared->Prop}{M:Model}{A:Around}{E:Dz}{s:Shared}(h:wpAny M A t Q E s)(e:∀a s,Q a s->Q' a s):wpAny M A t Q' E s:=wpAny_mono h e λ_ _ x=>x
section
variable {X:Cx}
def E1 (i:Nat):TE:=λσ H Q=>∃v,σ[i]? = some (some v)/\Q v H
def tC (v:V):TE:=λ_ H Q=>Q v H
theorem dD9 {i:Nat}{x:Str}{pos:Pos}(q:X.N[i]? = some x)(M:Vis X.env.scope x)(k:(x==("__debug__" : Str))=false:=by decide)(z:(x==("__classdict__" : Str))=false:=by decide):PE X (.Name x pos) (E1 i):=by
 refine⟨?_⟩;intro p s σ H Q I h;obtain⟨v,e,h⟩:=h;obtain⟨m,J,Y⟩:=I.loc;obtain⟨u,r,l⟩:=Y i x v q e M;have w:EP X p σ Q u s:=⟨v,H,I,r,h⟩;rcases l with⟨hk,U⟩ | ⟨hk,c,j,y⟩
 .exact wpAny_Name (wpAny_loadName_local I.ok.kind hk J U w) k
 .rcases hk with hk | hk
  .exact wpAny_Name (wpAny_loadName_cell I.ok.kind hk j y w) k
  .exact wpAny_Name (wpAny_loadName_free I.ok.kind hk j y w z) k
theorem A6 {i j pos}:PE X (.Constant (.int i) j pos) (tC (.int i)):=⟨λ_ _ _ H _ I h=>wpAny_Constant_int ⟨.int i,H,I.tok _,⟨_,rfl⟩,h⟩⟩
theorem v4 {b j pos}:PE X (.Constant (.bool b) j pos) (tC (.bl b)):=⟨λ_ _ _ H _ I h=>Constant_bool ⟨.bl b,H,I,rfl,h⟩⟩
def Gl (X:Cx)(x:Str):Prop:=X.env.kindOf x=some .globalImplicit
theorem aB7 {E:Dz}{aA:Eb}{s:Shared}{σ:St}{H:Hp}{x:Str}{u:Value}{pos:Pos}{Q:Dz}(I:Inv X aA σ H s)(y:Gl X x)(z:X.mg x=some u)(h:Q u s)
  (e:(x==("__debug__" : Str))=false:=by decide):wpAny (model X.prog X.w) X.A (eval (.Name x pos) X.env) Q E s:=
 Calls.Name_function_global I.ok.kind y (Calls.loadGlobal_global (by rw[I.ok.glob];exact I.mod.glob.keeps I.bk) z h) e
theorem z4 {E:Dz}{aA:Eb}{s:Shared}{σ:St}{H:Hp}{x:Str}{u:Value}{pos:Pos}{Q:Dz}(I:Inv X aA σ H s)(z:Gl X x)(r:X.mg x=none)(j:bootBuiltins x=some u)(h:Q u s)
  (k:x≠"__name__" := by decide) (y:(x==("__debug__" : Str))=false:=by decide):wpAny (model X.prog X.w) X.A (eval (.Name x pos) X.env) Q E s:=by
 obtain⟨c,h1,e⟩:=I.mod.blt;exact Calls.Name_function_global I.ok.kind z (Calls.loadGlobal_builtin (by rw[I.ok.glob];exact I.mod.glob.keeps I.bk) r (by rw[I.ok.blt];exact h1.keeps I.bk) ((e x k).trans j) h) y
theorem N6 {x:Str}{v:V}{u:Value}{pos:Pos}(y:Gl X x)(w:X.mg x=some u)(r:RelV v u)(e:(x==("__debug__" : Str))=false:=by decide):PE X (.Name x pos) (tC v):=⟨λ_ _ _ H _ I h=>aB7 I y w ⟨v,H,I,r,h⟩ e⟩
theorem cU9 {x:Str}{v:V}{u:Value}{pos:Pos}(y:Gl X x)(w:X.mg x=none)(k:bootBuiltins x=some u)(r:RelV v u)(z:x≠"__name__" := by decide)(e:(x==("__debug__" : Str))=false:=by decide):PE X (.Name x pos) (tC v):=⟨λ_ _ _ H _ I h=>z4 I y w k ⟨v,H,I,r,h⟩ z e⟩
def t2I (ta tb:TE)(k:Int->Int->Hp->Prop):St->Hp->Prop:=λσ H=>ta σ H λx H1=>tb σ H1 λy H2=>∃i j,x=.int i/\y=.int j/\k i j H2
variable {a b:Expr}{ta tb:TE}{pos:Pos}
structure PC (X:Cx)(op:CmpOp)(a b:Expr)(t:TE):Prop where
 mk ::
 run :
  ∀(aA:Eb) (s:Shared) (σ:St) (H:Hp) (Q:VK),Inv X aA σ H s->t σ H Q ->
   wpAny (model X.prog X.w) X.A (eval a X.env) (λv s₁=>wpAny (model X.prog X.w) X.A (eval b X.env) (λu s₂=>wpAny (model X.prog X.w) X.A (compareOp op v u) (EP X aA σ Q) X.xe s₂) X.xe s₁) X.xe s
instance {X:Cx} {op:CmpOp} {a b:Expr} {t:TE}:CoeFun (PC X op a b t) λ_=>
 (∀(aA:Eb) (s:Shared) (σ:St) (H:Hp) (Q:VK),Inv X aA σ H s->t σ H Q ->
  wpAny (model X.prog X.w) X.A (eval a X.env) (λv s₁=>wpAny (model X.prog X.w) X.A (eval b X.env) (λu s₂=>wpAny (model X.prog X.w) X.A (compareOp op v u) (EP X aA σ Q) X.xe s₂) X.xe s₁) X.xe s):=⟨PC.run⟩
def bZ9 (p:Int->Int->Bool)(ta tb:TE):TE:=λσ H Q=>t2I ta tb (λi j H2=>Q (.bl (p i j)) H2) σ H
abbrev tLt:TE->TE->TE:=bZ9 λi j=>decide (i<j)
abbrev tLe:TE->TE->TE:=bZ9 λi j=>decide (i<=j)
abbrev tGt:TE->TE->TE:=bZ9 λi j=>decide (j<i)
abbrev tGe:TE->TE->TE:=bZ9 λi j=>decide (j<=i)
abbrev dV5:TE->TE->TE:=bZ9 λi j=>decide (i=j)
abbrev dV4:TE->TE->TE:=bZ9 λi j => !decide (i=j)
def tB (t:TE):TT:=λσ H Q=>t σ H λx H1=>∃c,x=.bl c/\Q c H1
theorem W2 {e:Expr}{t:TE}(h:PE X e t)(z:∀whole,isTrue e X.env whole=(do let v <- whole;standAt e.pos;holding [v] (truthy v)):=by intro _;rfl):PT X e (tB t):=by
 refine⟨?_⟩;intro w s σ H Q I r;refine isTrue_plain (thn (h w s σ H _ I r) λv c ⟨x,H1,y,j,k⟩=>?_) (z _)
 obtain⟨d,rfl,q⟩:=k;cases j;exact wpAny_truthy_bool ⟨H1,y,q⟩
variable {tA tB':TT}{rest:AN}
def dP9 (t u:TT):TT:=λσ H Q=>t σ H λc H1=>if c=true then u σ H1 Q else Q false H1
def tOr (t u:TT):TT:=λσ H Q=>t σ H λc H1=>if c=true then Q true H1 else u σ H1 Q
def dO7 (t:TT):TT:=λσ H Q=>t σ H λc H1=>Q (!c) H1
theorem bD0 (w:PT X a tA):PW X (.BoolOp .And [a] pos) tA:=by
 refine⟨?_⟩;intro r y s σ H Q I h;refine isTrue_and (thn (w y s σ H Q I h) λc z e=>?_)
 cases c with
 | true=>exact isTrue_and_nil e
 | false=>exact e
theorem cG7 (w:PT X a tA):PW X (.BoolOp .Or [a] pos) tA:=by
 refine⟨?_⟩;intro r y s σ H Q I h;refine isTrue_or (thn (w y s σ H Q I h) λc z e=>?_)
 cases c with
 | false=>exact isTrue_or_nil e
 | true=>exact e
theorem bT2 (z:PT X a tA)(r:PW X (.BoolOp .And (b::rest) pos) tB'):PW X (.BoolOp .And (a::b::rest) pos) (dP9 tA tB'):=by
 refine⟨?_⟩;intro j y s σ H Q I h;refine isTrue_and (thn (z y s σ H _ I h) λc k ⟨H1,e,w⟩=>?_)
 cases c with
 | true=>exact r j y k σ H1 Q e w
 | false=>exact⟨H1,e,w⟩
theorem cN1 (z:PT X a tA)(r:PW X (.BoolOp .Or (b::rest) pos) tB'):PW X (.BoolOp .Or (a::b::rest) pos) (tOr tA tB'):=by
 refine⟨?_⟩;intro j y s σ H Q I h;refine isTrue_or (thn (z y s σ H _ I h) λc k ⟨H1,e,w⟩=>?_)
 cases c with
 | true=>exact⟨H1,e,w⟩
 | false=>exact r j y k σ H1 Q e w
theorem aA5 (y:PT X a tA):PT X (.UnaryOp .Not a pos) (dO7 tA):=by
 refine⟨?_⟩;intro e s σ H Q I h;exact isTrue_not (y e s σ H (λc H1=>Q (!c) H1) I h)
def cZ6 (ta tb:TE):TE:=λσ H Q=>ta σ H λx H1=>∃c,x=.bl c/\if c=true then tb σ H1 Q else Q (.bl false) H1
def dN1 (ta tb:TE):TE:=λσ H Q=>ta σ H λx H1=>∃c,x=.bl c/\if c=true then Q (.bl true) H1 else tb σ H1 Q
def dB0 (ta:TE):TE:=λσ H Q=>ta σ H λx H1=>∃c,x=.bl c/\Q (.bl (!c)) H1
theorem aP9 {op}{t:TE}(h:PE X a t):PE X (.BoolOp op [a] pos) t:=⟨λe s σ H Q I y=>BoolOp_one (h e s σ H Q I y)⟩
theorem bQ1 (z:PE X a ta)(r:PE X (.BoolOp .And (b::rest) pos) tb):PE X (.BoolOp .And (a::b::rest) pos) (cZ6 ta tb):=by
 refine⟨?_⟩;intro w s σ H Q I h;refine BoolOp_and (thn (z w s σ H _ I h) λv j ⟨x,H1,y,k,e⟩=>?_)
 obtain⟨c,rfl,e⟩:=e;cases k;refine wpAny_truthy_bool ?_;cases c with
 | true=>exact r w j σ H1 Q y e
 | false=>exact⟨.bl false,H1,y,rfl,e⟩
theorem cY5 (z:PE X a ta)(r:PE X (.BoolOp .Or (b::rest) pos) tb):PE X (.BoolOp .Or (a::b::rest) pos) (dN1 ta tb):=by
 refine⟨?_⟩;intro w s σ H Q I h;refine BoolOp_or (thn (z w s σ H _ I h) λv j ⟨x,H1,y,k,e⟩=>?_)
 obtain⟨c,rfl,e⟩:=e;cases k;refine wpAny_truthy_bool ?_;cases c with
 | false=>exact r w j σ H1 Q y e
 | true=>exact⟨.bl true,H1,y,rfl,e⟩
theorem dK1 (z:PE X a ta):PE X (.UnaryOp .Not a pos) (dB0 ta):=by
 refine⟨?_⟩;intro w s σ H Q I h;refine UnaryOp_ (thn (z w s σ H _ I h) λv k ⟨x,H1,y,r,e⟩=>?_)
 obtain⟨c,rfl,e⟩:=e;cases r;exact not_of (wpAny_truthy_bool ⟨.bl (!c),H1,y,rfl,e⟩)
def tIf (t:TT)(ta tb:TE):TE:=λσ H Q=>t σ H λc H1=>if c=true then ta σ H1 Q else tb σ H1 Q
theorem bI8 {c:Expr}(j:PT X c tA)(r:PE X a ta)(k:PE X b tb):PE X (.IfExp c a b pos) (tIf tA ta tb):=by
 refine⟨?_⟩;intro e s σ H Q I h;refine wpAny_IfExp (thn (j e s σ H _ I h) λd z ⟨H1,y,w⟩=>?_)
 cases d with
 | true=>exact r e z σ H1 Q y w
 | false=>exact k e z σ H1 Q y w
end
def SqL (K:Frag)(H:Hp)(a:Addr)(xs:List V):Prop:=
 Rd H a (.lst xs) \/
  ∃(o:Obj) (its:AK) (n:Nat),K.lookup a=some o/\o.cls=.type "list" /\ o.dict=none/\o.data=.seq its n/\its.size<=sizeLine/\Vals xs its.toList
def SqT (K:Frag)(H:Hp)(a:Addr)(xs:List V):Prop:=
 Rd H a (.tup xs) \/
  ∃(o:Obj) (its:AK) (n:Nat),K.lookup a=some o/\o.cls=.type "tuple" /\ o.dict=none/\o.data=.seq its n/\its.size<=sizeLine/\Vals xs its.toList
def dU3:Value->Option V
 | .none=>some .non
 | .bool b=>some (.bl b)
 | .int i _=>some (.int i)
 | .str x _=>some (.str x)
 | .bytes b _=>some (.byt b)
 | .float b _=>some (.flt b)
 | .ref a=>some (.ref a)
 | .type n=>some (.ty n)
 | _=>none
theorem RelV.abs {x:V}{u:Value}(r:RelV x u):dU3 u=some x:=by
 cases x with
 | non=>cases r;rfl
 | bl _=>cases r;rfl
 | int _=>obtain⟨t,rfl⟩:=r;rfl
 | str _=>obtain⟨t,rfl⟩:=r;rfl
 | byt _=>obtain⟨t,rfl⟩:=r;rfl
 | flt _=>obtain⟨t,rfl⟩:=r;rfl
 | ref _=>cases r;rfl
 | ty _=>cases r;rfl
theorem RelV.inj {x y:V}{u:Value}(r:RelV x u)(q:RelV y u):x=y:=Ab4 (r.abs.symm.trans q.abs)
theorem Vals.inj:∀{xs ys:List V} {us:AH},Vals xs us->Vals ys us->xs=ys
 | _,_,_,.nil,.nil=>rfl
 | _,_,_,.cons r t,.cons r' t'=>by rw[r.inj r',Vals.inj t t']
section
variable {X:Cx}{aA:Eb}{σ:St}{H:Hp}{s:Shared}{a:Addr}{xs ys:List V}
theorem SqL.of {K:Frag}(h:H a=some (.lst xs)):SqL K H a xs:=.inl (.inl h)
theorem SqT.of {K:Frag}(h:H a=some (.tup xs)):SqT K H a xs:=.inl (.inl h)
theorem Inv.list (I:Inv X aA σ H s)(h:SqL X.K H a xs):∃its:AH,Vals xs its/\PlainL s.heap a its.toArray/\xs.length<=sizeLine:=by
 rcases h with h | ⟨o,its,n,k,y,w,j,c,r⟩
 .obtain⟨z,its,n,r,e⟩:=h.ok I.hok;exact⟨its,r,⟨_,n,e,rfl,rfl,rfl⟩,z⟩
 .refine⟨its.toList,r,⟨o,n,I.kIn a o k,y,w,by simpa using j⟩,?_⟩
  have e:=r.length
  simp only[Bl]at e
  lia
theorem Inv.tuple0 (I:Inv X aA σ H s)(h:SqT X.K H a xs):∃its:AH,Vals xs its/\Tup0 s.heap a its.toArray/\xs.length<=sizeLine:=by
 rcases h with h | ⟨o,its,n,k,y,w,j,c,r⟩
 .obtain⟨z,its,r,p⟩:=h.ok I.hok;exact⟨its,r,p,z⟩
 .refine⟨its.toList,r,⟨o,I.kIn a o k,y,⟨n,by simpa using j⟩,w⟩,?_⟩
  have e:=r.length
  simp only[Bl]at e
  lia
theorem Inv.tuple (I:Inv X aA σ H s)(h:SqT X.K H a xs):∃its:AH,Vals xs its/\IsTup s.heap a its.toArray/\xs.length<=sizeLine:=by
 obtain⟨its,r,p,z⟩:=I.tuple0 h;exact⟨its,r,p.tup,z⟩
theorem Inv.list_inj (I:Inv X aA σ H s)(h:SqL X.K H a xs)(h':SqL X.K H a ys):xs=ys:=by
 obtain⟨its,r,⟨o,n,e,_,_,d⟩,_⟩:=I.list h;obtain⟨y,k,⟨c,j,e',_,_,w⟩,_⟩:=I.list h';rw[e]at e';cases e';rw[d]at w
 injection w with z _
 have:its=y:=by simpa using congrArg Array.toList z
 subst this;exact r.inj k
theorem Inv.tuple_inj (I:Inv X aA σ H s)(h:SqT X.K H a xs)(h':SqT X.K H a ys):xs=ys:=by
 obtain⟨its,r,⟨o,e,_,n,d⟩,_⟩:=I.tuple h;obtain⟨y,k,⟨c,e',_,j,w⟩,_⟩:=I.tuple h';rw[e]at e';cases e';rw[d]at w
 injection w with z _
 have:its=y:=by simpa using congrArg Array.toList z
 subst this;exact r.inj k
end
abbrev Cx.wish (X:Cx)(E:Dz):Cx:={X with xe:=E}
abbrev Cx.nox (X:Cx):Cx:=X.wish λ_ _=>False
theorem Cx.Ok.wish {X:Cx}(ok:X.Ok)(E:Dz):(X.wish E).Ok:=
 ⟨ok.mod,ok.kind,ok.glob,ok.blt,ok.above,ok.inj,ok.has,ok.cab,ok.hd,ok.frames,ok.stk,ok.exf,ok.bs,ok.bsz,ok.noex,ok.exfs,ok.funs,ok.frf⟩
theorem Cx.Ok.unwish {X:Cx}{E:Dz}(ok:(X.wish E).Ok):X.Ok:=
 ⟨ok.mod,ok.kind,ok.glob,ok.blt,ok.above,ok.inj,ok.has,ok.cab,ok.hd,ok.frames,ok.stk,ok.exf,ok.bs,ok.bsz,ok.noex,ok.exfs,ok.funs,ok.frf⟩
section
variable {X:Cx}{aA:Eb}{σ:St}{H:Hp}{s:Shared}{E:Dz}
theorem Inv.wish (I:Inv X aA σ H s)(E:Dz):Inv (X.wish E) aA σ H s:=⟨I.ok.wish E,I.os,I.bare,I.base,I.loc,I.cell,I.free,I.freeC,I.pin,I.hok,I.len⟩
theorem Inv.unwish (I:Inv (X.wish E) aA σ H s):Inv X aA σ H s:=⟨I.ok.unwish,I.os,I.bare,I.base,I.loc,I.cell,I.free,I.freeC,I.pin,I.hok,I.len⟩
theorem SP.unwish {D:aI9}{f:Flow}{s':Shared}(h:SP (X.wish E) aA D f s'):SP X aA D f s':=by
 cases f with
 | next=>obtain⟨y,e,I,q⟩:=h;exact⟨y,e,I.unwish,q⟩
 | brk=>obtain⟨y,e,I,q⟩:=h;exact⟨y,e,I.unwish,q⟩
 | cont=>obtain⟨y,e,I,q⟩:=h;exact⟨y,e,I.unwish,q⟩
 | ret u=>obtain⟨v,y,e,I,r,q⟩:=h;exact⟨v,y,e,I.unwish,r,q⟩
theorem PSs.nox {st:List Stmt}{t:TS}(h:PSs X.nox st t):PSs X st t:=⟨λaA s σ H D I e=>
 wpAny_mono (h aA s σ H D (I.wish _) e) (λ_ _ q=>q.unwish) λ_ _ z=>False.elim z⟩
end
section
variable {X:Cx}{st:Stmt}{rest:List Stmt}{t u:TS}{e:Expr}{te:TE}{pos:Pos}
def dB4:TS:=λD σ H=>D.nx σ H
def cU6 (t u:TS):TS:=λD σ H=>t {D with nx:=u D} σ H
theorem M0:PSs X [] dB4:=⟨λ_ _ σ H _ I h=>wpAny_execs_nil ⟨σ,H,I,h⟩⟩
theorem A5 (h1:PS X st t)(r:PSs X rest u):PSs X (st::rest) (cU6 t u):=by
 refine⟨?_⟩;intro y s σ H D I h;refine wpAny_execs_cons (thn (h1 y s σ H {D with nx:=u D} I h) λf k q=>?_)
 cases f with
 | next=>
  obtain⟨j,w,z,q⟩:=q;exact r y k j w D z q
 | ret v=>exact q
 | brk=>exact q
 | cont=>exact q
theorem A9 (h1:PS X st t):PSs X [st] t:=by
 refine⟨?_⟩;intro y s σ H D I h;refine wpAny_execs_cons (thn (h1 y s σ H D I h) λf w q=>?_)
 cases f with
 | next=>exact wpAny_execs_nil q
 | ret v=>exact q
 | brk=>exact q
 | cont=>exact q
theorem Inv.quiet {aA:Eb}{σ:St}{H:Hp}{s:Shared}(I:Inv X aA σ H s):interactive X.env=false:=by simp[interactive,I.ok.kind]
def aM4 (te:TE):TS:=λD σ H=>te σ H λ_ H1=>D.nx σ H1
theorem F8 (z:PE X e te)(r:swapsWith e none pos.line X.env=pure false:=by rfl):PS X (.Expr e pos) (aM4 te):=by
 refine⟨?_⟩;intro w s σ H D I h;exact wpAny_Expr_any (thn (z w s σ H _ I h) λv c ⟨x,H1,y,j,k⟩=>⟨σ,H1,y,k⟩) I.quiet r
def cC6 (te:TE):TS:=λD σ H=>te σ H D.rt
theorem E8 (z:PE X e te):PS X (.Return (some e) pos) (cC6 te):=by
 refine⟨?_⟩;intro w s σ H D I h;exact wpAny_Return_some (thn (z w s σ H _ I h) λv j ⟨x,H1,y,k,r⟩=>⟨x,σ,H1,y,k,r⟩)
def cS5 (c:TT)(t u:TS):TS:=λD σ H=>c σ H λb H1=>if b=true then t D σ H1 else u D σ H1
theorem U8 {c:Expr}{a b:List Stmt}{tc:TT}(p:PT X c tc)(k:PSs X a t)(j:PSs X b u):PS X (.If c a b pos) (cS5 tc t u):=by
 refine⟨?_⟩;intro y s σ H D I h;refine wpAny_If (thn (p y s σ H _ I h) λd r ⟨H1,w,z⟩=>?_)
 cases d with
 | true=>exact k y r σ H1 D w z
 | false=>exact j y r σ H1 D w z
def dH6:TS:=λ_ _ _=>False
theorem aW9 {sts:List Stmt}:PSs X sts dH6:=⟨λ_ _ _ _ _ _ h=>h.elim⟩
end
abbrev TG:=V->St->Hp->(St->Hp->Prop)->Prop
abbrev TGs:=List V->St->Hp->(St->Hp->Prop)->Prop
structure PG (X:Cx)(target:Expr)(t:TG):Prop where
 mk ::
 run :
  ∀(aA:Eb) (s:Shared) (σ:St) (H:Hp) (v:V) (u:Value) (Q:St->Hp->Prop),Inv X aA σ H s->RelV v u->t v σ H Q ->
   wpAny (model X.prog X.w) X.A (assign target X.env u) (λ_ s'=>∃σ' H',Inv X aA σ' H' s'/\Q σ' H') X.xe s
instance {X:Cx} {target:Expr} {t:TG}:CoeFun (PG X target t) λ_=>
 (∀(aA:Eb) (s:Shared) (σ:St) (H:Hp) (v:V) (u:Value) (Q:St->Hp->Prop),Inv X aA σ H s->RelV v u->t v σ H Q ->
  wpAny (model X.prog X.w) X.A (assign target X.env u) (λ_ s'=>∃σ' H',Inv X aA σ' H' s'/\Q σ' H') X.xe s):=⟨PG.run⟩
structure PGs (X:Cx)(ts:AN)(t:TGs):Prop where
 mk ::
 run :
  ∀(aA:Eb) (s:Shared) (σ:St) (H:Hp) (vs:List V) (us:AH) (Q:St->Hp->Prop),Inv X aA σ H s->Vals vs us->t vs σ H Q ->
   wpAny (model X.prog X.w) X.A (assignInOrder ((assignEach ts X.env).map (·.2)) us) (λ_ s'=>∃σ' H',Inv X aA σ' H' s'/\Q σ' H') X.xe s
instance {X:Cx} {ts:AN} {t:TGs}:CoeFun (PGs X ts t) λ_=>
 (∀(aA:Eb) (s:Shared) (σ:St) (H:Hp) (vs:List V) (us:AH) (Q:St->Hp->Prop),Inv X aA σ H s->Vals vs us->t vs σ H Q ->
  wpAny (model X.prog X.w) X.A (assignInOrder ((assignEach ts X.env).map (·.2)) us) (λ_ s'=>∃σ' H',Inv X aA σ' H' s'/\Q σ' H') X.xe s):=⟨PGs.run⟩
abbrev dD6:=V->V->V->Hp->(Hp->Prop)->Prop
def dR3 (X:Cx)(t:dD6):Prop:=
 ∀(aA:Eb) (s:Shared) (σ:St) (H:Hp) (o i v:V) (ov iv u:Value) (Q:Hp->Prop),Inv X aA σ H s->RelV o ov->RelV i iv->RelV v u->t o i v H Q ->
  wpAny (model X.prog X.w) X.A (setItem ov iv u) (λ_ s'=>∃H',Inv X aA σ H' s'/\Q H') X.xe s
abbrev TIp:=V->V->Hp->VK->Prop
def PIp (X:Cx)(op:Operator)(t:TIp):Prop:=
 ∀(aA:Eb) (s:Shared) (σ:St) (H:Hp) (x y:V) (v u:Value) (Q:VK),Inv X aA σ H s->RelV x v->RelV y u->t x y H Q ->
  wpAny (model X.prog X.w) X.A (inplaceOp op v u) (EP X aA σ Q) X.xe s
section
variable {X:Cx}{pos:Pos}
def G5 (i:Nat):TG:=λv σ H Q=>Q (σ.set i (some v)) H
theorem B7 {i:Nat}{x:Str}(y:X.N.Nodup)(hi:X.N[i]? = some x)(z:Loc X.env.scope x)(w:X.fn x=true\/X.env.scope.names.lookup x=some .local:=by first | exact .inl rfl | exact .inr rfl | assumption):PG X (.Name x pos) (G5 i):=by
 refine⟨?_⟩;intro k s σ H v u Q I r h;exact wpAny_assign_Name (aH5 I y hi z r (λj e=>⟨_,H,e,h⟩) w)
def bE7:TGs:=λvs σ H Q=>vs=[]/\Q σ H
def Z3 (t:TG)(u:TGs):TGs:=λvs σ H Q=>∃v r,vs=v::r/\t v σ H λσ' H'=>u r σ' H' Q
theorem aB5:PGs X [] bE7:=by
 refine⟨?_⟩;intro y s σ H vs w Q I r h;obtain⟨e,h⟩:=h;subst e;cases r;exact assignInOrder_nil ⟨σ,H,I,h⟩
theorem N2 {e:Expr}{es:AN}{t:TG}{u:TGs}(h1:PG X e t)(k:PGs X es u)
  (j:(assignEach (e::es) X.env).map (·.2)=assign e X.env::(assignEach es X.env).map (·.2):=by rfl):PGs X (e::es) (Z3 t u):=by
 refine⟨?_⟩;intro y s σ H vs m Q I r h;obtain⟨v,Y,z,h⟩:=h;subst z;cases r with
 | cons r rr=>
  rw[j];refine assignInOrder_cons (thn (h1 y s σ H _ _ _ I r h) λ_ p ⟨q,H1,w,c⟩=>?_)
  exact k y p q H1 _ _ Q w rr c
def bR7 (K:Frag)(n:Nat)(t:TGs):TG:=λv σ H Q=>∃a xs,v=.ref a/\SqT K H a xs/\xs.length=n/\t xs σ H Q
theorem aK6 {es:AN}{k:Nat}{t:TGs}{n:Nat}(m:X.calm=true)(h:PGs X es t)
  (U:(assignEach es X.env).length=n:=by rfl) (y:(assignEach es X.env).findIdx? (·.1)=none:=by rfl):PG X (.Tuple es k pos) (bR7 X.K n t):=by
 refine⟨?_⟩;intro z s σ H v u Q I r w;obtain⟨a,xs,p,J,Y,w⟩:=w;subst p;cases r;obtain⟨its,j,M,R⟩:=I.tuple J;refine assign_Tuple_tuple (I.ok.hd m) M (by simp[U,<- Y,j.length]) y λq N=>?_
 have c:Inv X z σ H {s with heap:=q}:=I.kept (t':=s.toks) λb o e=>N b o (Ab9 (Ab3 e)) e
 exact h z _ σ H xs _ Q c (by simpa using j) w
def dE9 (to ti:TE)(t:dD6):TG:=λv σ H Q=>to σ H λo H1=>ti σ H1 λi H2=>t o i v H2 λH3=>Q σ H3
theorem bQ9 {o i:Expr}{to ti:TE}{t:dD6}(ho:PE X o to)(hi:PE X i ti)(q:dR3 X t)
  (p:∀v,assign (.Subscript o i pos) X.env v=(do
   let ov <- holding [v] (eval o X.env)
   let iv <- holding [v,ov] (eval i X.env)
   standAt pos
   holding [v,ov,iv] (setItem ov iv v)
   release [v,ov,iv] []):=by intro _;rfl):PG X (.Subscript o i pos) (dE9 to ti t):=by
 refine⟨?_⟩;intro e s σ H v u Q I r h;rw[p];refine Aa (Bz (thn (ho e s σ H _ I h) λov N ⟨x,H1,k,J,m⟩=>?_))
 refine Aa (Bz (thn (hi e N σ H1 _ k m) λiv R ⟨y,w,j,M,Y⟩=>?_))
 refine Aa (wpAny_standAt (Aa (Bz (thn (q e R σ w x y v ov iv u _ j J M r Y) λ_ D ⟨z,c,U⟩=>?_))))
 exact wpAny_release ⟨σ,z,c,U⟩
def aV3 (te:TE)(g:TG):TS:=λD σ H=>te σ H λx H1=>g x σ H1 D.nx
theorem bC5 {tg e:Expr}{te:TE}{g:TG}(z:PE X e te)(r:PG X tg g)(k:swapsWithSole [tg] e pos.line X.env=pure false:=by rfl)(j:swappedStores [tg] e X.env=pure none:=by rfl)
  (h1:(assignEach [tg] X.env).map (·.2)=[assign tg X.env]:=by rfl):PS X (.Assign [tg] e pos) (aV3 te g):=by
 refine⟨?_⟩;intro y s σ H D I h;refine wpAny_Assign_stores (thn (z y s σ H _ I h) λv m ⟨x,H1,w,p,c⟩=>?_) k j
 rw[h1];exact thn (r y m σ H1 x v _ w p c) λ_ Y q=>q
theorem B5 {i:Nat}{x:Str}{e:Expr}{te:TE}{pos':Pos}(k:X.N.Nodup)(hi:X.N[i]? = some x)(q:Loc X.env.scope x)(j:PE X e te)(p:swapsWith e (some (.Name x pos')) pos.line X.env=pure false:=by rfl)(c:X.fn x=true\/X.env.scope.names.lookup x=some .local:=by first | exact .inl rfl | exact .inr rfl | assumption) :
  PS X (.Assign [.Name x pos'] e pos) (aV3 te (G5 i)):=by
 refine⟨?_⟩;intro r s σ H D I h;refine wpAny_Assign_Name (thn (j r s σ H _ I h) λv U ⟨y,H1,w,Y,m⟩=>?_) p
 exact aH5 w k hi q Y (λJ z=>⟨_,H1,z,m⟩) c
def dO1 (i:Nat)(te:TE)(ti:TIp):TS:=λD σ H=>∃x,σ[i]? = some (some x)/\te σ H λy H1=>ti x y H1 λz H2=>D.nx (σ.set i (some z)) H2
theorem dK8 {i:Nat}{x:Str}{e:Expr}{te:TE}{op:Operator}{ti:TIp}{pos':Pos}(B:X.N.Nodup)(hi:X.N[i]? = some x)(q:Loc X.env.scope x)(he:PE X e te)(ho:PIp X op ti)(hf:X.fn x=true\/X.env.scope.names.lookup x=some .local:=by first | exact .inl rfl | exact .inr rfl | assumption) :
  PS X (.AugAssign (.Name x pos') op e pos) (dO1 i te ti):=by
 refine⟨?_⟩;intro p s σ H D I h;obtain⟨v,F,h⟩:=h;obtain⟨m,hn,hl⟩:=I.loc;have Y:Vis X.env.scope x:=by rcases q with k | k;exact .inl k;exact .inr (.inl k)
 obtain⟨u,r,l⟩:=hl i x v hi F Y;refine wpAny_AugAssign_Name ?_;have U:wpAny (model X.prog X.w) X.A (eval e X.env) (λw s₂=>wpAny (model X.prog X.w) X.A (inplaceOp op u w) (λr s₃=>wpAny (model X.prog X.w) X.A (storeName X.env x r) (λ_=>SP X p D .next) X.xe s₃) X.xe s₂) X.xe s:=by
  refine thn (he p s σ H _ I h) λw s1 ⟨y,H1,M,r1,q1⟩=>?_
  refine thn (ho p s1 σ H1 v y u w _ M r r1 q1) λz s2 ⟨zv,J,R,r2,q2⟩=>?_
  exact aH5 R B hi q r2 (λs3 Q=>⟨_,J,Q,q2⟩) hf
 rcases l with⟨hk,hm⟩ | ⟨hk,c,P,j⟩
 .exact wpAny_loadName_local I.ok.kind hk hn hm U
 .rcases hk with hk | hk
  .exact wpAny_loadName_cell I.ok.kind hk P j U
  .rcases q with k | k
   .have:X.env.scope.names.lookup x=some .free:=hk
    rw[k]at this;cases this
   .have:X.env.scope.names.lookup x=some .free:=hk
    rw[k]at this;cases this
def ipI (f:Int->Int->Int):TIp:=λx y H Q=>∃i j,x=.int i/\y=.int j/\Q (.int (f i j)) H
theorem dG1:PIp X .Add (ipI λi j=>i+j):=by
 intro k s σ H x y v u Q I z r h;obtain⟨i,j,e,w,q⟩:=h;subst e;subst w;obtain⟨t,rfl⟩:=z;obtain⟨c,rfl⟩:=r;exact iadd_int ⟨.int _,H,I.tok _,⟨_,rfl⟩,q⟩
def bR5 (c:TT)(tb:TS):TS:=λD σ H=>∃W:Nat->St->Hp->Prop,(∃m,W m σ H)/\∀m σ H,W m σ H ->
 c σ H λb H1=>if b=true then ∃N:St->Hp->Prop,(∀σ' H',N σ' H'->∃m',m'<m/\W m' σ' H')/\tb {D with nx:=N,ct:=N,bk:=D.nx} σ H1 else D.nx σ H1
theorem aG8 {c:Expr}{body:List Stmt}{tc:TT}{tb:TS}(hp:PassesOwn (model X.prog X.w) X.A X.env X.xe)(hc:PT X c tc)(P:PSs X body tb):PS X (.While c body [] pos) (bR5 tc tb):=by
 refine⟨?_⟩;intro p s σ H D I h;obtain⟨W,⟨m0,w0⟩,turn⟩:=h;refine wpAny_While (codeAny_whileLoop (λn s'=>∃F J,Inv X p F J s'/\W n F J) ?_ m0 ⟨σ,H,I,w0⟩)
 rintro n s1 ⟨k,H1,B,w1⟩;refine wpAny_passesOwn hp (thn (hc p s1 k H1 _ B (turn n k H1 w1)) λb s2 ⟨M,R,z⟩=>?_)
 cases b with
 | true=>
  obtain⟨N,Q,z⟩:=z;rw[Ac rfl];refine wpAny_passesOwn hp (thn (P p s2 k M _ R z) λf s3 r=>?_)
  cases f with
  | next=>
   obtain⟨y,e,j,Y⟩:=r;obtain⟨m,q,U⟩:=Q y e Y;exact⟨m,q,y,e,j,U⟩
  | cont=>
   obtain⟨y,e,j,Y⟩:=r;obtain⟨m,q,U⟩:=Q y e Y;exact⟨m,q,y,e,j,U⟩
  | brk=>exact r
  | ret v=>exact r
 | false=>
  rw[Ab Ai];exact wpAny_execs_nil ⟨k,M,R,z⟩
end
structure It where
 go:Nat->Hp->Prop
 yld:Nat->Hp->V->Hp->Prop
 stop:Nat->Hp->Prop
def bF1 (X:Cx)(aA:Eb)(H:Hp)(b:Addr):Prop:=
 H b=none/\b≠X.env.locals/\b∉X.fs/\(b∈X.ex\/X.s₀.heap.objs.size<=b)/\(∀x c,X.env.cells.lookup x=some c->c≠b)/\∀p∈X.pn++aA,p.1≠b
theorem Inv.fpOk {X:Cx}{aA:Eb}{σ:St}{H H':Hp}{s:Shared}{b:Addr}(I:Inv X aA σ H s)(y:s.heap.objs.size<=b)(w:H' b=none):bF1 X aA H' b:=by
 refine⟨w,Nat.ne_of_gt (Ab8 I.lt y),I.nofs y,.inr (An I.sz y),λx c e z=>?_,λp hp z=>?_⟩
 .obtain⟨v,q⟩:=I.cell x c e;exact absurd (Ab8 q.lt (by rw[z];exact y)) (Ad9 _)
 .exact absurd (Ab8 (Ab3 (I.pin p hp).1) (by rw[z];exact y)) (Ad9 _)
structure cB7 (P:Program)(w:World)(K:Frag)(tg:Expr)(J:It)(fp:AM)(it:Addr)(tn:Nat->Heap->Prop):Prop where
 mem:it∈fp
 obj:∀i h,tn i h->∀b∈fp,∃o,h.get? b=some o/\∀v,o.data≠.cell v
 keep:∀i h h',tn i h->(∀b∈fp,∀o,h.get? b=some o->h'.get? b=some o)->tn i h'
 item:∀(X:Cx),X.prog=P->X.w=w->X.K=K->X.calm=true->∀(i:Nat) (aA:Eb) (s:Shared) (σ:St) (H:Hp) (E:Dz),Inv X aA σ H s->(∀b∈fp,bF1 X aA H b)->tn i s.heap->J.go i H ->
  wpAny (model P w) X.A (pyNext (.ref it)) (λr s1=>∃u,r=some u /\
   wpAny (model P w) X.A (letOwnedTupleGo tg (.ref it) u) (λ_ s2=>∃x H',Inv X aA σ H' s2/\RelV x u/\J.yld i H x H'/\tn (i+1) s2.heap/\∀b∈fp,H' b=none) E s1) E s
 done:∀(X:Cx),X.prog=P->X.w=w->X.K=K->X.calm=true->∀(i:Nat) (aA:Eb) (s:Shared) (σ:St) (H:Hp) (E:Dz),Inv X aA σ H s->(∀b∈fp,bF1 X aA H b)->tn i s.heap->J.stop i H ->
  wpAny (model P w) X.A (pyNext (.ref it)) (λr s1=>r=none/\Inv X aA σ H s1) E s
 self:∀(A:Around) (i:Nat) (s:Shared) (Q:Dz) (E:Dz),tn i s.heap->Q (.ref it) s->wpAny (model P w) A (pyIter (.ref it)) Q E s
abbrev TI:=St->Hp->(It->Hp->Prop)->Prop
def PIE (X:Cx)(aA:Eb)(σ:St)(tg:Expr)(R:It->Hp->Prop)(itv:Value)(s2:Shared):Prop:=
 ∃(it:Addr) (fp:AM) (tn:Nat->Heap->Prop) (J:It) (H':Hp),itv=.ref it/\Inv X aA σ H' s2/\cB7 X.prog X.w X.K tg J fp it tn/\tn 0 s2.heap/\(∀b∈fp,bF1 X aA H' b)/\R J H'
structure PI (X:Cx)(tg iter:Expr)(wi:TI):Prop where
 mk ::
 run :
  ∀(aA:Eb) (s:Shared) (σ:St) (H:Hp) (R:It->Hp->Prop),Inv X aA σ H s->wi σ H R ->
   wpAny (model X.prog X.w) X.A (eval iter X.env) (λv s1=>wpAny (model X.prog X.w) X.A (pyIter v) (PIE X aA σ tg R) X.xe s1) X.xe s
instance {X:Cx} {tg iter:Expr} {wi:TI}:CoeFun (PI X tg iter wi) λ_=>
 (∀(aA:Eb) (s:Shared) (σ:St) (H:Hp) (R:It->Hp->Prop),Inv X aA σ H s->wi σ H R ->
  wpAny (model X.prog X.w) X.A (eval iter X.env) (λv s1=>wpAny (model X.prog X.w) X.A (pyIter v) (PIE X aA σ tg R) X.xe s1) X.xe s):=⟨PI.run⟩
theorem cI5 {M:Model}{A:Around}{E:Dz}{s:Shared}{tg:Expr}{it:Addr}{u:Value}{o:Obj}{n:String}{vs:AK}{Q:Unit->Shared->Prop}(ho:s.heap.get? it=some o)(y:o.cls=.type n)(w:o.data=.fields vs)
  (z:["enumerate", "zip", "dict_itemiterator", "dict_reverseitemiterator", "odict_iterator", "itertools.zip_longest", "itertools.pairwise"].contains n=false) (e:Q () s):wpAny M A (letOwnedTupleGo tg (.ref it) u) Q E s:=by
 unfold letOwnedTupleGo;cases tg <;> first
  | exact Ae e
  | (cases u <;> first
    | exact Ae e
    | (refine Aa (wpAny_load ho ?_)
       rw[y,w];show wpAny M A (if(["enumerate", "zip", "dict_itemiterator", "dict_reverseitemiterator", "odict_iterator", "itertools.zip_longest", "itertools.pairwise"].contains n&&vs[0]? == some (rawInt _))=true then _ else _) Q E s;rw[Ab (by intro h;rw[z,Bool.false_and]at h;cases h)]
       exact Ae e))
def Itl (K:Frag)(a:Addr):It:=
 ⟨λi H=>∃xs x,SqL K H a xs/\xs[i]? = some x,λi H x H'=>H'=H/\∀xs,SqL K H a xs->xs[i]? = some x,λi H=>∃xs,SqL K H a xs/\xs.length<=i⟩
def Itt (K:Frag)(a:Addr):It:=
 ⟨λi H=>∃xs x,SqT K H a xs/\xs[i]? = some x,λi H x H'=>H'=H/\∀xs,SqT K H a xs->xs[i]? = some x,λi H=>∃xs,SqT K H a xs/\xs.length<=i⟩
def Itr (lo:Int)(n:Nat):It:=⟨λi _=>i<n,λi H x H'=>H'=H/\x=.int (lo+i),λi _=>n<=i⟩
theorem bZ6 {P:Program}{w:World}{K:Frag}{tg:Expr}(a it:Addr):cB7 P w K tg (Itl K a) [it] it (λi h=>h.IsListIter it a i) where
 mem:=by simp
 obj:=λi h y b r=>by
  have e:b=it:=by simpa using r
  subst e;obtain⟨o,e,c,d⟩:=y;exact⟨o,e,λv z=>by rw[d]at z;cases z⟩
 keep:=λi h q y k=>y.at λo e=>k it (by simp) o e
 item:=by
  intro X R D N hc i aA s σ H E I m y Q;subst R D N;obtain⟨xs,x,Y,F⟩:=Q;obtain⟨its,B,p,hz⟩:=I.list Y;obtain⟨u,hu,ru⟩:=B.get F;obtain⟨U,f1,f2,f3,J,M⟩:=m it (by simp)
  refine wpAny_pyNext_list_item y p.isList (x:=u) (by simpa using hu) λq j sb=>?_
  have I1:Inv X aA σ H {s with heap:=q}:=I.turned (t':=s.toks) (λb o r e=>(sb.2 b r).trans e) U f1 f3 J M
  obtain⟨o,e,c,d⟩:=id j;exact⟨u,rfl,cI5 (s:={s with heap:=q}) e c d (by decide) ⟨x,H,I1,ru,⟨rfl,λys hy=>by rw[I.list_inj hy Y];exact F⟩,j,λb r=>(m b r).1⟩⟩
 done:=by
  intro X R D N hc i aA s σ H E I m y Q;subst R D N;obtain⟨xs,Y,F⟩:=Q;obtain⟨its,B,p,hz⟩:=I.list Y;obtain⟨U,f1,f2,f3,J,M⟩:=m it (by simp)
  have hl:=B.length
  exact wpAny_pyNext_list_end (I.ok.hd hc) y p.isList (by simp;lia) λq eb=>⟨rfl,I.turned (t':=s.toks) (λb o r e=>eb b o r e) U f1 f3 J M⟩
 self:=λ_ _ _ _ _ y h=>wpAny_pyIter_listiter y h
theorem bS9 {P:Program}{w:World}{K:Frag}{tg:Expr}(a it:Addr):cB7 P w K tg (Itt K a) [it] it (λi h=>h.IsTupleIter it a i) where
 mem:=by simp
 obj:=λi h y b r=>by
  have e:b=it:=by simpa using r
  subst e;obtain⟨o,e,c,d⟩:=y;exact⟨o,e,λv z=>by rw[d]at z;cases z⟩
 keep:=λi h q y k=>y.at λo e=>k it (by simp) o e
 item:=by
  intro X R D N hc i aA s σ H E I m y Q;subst R D N;obtain⟨xs,x,Y,F⟩:=Q;obtain⟨its,B,p,hz⟩:=I.tuple Y;obtain⟨u,hu,ru⟩:=B.get F;obtain⟨U,f1,f2,f3,J,M⟩:=m it (by simp)
  refine wpAny_pyNext_tuple_item y (show s.heap.IsTuple a its.toArray from p) (x:=u) (by simpa using hu) λq j sb=>?_
  have I1:Inv X aA σ H {s with heap:=q}:=I.turned (t':=s.toks) (λb o r e=>(sb.2 b r).trans e) U f1 f3 J M
  obtain⟨o,e,c,d⟩:=id j;exact⟨u,rfl,cI5 (s:={s with heap:=q}) e c d (by decide) ⟨x,H,I1,ru,⟨rfl,λys hy=>by rw[I.tuple_inj hy Y];exact F⟩,j,λb r=>(m b r).1⟩⟩
 done:=by
  intro X R D N hc i aA s σ H E I m y Q;subst R D N;obtain⟨xs,Y,F⟩:=Q;obtain⟨its,B,p,hz⟩:=I.tuple Y;obtain⟨U,f1,f2,f3,J,M⟩:=m it (by simp)
  have hl:=B.length
  exact wpAny_pyNext_tuple_end (I.ok.hd hc) y (show s.heap.IsTuple a its.toArray from p) (by simp;lia) λq eb=>⟨rfl,I.turned (t':=s.toks) (λb o r e=>eb b o r e) U f1 f3 J M⟩
 self:=λ_ _ _ _ _ y h=>wpAny_pyIter_tupleiter y h
theorem bQ7 {P:Program}{w:World}{K:Frag}{tg:Expr}(it:Addr)(lo:Int)(n:Nat):cB7 P w K tg (Itr lo n) [it] it (λi h=>IsRangeIter h it (lo+(i:Nat)*1) ((n:Int)-(i:Nat)) 1) where
 mem:=by simp
 obj:=λi h y b r=>by
  have e:b=it:=by simpa using r
  subst e;exact⟨_,y,λv z=>by
   have z':Data.fields _=Data.cell v:=z
   cases z'⟩
 keep:=λi h c y k=>k it (by simp) _ y
 item:=by
  intro X J R U M i Q s σ H E I p y N;subst J R U;obtain⟨q,f1,f2,f3,m,Y⟩:=p it (by simp)
  have W:=Walks.range (prog:=X.prog) (w:=X.w) (I.ok.hd M) it lo 1 n
  refine W.item i s _ _ N y λv c D hv j kk=>?_
  obtain⟨t,rfl⟩:=hv;have F:Inv X Q σ H {s with heap:=c,toks:=D}:=I.turned (λb o r e=>kk b o (by simpa using r) e) q f1 f3 m Y
  refine⟨_,rfl,cI5 (s:={s with heap:=c,toks:=D}) (n := "range_iterator") j rfl rfl (by decide) ⟨.int (lo+i),H,F,⟨t,?_⟩,⟨rfl,rfl⟩,j,λb r=>(p b r).1⟩⟩
  rw[Int.mul_one]
 done:=by
  intro X J R U M i Q s σ H E I p y N;subst J R U;obtain⟨q,f1,f2,f3,m,Y⟩:=p it (by simp)
  exact wpAny_pyNext_range_end (I.ok.hd M) y (by have:n<=i:=N;lia) λc B=>⟨rfl,I.turned (t':=s.toks) (λb o r e=>B b o r e) q f1 f3 m Y⟩
 self:=λ_ _ _ _ _ y h=>wpAny_pyIter_rangeiter y h
section
variable {X:Cx}{tg:Expr}
def cZ1 (K:Frag)(tl:TE):TI:=λσ H R=>tl σ H λx H1=>∃a,x=.ref a/\(∃xs,SqL K H1 a xs)/\R (Itl K a) H1
def dS0 (K:Frag)(tl:TE):TI:=λσ H R=>tl σ H λx H1=>∃a,x=.ref a/\(∃xs,SqT K H1 a xs)/\R (Itt K a) H1
theorem S0 {l:Expr}{tl:TE}(k:PE X l tl):PI X tg l (cZ1 X.K tl):=by
 refine⟨?_⟩;intro z s σ H R I h;refine thn (k z s σ H _ I h) λv w ⟨x,H1,y,m,c⟩=>?_
 obtain⟨a,e,⟨xs,j⟩,q⟩:=c;subst e;cases m;obtain⟨its,U,p,Y⟩:=y.list j;refine wpAny_pyIter_list p.isList ?_;refine⟨w.heap.objs.size,[w.heap.objs.size],_,_,H1,rfl,y.kept (t':=w.toks) λb o e=>Aa6 _ e,bZ6 a _,⟨_,Ac3 _ rfl,rfl,rfl⟩,λb r=>?_,q⟩
 have e:b=w.heap.objs.size:=by simpa using r
 subst e;exact y.fpOk (Aa7 _) (y.hok.fresh (Aa7 _))
theorem z6 {l:Expr}{tl:TE}(k:PE X l tl):PI X tg l (dS0 X.K tl):=by
 refine⟨?_⟩;intro z s σ H R I h;refine thn (k z s σ H _ I h) λv y ⟨x,H1,w,m,c⟩=>?_
 obtain⟨a,e,⟨xs,j⟩,q⟩:=c;subst e;cases m;obtain⟨its,U,p,Y⟩:=w.tuple j;refine wpAny_pyIter_tuple (show y.heap.IsTuple a its.toArray from p) ?_
 refine⟨y.heap.objs.size,[y.heap.objs.size],_,_,H1,rfl,w.kept (t':=y.toks) λb o e=>Aa6 _ e,bS9 a _,⟨_,Ac3 _ rfl,rfl,rfl⟩,λb r=>?_,q⟩
 have e:b=y.heap.objs.size:=by simpa using r
 subst e;exact w.fpOk (Aa7 _) (w.hok.fresh (Aa7 _))
theorem bM6 {aA:Eb}{σ:St}{H:Hp}{s:Shared}{R:It->Hp->Prop}{E:Dz}{lo hi:Int}{t u v:Tok}{tk:Nat}(I:Inv X aA σ H s)(h1 : -(2^62)<=lo)(k:lo<2^62)(j : -(2^62)<=hi)(c:hi<2^62)
  (q:R (Itr lo (hi-lo).toNat) H):wpAny (model X.prog X.w) X.A (pyIter (.ref s.heap.objs.size)) (PIE X aA σ tg R) E {s with heap:=s.heap.push {cls:=.type "range",data:=.fields #[.int lo t,.int hi u,.int 1 v]},toks:=tk}:=by
 refine wpAny_pyIter_range (IsRange.new ..) (small_one h1 k j c) ?_;have y:Inv X aA σ H {s with heap:=s.heap.push {cls:=.type "range",data:=.fields #[.int lo t,.int hi u,.int 1 v]},toks:=tk}:=I.kept λb o e=>Aa6 _ e
 refine⟨(s.heap.push {cls:=.type "range",data:=.fields #[.int lo t,.int hi u,.int 1 v]}).objs.size,[(s.heap.push {cls:=.type "range",data:=.fields #[.int lo t,.int hi u,.int 1 v]}).objs.size],_,_,H,rfl,
  y.kept (t':=tk) λb o e=>Aa6 _ e,bQ7 _ lo (hi-lo).toNat,?_,λb p=>?_,q⟩
 .have z:lo+((0:Nat):Int)*1=lo:=by simp
  have r:(((hi-lo).toNat:Nat):Int)-((0:Nat):Int)=Builtin.Range.rangeSize lo hi 1:=by rw[rangeSize_one];split <;> lia
  show IsRangeIter _ _ (lo+((0:Nat):Int)*1) ((((hi-lo).toNat:Nat):Int)-((0:Nat):Int)) 1
  rw[z,r];exact Ac3 _ rfl
 .have e:b=(s.heap.push {cls:=.type "range",data:=.fields #[.int lo t,.int hi u,.int 1 v]}).objs.size:=by simpa using p
  subst e;exact y.fpOk (Aa7 _) (y.hok.fresh (Aa7 _))
def dB3 (ta:TA):TI:=λσ H R=>ta σ H λvs H1=>∃j:Int,vs=[.int j] /\ -(2^62)<=j/\j<2^62/\R (Itr 0 j.toNat) H1
def dA5 (ta:TA):TI:=λσ H R=>ta σ H λvs H1=>∃i j:Int,vs=[.int i,.int j]/\(-(2^62)<=i/\i<2^62 /\ -(2^62)<=j/\j<2^62)/\R (Itr i (j-i).toNat) H1
theorem J9 {a:Expr}{ta:TA}{p pos:Pos}(c:Gl X "range")(m:X.mg "range" = none)(k:PA X [a] ta)(Y:starEach [a] X.env=[(false,eval a X.env)]:=by rfl):PI X tg (.Call (.Name "range" p) [a] [] pos) (dB3 ta):=by
 refine⟨?_⟩;intro z s σ H R I h;refine Call_ (z4 I c m boot_range (Bn (thn (k pos z s σ H _ I h) λN M ⟨vs,H1,w,J,y⟩=>?_) Y rfl))
 obtain⟨j,e,y,U,q⟩:=y;subst e;cases J with
 | cons r rr=>
  cases rr
  obtain⟨t,rfl⟩:=r;exact call_range_1 (bM6 w (by lia) (by lia) y U (by simpa using q))
theorem aY6 {a b:Expr}{ta:TA}{p pos:Pos}(m:Gl X "range")(Y:X.mg "range" = none)(c:PA X [a,b] ta)(U:starEach [a,b] X.env=[(false,eval a X.env),(false,eval b X.env)]:=by rfl)(y:starEach [b] X.env=[(false,eval b X.env)]:=by rfl) :
  PI X tg (.Call (.Name "range" p) [a,b] [] pos) (dA5 ta):=by
 refine⟨?_⟩;intro k s σ H R I h;refine Call_ (z4 I m Y boot_range (Bn (thn (c pos k s σ H _ I h) λP F ⟨vs,H1,z,D,w⟩=>?_) (by rw[U,y]) (by rw[y];rfl)))
 obtain⟨i,j,e,⟨w,J,M,N⟩,q⟩:=w;subst e;cases D with
 | cons r rr=>
  cases rr with
  | cons Q rr=>
   cases rr
   obtain⟨t,rfl⟩:=r;obtain⟨B,rfl⟩:=Q;exact call_range_2 (bM6 z w J M N q)
def dO6 (wi:TI)(g:TG)(tb:TS):TS:=λD σ H=>wi σ H λJ H1=>∃W:Nat->Nat->St->Hp->Prop,(∃m,W 0 m σ H1)/\∀i m σ H,W i m σ H ->
 (J.stop i H/\D.nx σ H)\/(J.go i H/\∃N:St->Hp->Prop,(∀σ' H',N σ' H'->∃m',m'<m/\W (i+1) m' σ' H')/\∀x H',J.yld i H x H'->g x σ H' λσ2 H2=>tb {D with nx:=N,ct:=N,bk:=D.nx} σ2 H2)
def o8 (fp:AM)(h:Heap):List (Addr×Obj):=fp.filterMap λb=>(h.get? b).map λo=>(b,o)
theorem u8 {fp:AM}{h:Heap}{b:Addr}{o:Obj}(y:b∈fp)(e:h.get? b=some o):(b,o)∈o8 fp h:=List.mem_filterMap.mpr ⟨b,y,by rw[e];rfl⟩
theorem aX0 {fp:AM}{h:Heap}{p:Addr×Obj}(hp:p∈o8 fp h):p.1∈fp/\h.get? p.1=some p.2:=by
 obtain⟨b,y,e⟩:=List.mem_filterMap.mp hp;cases q:h.get? b with
 | none=>rw[q]at e;cases e
 | some o=>
  rw[q]at e;have e':(b,o)=p:=Ab4 e;subst e';exact⟨y,q⟩
theorem Inv.pinned {aA:Eb}{σ:St}{H:Hp}{s:Shared}{fp:AM}(I:Inv X aA σ H s)(r:∀b∈fp,bF1 X aA H b)(ho:∀b∈fp,∃o,s.heap.get? b=some o/\∀v,o.data≠.cell v):Inv X (aA++o8 fp s.heap) σ H s:=
 I.pins_of λp hp=>(Aa0.mp hp).elim (λz=>I.pin p (Ac1 _ z)) λz=>by
  obtain⟨y,e⟩:=aX0 z;obtain⟨w,f1,f2,_⟩:=r p.1 y;obtain⟨o,e',d⟩:=ho p.1 y;rw[e]at e';cases e';exact⟨e,w,f1,f2,d⟩
theorem Inv.unpinned {aA pl:Eb}{σ:St}{H:Hp}{s:Shared}(I:Inv X (aA++pl) σ H s):Inv X aA σ H s:=I.pins_of λp hp=>I.pin p (Ac1 _ (Cf _ hp))
theorem O8 {iter:Expr}{body:List Stmt}{wi:TI}{g:TG}{tb:TS}{pos:Pos}(hp:PassesOwn (model X.prog X.w) X.A X.env X.xe)(hc:X.calm=true)(hi:PI X tg iter wi)(hg:PG X tg g)(j:PSs X body tb)
  (hs:∀x,foldedSetIterable iter X.env x=pure x:=by intro _;rfl):PS X (.For tg iter body [] pos) (dO6 wi g tb):=by
 refine⟨?_⟩;intro U s σ H D I h;refine wpAny_For (thn (hi U s σ H _ I h) λv s1 h1=>thn h1 λitv s2 h2=>?_) hs
 obtain⟨it,R,tn,J,H2,e,I2,T,st2,f2,W,⟨m0,w0⟩,turn⟩:=h2;subst e;have c:∀{q:Hp},(∀b∈R,q b=none)->∀b∈R,bF1 X U q b:=λhn b j=>⟨hn b j,(f2 b j).2⟩
 refine codeAny_forLoop_any (λn s'=>∃i σ' q,Inv X U σ' q s'/\tn i s'.heap/\(∀b∈R,q b=none)/\W i n σ' q) ?_ m0 ⟨0,σ,H2,I2,st2,λb j=>(f2 b j).1,w0⟩
 rintro n s3 ⟨i,σ3,H3,I3,B,Q,w3⟩;rcases turn i n σ3 H3 w3 with⟨P,qn⟩ | ⟨go,N,hN,step⟩
 .refine wpAny_passesOwn hp (thn (T.done X rfl rfl rfl hc i U s3 σ3 H3 X.xe I3 (c Q) B P) λr s4 ⟨hr,I4⟩=>?_)
  subst hr;exact wpAny_execs_nil ⟨σ3,H3,I4,qn⟩
 .refine wpAny_passesOwn hp (thn (T.item X rfl rfl rfl hc i U s3 σ3 H3 X.xe I3 (c Q) B go) λr s4 ⟨u,hr,h4⟩=>?_)
  subst hr;refine wpAny_passesOwn hp (thn h4 λ_ s5 ⟨x,H5,I5,r5,y5,M,fr5⟩=>?_)
  have I5':=I5.pinned (c fr5) (T.obj _ _ M)
  refine wpAny_passesOwn hp (thn (hg _ s5 σ3 H5 x u _ I5' r5 (step x H5 y5)) λ_ s6 ⟨σ6,H6,I6,q6⟩=>?_)
  refine wpAny_passesOwn hp (thn (j _ s6 σ6 H6 _ I6 q6) λf s7 Y=>?_)
  have k:∀{p:St} {y:Hp},Inv X (U++o8 R s5.heap) p y s7->N p y->∃m,m<n/\∃i σ' q,Inv X U σ' q s7/\tn i s7.heap/\(∀b∈R,q b=none)/\W i m σ' q:=λ{p y} z F=>by
   obtain⟨m',hm,w7⟩:=hN p y F;refine⟨m',hm,i+1,p,y,z.unpinned,T.keep _ _ _ M λb j o e=>(z.pin (b,o) (Ac1 _ (Ac1 _ (u8 j e)))).1,λb j=>?_,w7⟩
   obtain⟨o,e,d⟩:=T.obj _ _ M b j;exact(z.pin (b,o) (Ac1 _ (Ac1 _ (u8 j e)))).2.1
  cases f with
  | next=>obtain⟨p,y,z,F⟩:=Y;exact k z F
  | cont=>obtain⟨p,y,z,F⟩:=Y;exact k z F
  | brk=>obtain⟨p,y,z,Y⟩:=Y;exact⟨p,y,z.unpinned,Y⟩
  | ret v=>obtain⟨x7,p,y,z,r7,Y⟩:=Y;exact⟨x7,p,y,z.unpinned,r7,Y⟩
end
abbrev R2:=V->V->Hp->VK->Prop
def OpR (X:Cx)(f:Value->Value->Sem Value)(r:R2):Prop:=
 ∀(aA:Eb) (s:Shared) (σ:St) (H:Hp) (x y:V) (v u:Value) (Q:VK),Inv X aA σ H s->RelV x v->RelV y u->r x y H Q ->
  wpAny (model X.prog X.w) X.A (f v u) (EP X aA σ Q) X.xe s
def UnR (X:Cx)(f:Value->Sem Value)(r:V->Hp->VK->Prop):Prop:=
 ∀(aA:Eb) (s:Shared) (σ:St) (H:Hp) (x:V) (v:Value) (Q:VK),Inv X aA σ H s->RelV x v->r x H Q ->
  wpAny (model X.prog X.w) X.A (f v) (EP X aA σ Q) X.xe s
def U3 (X:Cx)(f:Value)(r:List V->Hp->VK->Prop):Prop:=
 ∀(aA:Eb) (s:Shared) (σ:St) (H:Hp) (xs:List V) (us:AH) (Q:VK),Inv X aA σ H s->Vals xs us->r xs H Q ->
  wpAny (model X.prog X.w) X.A (call f us) (EP X aA σ Q) X.xe s
def tOp (r:R2)(ta tb:TE):TE:=λσ H Q=>ta σ H λx H1=>tb σ H1 λy H2=>r x y H2 Q
def tUn (r:V->Hp->VK->Prop)(ta:TE):TE:=λσ H Q=>ta σ H λx H1=>r x H1 Q
def rI (C:Int->Int->Prop)(g:Int->Int->V):R2:=λx y H Q=>∃i j,x=.int i/\y=.int j/\C i j/\Q (g i j) H
def rI0 (g:Int->Int->V):R2:=λx y H Q=>∃i j,x=.int i/\y=.int j/\Q (g i j) H
def rU (g:Int->V):V->Hp->VK->Prop:=λx H Q=>∃i,x=.int i/\Q (g i) H
section
variable {X:Cx}{a b c:Expr}{ta tb tc:TE}{pos:Pos}
theorem dI9 (r:PE X a ta)(k:PE X b tb){aA:Eb}{s:Shared}{σ:St}{H:Hp}{R:V->V->Hp->Prop}(I:Inv X aA σ H s)
  (h:ta σ H λx H1=>tb σ H1 λy H2=>R x y H2) {Q:Dz} {f:Value->Value->Sem Value}
  (j:∀v u s2 x y H2,Inv X aA σ H2 s2->RelV x v->RelV y u->R x y H2->wpAny (model X.prog X.w) X.A (f v u) Q X.xe s2) :
  wpAny (model X.prog X.w) X.A (eval a X.env) (λv s₁=>wpAny (model X.prog X.w) X.A (eval b X.env) (λu s₂=>wpAny (model X.prog X.w) X.A (f v u) Q X.xe s₂) X.xe s₁) X.xe s:=by
 refine thn (r aA s σ H _ I h) λv U ⟨x,H1,e,m,p⟩=>?_
 refine thn (k aA U σ H1 _ e p) λu s2 ⟨y,H2,z,Y,q⟩=>?_
 exact j v u s2 x y H2 z m Y q
theorem B4 {op:Operator}{r:R2}(ho:OpR X (binaryOp op) r)(k:PE X a ta)(j:PE X b tb):PE X (.BinOp a op b pos) (tOp r ta tb):=by
 refine⟨?_⟩;intro z s σ H Q I h;exact wpAny_BinOp (dI9 k j I h λv u Y x y e w p m q=>ho z Y σ e x y v u Q w p m q)
theorem aT8 {op:UnaryOp}{r:V->Hp->VK->Prop}(ho:UnR X (unaryOp op) r)(w:PE X a ta):PE X (.UnaryOp op a pos) (tUn r ta):=by
 refine⟨?_⟩;intro e s σ H Q I h;exact UnaryOp_ (thn (w e s σ H _ I h) λv j ⟨x,H1,y,k,z⟩=>ho e j σ H1 x v Q y k z)
theorem opI {f:Value->Value->Sem Value}{C:Int->Int->Prop}{g:Int->Int->Int}
  (e:∀(i j:Int) (t u:Tok) (s:Shared) (Q:Dz) (E:Dz),C i j->Q (.int (g i j) s.toks) {s with toks:=s.toks+1}->wpAny (model X.prog X.w) X.A (f (.int i t) (.int j u)) Q E s) :
  OpR X f (rI C λi j=>.int (g i j)):=by
 intro m s σ H x y v u Q I r k h;obtain⟨i,j,rfl,rfl,z,q⟩:=h;obtain⟨t,rfl⟩:=r;obtain⟨p,rfl⟩:=k;exact e i j t p s _ _ z ⟨.int (g i j),H,I.tok _,⟨_,rfl⟩,q⟩
theorem dR7 {f:Value->Value->Sem Value}{g:Int->Int->Int}
  (e:∀(i j:Int) (t u:Tok) (s:Shared) (Q:Dz) (E:Dz),Q (.int (g i j) s.toks) {s with toks:=s.toks+1}->wpAny (model X.prog X.w) X.A (f (.int i t) (.int j u)) Q E s) :
  OpR X f (rI0 λi j=>.int (g i j)):=by
 intro p s σ H x y v u Q I z r h;obtain⟨i,j,rfl,rfl,q⟩:=h;obtain⟨t,rfl⟩:=z;obtain⟨k,rfl⟩:=r;exact e i j t k s _ _ ⟨.int (g i j),H,I.tok _,⟨_,rfl⟩,q⟩
theorem cY0 {f:Value->Value->Sem Value}{g:Int->Int->Bool}
  (e:∀(i j:Int) (t u:Tok) (s:Shared) (Q:Dz) (E:Dz),Q (.bool (g i j)) s->wpAny (model X.prog X.w) X.A (f (.int i t) (.int j u)) Q E s) :
  OpR X f (rI0 λi j=>.bl (g i j)):=by
 intro p s σ H x y v u Q I z r h;obtain⟨i,j,rfl,rfl,q⟩:=h;obtain⟨t,rfl⟩:=z;obtain⟨k,rfl⟩:=r;exact e i j t k s _ _ ⟨.bl (g i j),H,I,rfl,q⟩
def dU5 (i j:Int):Prop:=0<j/\j<1073741824
theorem G4:OpR X (binaryOp .Add) (rI0 λi j=>.int (i+j)):=dR7 λ_ _ _ _ _ _ _ q=>add_int q
theorem S1:OpR X (binaryOp .Sub) (rI0 λi j=>.int (i-j)):=dR7 λ_ _ _ _ _ _ _ q=>sub_int q
theorem aC0:OpR X (binaryOp .FloorDiv) (rI dU5 λi j=>.int (i / j)):=opI λi j _ _ _ _ _ e q=>by
 have h1:(0:Int)<j:=e.1
 have y:j<1073741824:=e.2
 exact floordiv_int (by lia) (by rw[Int.fdiv_eq_ediv_of_nonneg i (by lia)];exact q) (.inl (PyProof.noPylong_small (by lia)))
theorem U6:OpR X (binaryOp .Mod) (rI (λ_ j=>0<j) λi j=>.int (i % j)):=opI λi j _ _ _ _ _ e q=>by
 have h1:(0:Int)<j:=e
 exact mod_int' (by lia) (by rw[Int.fmod_eq_emod_of_nonneg i (by lia)];exact q)
theorem unI {f:Value->Sem Value}{g:Int->Int}
  (e:∀(i:Int) (t:Tok) (s:Shared) (Q:Dz) (E:Dz),Q (.int (g i) s.toks) {s with toks:=s.toks+1}->wpAny (model X.prog X.w) X.A (f (.int i t)) Q E s) :
  UnR X f (rU λi=>.int (g i)):=by
 intro z s σ H x v Q I y h;obtain⟨i,rfl,q⟩:=h;obtain⟨t,rfl⟩:=y;exact e i t s _ _ ⟨.int (g i),H,I.tok _,⟨_,rfl⟩,q⟩
theorem aE3:UnR X (unaryOp .USub) (rU λi=>.int (-i)):=unI λ_ _ _ _ _ q=>neg_int q
end
def dM9:V->V->Bool
 | .non,.non=>true | .non,.int _=>true | .int _,.non=>true | .non,.bl _=>true | .bl _,.non=>true | .non,.str _=>true | .str _,.non=>true
 | .int _,.int _=>true | .bl _,.bl _=>true | .str _,.str _=>true | .byt _,.byt _=>true
 | .int _,.str _=>true | .str _,.int _=>true | .bl _,.str _=>true | .str _,.bl _=>true
 | _,_=>false
def rEq:R2:=λx y H Q=>dM9 x y=true/\Q (.bl (decide (x=y))) H
def rNe:R2:=λx y H Q=>dM9 x y=true/\Q (.bl (!decide (x=y))) H
theorem bV6 {i j:Int}:decide (V.int i=V.int j)=(i==j):=by
 rw[Cc]
 simp
theorem cL8 {i j:Bool}:decide (V.bl i=V.bl j)=(i==j):=by
 rw[Cc]
 simp
theorem bV2 {i j:Str}:decide (V.str i=V.str j)=(i==j):=by
 rw[Cc]
 simp
theorem bY1 {i j:Array UInt8}:decide (V.byt i=V.byt j)=(i.toList==j.toList):=by
 rw[Cc];cases i;cases j
 simp
section
variable {X:Cx}{a b c:Expr}{ta tb tc:TE}{pos:Pos}
theorem F0 {aA:Eb}{σ:St}{H:Hp}{s:Shared}{Q:VK}{k k':Bool}(I:Inv X aA σ H s)(q:Q (.bl k) H)(e:k=k'):EP X aA σ Q (.bool k') s:=by
 subst e;exact⟨.bl k,H,I,rfl,q⟩
theorem cZ2:OpR X (compareOp .Eq) rEq:=by
 intro k s σ H x y v u Q I r e h;obtain⟨z,q⟩:=h;cases x with
 | non=>
  cases r
  cases y with
  | non=>cases e;exact PySem.EqNone.eq_none_none (F0 I q (by simp))
  | bl j=>cases e;exact PySem.EqNone.eq_none_bool (F0 I q (by simp))
  | int j=>obtain⟨w,rfl⟩:=e;exact PySem.EqNone.eq_none_int (F0 I q (by simp))
  | str j=>obtain⟨w,rfl⟩:=e;exact PySem.EqNone.eq_none_str (F0 I q (by simp))
  | _=>exact absurd (show false=true from z) Ai
 | bl i=>
  cases r
  cases y with
  | non=>cases e;exact PySem.EqNone.eq_bool_none (F0 I q (by simp))
  | bl j=>cases e;exact eq_bool (F0 I q cL8)
  | str j=>obtain⟨w,rfl⟩:=e;exact PySem.EqMixed.eq_bool_str (F0 I q (by simp))
  | _=>exact absurd (show false=true from z) Ai
 | int i=>
  obtain⟨t,rfl⟩:=r;cases y with
  | non=>cases e;exact PySem.EqNone.eq_int_none (F0 I q (by simp))
  | int j=>obtain⟨w,rfl⟩:=e;exact eq_int (F0 I q bV6)
  | str j=>obtain⟨w,rfl⟩:=e;exact PySem.EqMixed.eq_int_str (F0 I q (by simp))
  | _=>exact absurd (show false=true from z) Ai
 | str i=>
  obtain⟨t,rfl⟩:=r;cases y with
  | non=>cases e;exact PySem.EqNone.eq_str_none (F0 I q (by simp))
  | bl j=>cases e;exact PySem.EqMixed.eq_str_bool (F0 I q (by simp))
  | int j=>obtain⟨w,rfl⟩:=e;exact PySem.EqMixed.eq_str_int (F0 I q (by simp))
  | str j=>obtain⟨w,rfl⟩:=e;exact eq_str (F0 I q bV2)
  | _=>exact absurd (show false=true from z) Ai
 | byt i=>
  obtain⟨t,rfl⟩:=r;cases y with
  | byt j=>obtain⟨w,rfl⟩:=e;exact PySem.W.eq_bytes (F0 I q bY1)
  | _=>exact absurd (show false=true from z) Ai
 | _=>cases y <;> exact absurd (show false=true from z) Ai
theorem dR4:OpR X (compareOp .NotEq) rNe:=by
 intro k s σ H x y v u Q I r e h;obtain⟨z,q⟩:=h;cases x with
 | non=>
  cases r
  cases y with
  | non=>cases e;exact PySem.EqNone.ne_none_none (F0 I q (by simp))
  | bl j=>cases e;exact PySem.EqNone.ne_none_bool (F0 I q (by simp))
  | int j=>obtain⟨w,rfl⟩:=e;exact PySem.EqNone.ne_none_int (F0 I q (by simp))
  | str j=>obtain⟨w,rfl⟩:=e;exact PySem.EqNone.ne_none_str (F0 I q (by simp))
  | _=>exact absurd (show false=true from z) Ai
 | bl i=>
  cases r
  cases y with
  | non=>cases e;exact PySem.EqNone.ne_bool_none (F0 I q (by simp))
  | bl j=>cases e;exact ne_bool (F0 I q (congrArg not cL8))
  | str j=>obtain⟨w,rfl⟩:=e;exact PySem.EqMixed.ne_bool_str (F0 I q (by simp))
  | _=>exact absurd (show false=true from z) Ai
 | int i=>
  obtain⟨t,rfl⟩:=r;cases y with
  | non=>cases e;exact PySem.EqNone.ne_int_none (F0 I q (by simp))
  | int j=>obtain⟨w,rfl⟩:=e;exact ne_int (F0 I q (congrArg not bV6))
  | str j=>obtain⟨w,rfl⟩:=e;exact PySem.EqMixed.ne_int_str (F0 I q (by simp))
  | _=>exact absurd (show false=true from z) Ai
 | str i=>
  obtain⟨t,rfl⟩:=r;cases y with
  | non=>cases e;exact PySem.EqNone.ne_str_none (F0 I q (by simp))
  | bl j=>cases e;exact PySem.EqMixed.ne_str_bool (F0 I q (by simp))
  | int j=>obtain⟨w,rfl⟩:=e;exact PySem.EqMixed.ne_str_int (F0 I q (by simp))
  | str j=>obtain⟨w,rfl⟩:=e;exact ne_str (F0 I q (congrArg not bV2))
  | _=>exact absurd (show false=true from z) Ai
 | byt i=>
  obtain⟨t,rfl⟩:=r;cases y with
  | byt j=>obtain⟨w,rfl⟩:=e;exact PySem.W.ne_bytes (F0 I q (congrArg not bY1))
  | _=>exact absurd (show false=true from z) Ai
 | _=>cases y <;> exact absurd (show false=true from z) Ai
theorem aT2:OpR X (compareOp .Lt) (rI0 λi j=>.bl (decide (i<j))):=cY0 λ_ _ _ _ _ _ _ q=>lt_int q
theorem dN2:OpR X (compareOp .LtE) (rI0 λi j=>.bl (decide (i<=j))):=cY0 λ_ _ _ _ _ _ _ q=>le_int q
theorem aD0:OpR X (compareOp .Gt) (rI0 λi j=>.bl (decide (j<i))):=cY0 λ_ _ _ _ _ _ _ q=>gt_int q
theorem dP8:OpR X (compareOp .GtE) (rI0 λi j=>.bl (decide (j<=i))):=cY0 λ_ _ _ _ _ _ _ q=>ge_int q
theorem K4 (b:Expr){op:CmpOp}(h:op≠.In:=by decide)(w:op≠.NotIn:=by decide):behindInMarks op b=false:=by
 have e:(op==CmpOp.In)=false:=by cases op <;> first | rfl | exact absurd rfl h
 have y:(op==CmpOp.NotIn)=false:=by cases op <;> first | rfl | exact absurd rfl w
 cases b <;> simp[behindInMarks,e,y]
theorem aG0 {op:CmpOp}{r:R2}(ho:OpR X (compareOp op) r)(k:PE X a ta)(j:PE X b tb)(p:behindInMarks op b=false):PE X (.Compare a [op] [b] pos) (tOp r ta tb):=by
 refine⟨?_⟩;intro z s σ H Q I h;exact wpAny_Compare1 (dI9 k j I h λv u U x y e w m Y q=>ho z U σ e x y v u Q w m Y q) p
def bU3 (t:TE):TT:=λσ H Q=>t σ H λx H'=>∃k,x=.bl k/\Q k H'
theorem F9 {op:CmpOp}{r:R2}(ho:OpR X (compareOp op) r)(U:PE X a ta)(J:PE X b tb)(M:behindInMarks op b=false):PT X (.Compare a [op] [b] pos) (bU3 (tOp r ta tb)):=by
 refine⟨?_⟩;intro w s σ H Q I h;refine wpAny_isTrue_Compare1 (thn (U w s σ H _ I h) λv s1 ⟨x,H1,q,F,N⟩=>thn (J w s1 σ H1 _ q N) λu s2 ⟨y,j,m,B,R⟩=>
  thn (ho w s2 σ j x y v u _ m F B R) λc s3 ⟨z,p,Y,P,k,e,D⟩=>?_) M
 subst e;cases P;exact wpAny_truthy_bool ⟨p,Y,D⟩
def cC3 (r r':R2)(ta tb tc:TE):TE:=λσ H Q=>ta σ H λx H1=>tb σ H1 λy H2=>r x y H2 λz H3=>∃k,z=.bl k /\
 (if k=true then tc σ H3 λw' H4=>r' y w' H4 Q else Q (.bl false) H3)
theorem cE3 {op op':CmpOp}{r r':R2}(ho:OpR X (compareOp op) r)(j:OpR X (compareOp op') r')(D:PE X a ta)(F:PE X b tb)(B:PE X c tc)
  (P:lastMarks [op,op'] [b,c]=false:=by with_unfolding_all rfl):PE X (.Compare a [op,op'] [b,c] pos) (cC3 r r' ta tb tc):=by
 refine⟨?_⟩;intro w s σ H Q I h;refine Compare_chain (thn (D w s σ H _ I h) λv s1 ⟨x,H1,M,r1,q1⟩=>chain_link (thn (F w s1 σ H1 _ M q1) λu s2 ⟨y,U,N,Y,q2⟩=>
  thn (ho w s2 σ U x y v u _ N r1 Y q2) λd s3 ⟨z,p,q,r3,k,e,m⟩=>?_)) P
 subst e;cases r3;refine wpAny_truthy_bool ?_;cases k with
 | false=>exact ite_ff ⟨.bl false,p,q,rfl,m⟩
 | true=>exact ite_tt (chain_last (thn (B w s3 σ p _ q m) λw' s4 ⟨z',J,R,r4,q4⟩=>j w s4 σ J y z' u w' Q R Y r4 q4))
theorem aK4:(sizeLine:Nat)<2^63:=by rw[Cp];decide
theorem v5 {x:V}{us:AH}(r:Vals [x] us):∃u,us=[u]/\RelV x u:=by
 cases r with
 | cons e y=>cases y;exact⟨_,rfl,e⟩
end
structure Cls (K:Frag)(C:Addr):Prop where
 pg:PySem.W.plainGet K C Str.empty=true
 hd:PySem.W.hasDictIn K C=true
 po:PySem.W.plainOver K C=true
 sa:PySem.W.findIn K (.ref C) "__setattr__" = some (some (.builtin "object.__setattr__"))
structure Room (k:Nat)(A:Around):Prop where
 hd:A.handled=none
 dp:A.depth+3*k+5<recursionLimit
 un:A.units+16*k+200<cLine
theorem Room.mono {j k:Nat}{A:Around}(r:Room k A)(h:j<=k):Room j A:=⟨r.hd,by have:=r.dp;lia,by have:=r.un;lia⟩
theorem Room.deeper {k:Nat}{A:Around}(r:Room (k+1) A)(env:Env):Room k (A.deeper env):=
 ⟨r.hd,by have:=r.dp;show A.depth+1+3*k+5<_;lia,by have:=r.un;show A.units+3+16*k+200<_;lia⟩
theorem Room.depth {k:Nat}{A:Around}(r:Room k A):A.depth<recursionLimit:=by have:=r.dp;lia
def O1:TA:=λ_ H Q=>Q [] H
def C0 (ta:TE)(tr:TA):TA:=λσ H Q=>ta σ H λx H1=>tr σ H1 λxs H2=>Q (x::xs) H2
section
variable {X:Cx}{e:Expr}{es:AN}{te:TE}{t:TA}{pos:Pos}
theorem A2:PA X [] O1:=⟨λ_ _ _ _ H Q I h=>Calls.spliced_nil ⟨[],H,I,.nil,h⟩⟩
theorem cR3 (k:PE X e te)(j:PA X es t)(c:starEach (e::es) X.env=(false,eval e X.env)::starEach es X.env:=by rfl):PA X (e::es) (C0 te t):=by
 refine⟨?_⟩;intro pos y s σ H Q I h;rw[c];show wpAny _ _ (spliced ((false,eval e X.env)::backTo pos (starEach es X.env))) _ _ s;refine Calls.spliced_cons (thn (k y s σ H _ I h) λu U ⟨x,H1,z,m,p⟩=>?_)
 exact thn (j pos y U σ H1 _ z p) λM J ⟨xs,w,r,Y,q⟩=>⟨x::xs,w,r,.cons m Y,q⟩
def aM6 (t:TA):TE:=λσ H Q=>t σ H λxs H1=>xs.length<=sizeLine/\∀p,H1 p=none->Q (.ref p) (upd H1 p (.tup xs))
def dJ7 (t:TA):TE:=λσ H Q=>t σ H λxs H1=>xs.length<=sizeLine/\∀p,H1 p=none->Q (.ref p) (upd H1 p (.lst xs))
theorem E2 {x1}(h:PA X es t):PE X (.Tuple es x1 pos) (aM6 t):=by
 refine⟨?_⟩;intro k s σ H Q I c;refine wpAny_Tuple_spliced (thn (h pos k s σ H _ I c) λp y ⟨xs,H1,w,r,z,q⟩=>⟨by rw[<- r.length];exact z,?_⟩)
 have j:H1 y.heap.objs.size=none:=w.hok.fresh (Aa7 _)
 refine⟨.ref y.heap.objs.size,upd H1 y.heap.objs.size (.tup xs),w.laid (t':=y.toks) (λb u e=>Aa6 _ e) (Aa7 _) ?_,rfl,q _ j⟩
 exact⟨z,p,r,⟨_,Ac3 _ rfl,rfl,⟨_,rfl⟩,rfl⟩⟩
theorem C5 (h:PA X es t):PE X (.List es pos) (dJ7 t):=by
 refine⟨?_⟩;intro k s σ H Q I c;refine wpAny_List_spliced (thn (h pos k s σ H _ I c) λp y ⟨xs,H1,w,r,z,q⟩=>⟨by rw[<- r.length];exact z,?_⟩)
 have j:H1 y.heap.objs.size=none:=w.hok.fresh (Aa7 _)
 refine⟨.ref y.heap.objs.size,upd H1 y.heap.objs.size (.lst xs),w.laid (t':=y.toks) (λb u e=>Aa6 _ e) (Aa7 _) ?_,rfl,q _ j⟩
 exact⟨z,p,0,r,Ac3 _ rfl⟩
end
abbrev Sp:=List V->Hp->VK->XK->Prop
abbrev CXT:=List Env->Hp->Shared->XK->Value->Shared->Prop
structure cC2 (P:Program)(w:World)(K:Frag)(mg:Str->Option Value)(base:Heap)(A:Around)(outer:List Env)(s:Shared)(H:Hp):Prop where
 frames:A.frames=some outer
 mod:Mod K mg base
 bs:∀b o,base.get? b=some o->s.heap.get? b=some o/\H b=none
 bsz:base.objs.size<=s.heap.objs.size
 funs:s.heap.FunFrames base outer
 frf:∀b∈frs outer,H b=none
 hok:HOk P w H s.heap
 bare:AllBare s.gens
def CE (outer:List Env)(P:Program)(w:World)(H:Hp)(s:Shared)(Q:VK)(u:Value)(s':Shared):Prop:=
 ∃v H',s'.os=s.os/\AllBare s'.gens/\Un (frs outer) [] H H' s.heap s'.heap/\HOk P w H' s'.heap/\RelV v u/\Q v H'
def CR (CX:CXT)(outer:List Env)(P:Program)(w:World)(H:Hp)(s:Shared)(Q:VK)(E:XK)(r:Result)(s':Shared):Prop:=
 match r with
 | .ok (.ret u)=>CE outer P w H s Q u s'
 | .ok _=>False
 | .error e=>CX outer H s E e s'
structure E9 (P:Program)(w:World)(K:Frag)(mg:Str->Option Value)(base:Heap)(CX:CXT)(k:Nat)(f:Addr)(fd:FuncData)(ps:AJ)(sp:Sp):Prop where
 len:∀vs H Q E,sp vs H Q E->vs.length=ps.length
 run:∀(A:Around) (outer:List Env) (s:Shared) (H:Hp) (args:Args) (us:AH) (vs:List V) (Q:VK) (E:XK),Room k A->cC2 P w K mg base A outer s H->BindsTo s fd args (ps.zip us)->Vals vs us->sp vs H Q E ->
  codeAny (model P w) A (.call (.ref f) args) (CR CX outer P w H s Q E) s
section
variable {X:Cx}{aA:Eb}{σ:St}{H:Hp}{s s':Shared}
theorem Inv.env0 (I:Inv X aA σ H s):cC2 X.prog X.w X.K X.mg X.base X.A X.stack s H:=
 ⟨I.ok.frames,I.ok.mod,I.bs,An I.ok.bsz I.sz,I.stack,I.stkFree,I.hok,I.bare⟩
theorem Inv.after {Q:VK}{u:Value}(I:Inv X aA σ H s)(h:CE X.stack X.prog X.w H s Q u s'):EP X aA σ Q u s':=by
 obtain⟨v,j,os,e,un,y,r,q⟩:=h;obtain⟨c,g,d,t,k⟩:=s';obtain rfl:k=s.os:=os;exact⟨v,j,I.call (h':=c) (g':=g) (d':=d) (t':=t) (ch:=[]) un y e (λb z=>absurd z (by simp)),r,q⟩
end
def X9 (sp:Sp)(dvs:List V)(E:XK)(t:TA):TE:=λσ H Q=>t σ H λvs H1=>sp (vs++dvs) H1 Q E
def Binds (K:Frag)(fd:FuncData)(ps:AJ)(ds:AH):Prop:=
 ∀(s:Shared) (us:AH),K.In s.heap->(us++ds).length=ps.length->BindsTo s fd ⟨us,[]⟩ (ps.zip (us++ds))
theorem Binds.all {K:Frag}{fd:FuncData}{ps:AJ}(h:∀us:AH,us.length=ps.length->bindArgs fd ⟨us,[]⟩=pure (ps.zip us)):Binds K fd ps []:=λs us _ e=>by
 rw[Bj]at e ⊢;exact .of_eq (h us e)
def bG9 (CX:CXT)(X:Cx)(E:XK):Prop:=∀(aA:Eb) (σ:St) (H:Hp) (s:Shared) (e:Value) (s':Shared),Inv X aA σ H s->CX X.stack H s E e s'->X.xe e s'
section
variable {X:Cx}{CX:CXT}{k:Nat}{f C:Addr}{fd:FuncData}{ps:AJ}{sp:Sp}{dvs:List V}{ds:AH}{E:XK}{x m:Str}{p pos apos:Pos}{e o:Expr}{es:AN}{ta:TE}{t:TA}
theorem dF3 {aA:Eb}{σ:St}{H:Hp}{s:Shared}{Q:VK}{us:AH}{vs:List V}(F:E9 X.prog X.w X.K X.mg X.base CX k f fd ps sp)(Y:Room k X.A)(j:Binds X.K fd ps ds)(c:Vals dvs ds)(U:bG9 CX X E)
  (I:Inv X aA σ H s) (r:Vals vs us) (h:sp (vs++dvs) H Q E):wpAny (model X.prog X.w) X.A (call (.ref f) us) (EP X aA σ Q) X.xe s:=by
 have z:Vals (vs++dvs) (us++ds):=r.append c
 have q:(us++ds).length=ps.length:=by rw[<- z.length];exact F.len _ _ _ _ h
 refine wpAny_call (codeAny_mono (F.run X.A X.stack s H ⟨us,[]⟩ (us++ds) (vs++dvs) Q E Y I.env0 (j s us I.kIn q) z h) λr J y=>?_)
 cases r with
 | error e=>exact U aA σ H s e J I y
 | ok fl=>
  cases fl with
  | ret u=>exact I.after y
  | next=>exact False.elim y
  | brk=>exact False.elim y
  | cont=>exact False.elim y
theorem C6 (F:E9 X.prog X.w X.K X.mg X.base CX k f fd ps sp)(B:Room k X.A)(N:Gl X x)(D:X.mg x=some (.ref f))(R:PySem.W.keepIn X.K (.ref f)=true)(U:Binds X.K fd ps ds)(J:Vals dvs ds)(P:bG9 CX X E)
  (Y:PA X (e::es) t) (y:(x==("__debug__" : Str))=false:=by decide) (M:starEach (e::es) X.env=(false,eval e X.env)::starEach es X.env:=by rfl) (z:(backTo pos (starEach es X.env)).any (·.1)=false:=by rfl) :
  PE X (.Call (.Name x p) (e::es) [] pos) (X9 sp dvs E t):=by
 refine⟨?_⟩;intro c s σ H Q I h;refine wpAny_Call_Name_kw (aB7 I N D ?_ y);refine PySem.W.callWith_K (h₀:=X.base) I.ok.mod.kin R (thn (Y pos c s σ H _ I h) λus s1 ⟨vs,H1,j,r,q⟩=>⟨j.kIn,?_⟩) M z
 exact dF3 F B U J P j r q
end
structure D9 (N P:AJ)(sc:Scope):Prop where
 kind:sc.kind=.function
 co:sc.isCoroutine=false
 gen:sc.isGenerator=false
 nd:N.Nodup
 pre:N.take P.length=P
 par:∀x∈P,sc.names.lookup x=some .local\/sc.names.lookup x=some .cell
 nofree:∀y∈sc.names,y.2≠.free
theorem aW8 {kindOf:Str->Option NameKind}{x:Str}:∀{binds:List (Str×Value)} {m:Str->Option Value},(∀v,(x,v)∉binds)->bindL kindOf binds m x=m x
 | [],_,_=>rfl
 | (n,v)::r,m,h=>by
  unfold bindL;rw[aW8 λw e=>h w (Ad4 _ e)]
  split
  .have:x≠n:=by rintro rfl;exact h v Am
   simp[this]
  .rfl
theorem aW4 {kindOf:Str->Option NameKind}{x:Str}:∀{binds:List (Str×Value)} {m:Str->Option Value},(∀v,(x,v)∉binds)->bindC kindOf binds m x=m x
 | [],_,_=>rfl
 | (n,v)::r,m,h=>by
  unfold bindC;rw[aW4 λw e=>h w (Ad4 _ e)]
  split
  .rfl
  .have:x≠n:=by rintro rfl;exact h v Am
   simp[this]
theorem aY4 {kindOf:Str->Option NameKind}{x:Str}{v:Value}:∀{P:AJ} {vs:AH} {i:Nat} {m:Str->Option Value},P.Nodup->P[i]? = some x->vs[i]? = some v->kindOf x=some .local ->
  bindL kindOf (P.zip vs) m x=some v
 | [],_,_,_,_,h,_,_=>by simp at h
 | _::_,[],_,_,_,_,h,_=>by simp at h
 | p::P,w::vs,0,m,nd,h1,h2,hk=>by
  simp at h1 h2;subst h1;subst h2
  show bindL kindOf ((p,w)::P.zip vs) m p=_
  unfold bindL;rw[aW8 λv e=>(Aa5.mp nd).1 (List.of_mem_zip e).1,Ac hk]
  simp
 | p::P,w::vs,i+1,m,nd,h1,h2,hk=>by
  show bindL kindOf ((p,w)::P.zip vs) m x=_
  unfold bindL;exact aY4 (i:=i) (Aa5.mp nd).2 (by simpa using h1) (by simpa using h2) hk
theorem aW0 {kindOf:Str->Option NameKind}{x:Str}{v:Value}:∀{P:AJ} {vs:AH} {i:Nat} {m:Str->Option Value},P.Nodup->P[i]? = some x->vs[i]? = some v->kindOf x≠some .local ->
  bindC kindOf (P.zip vs) m x=some v
 | [],_,_,_,_,h,_,_=>by simp at h
 | _::_,[],_,_,_,_,h,_=>by simp at h
 | p::P,w::vs,0,m,nd,h1,h2,hk=>by
  simp at h1 h2;subst h1;subst h2
  show bindC kindOf ((p,w)::P.zip vs) m p=_
  unfold bindC;rw[aW4 λv e=>(Aa5.mp nd).1 (List.of_mem_zip e).1,Ab hk]
  simp
 | p::P,w::vs,i+1,m,nd,h1,h2,hk=>by
  show bindC kindOf ((p,w)::P.zip vs) m x=_
  unfold bindC;exact aW0 (i:=i) (Aa5.mp nd).2 (by simpa using h1) (by simpa using h2) hk
def R5 (N:AJ)(vs:List V):St:=vs.map some++List.replicate (N.length-vs.length) none
def aT1 (CX:CXT)(P:Program)(w:World)(K:Frag)(mg:Str->Option Value)(base:Heap)(N:AJ)(qual:Str)(scope:Scope)(f:Addr)(cd:Value)(A:Around)(outer:List Env)(s:Shared)(H:Hp)(E:XK):Cx where
 prog:=P
 w:=w
 K:=K
 mg:=mg
 base:=base
 A:=A.deeper (envOfC qual scope s.heap.objs.size f cd)
 N:=N
 s₀:=s
 H₀:=H
 env:=envOfC qual scope s.heap.objs.size f cd
 outer:=outer
 stack:=envOfC qual scope s.heap.objs.size f cd::outer
 ex:=[]
 calm:=true
 fn:=λ_=>true
 pn:=[]
 xe:=λe s'=>wpAny (model P w) (A.deeper (envOfC qual scope s.heap.objs.size f cd)) (leaving (envOfC qual scope s.heap.objs.size f cd) e) (λ_ s''=>CX outer H s E e s'') (λe' s''=>CX outer H s E e' s'') s'
theorem bM5 {sc:Scope}{n:Nat}{x:Str}(h:sc.names.lookup x=some .cell):∃c,(cellsFrom n sc.names []).lookup x=some c:=by
 have q:=PySem.W.cellsFrom_some sc.names n [] (.inl h)
 exact Option.isSome_iff_exists.mp q
theorem aW1 {CX:CXT}{P:Program}{w:World}{K:Frag}{mg:Str->Option Value}{base:Heap}{N ps:AJ}{qual:Str}{scope:Scope}{f:Addr}{cd:Value}{A:Around}{outer:List Env}{s s1:Shared}{H:Hp}{E:XK}{us:AH}{vs:List V}
  (S:D9 N ps scope) (R:A.handled=none) (m:cC2 P w K mg base A outer s H) (B:vs.length=ps.length) (r:Vals vs us)
  (x:InCallC s s.heap.objs.size (bindL (envOfC qual scope s.heap.objs.size f cd).kindOf (ps.zip us) λ_=>none) (cellsFrom (s.heap.objs.size+1) scope.names []) (bindC (envOfC qual scope s.heap.objs.size f cd).kindOf (ps.zip us) λ_=>none) s1) :
  Inv (aT1 CX P w K mg base N qual scope f cd A outer s H E) [] (R5 N vs) H s1:=by
 have Q:ps.length<=N.length:=by have:=congrArg List.length S.pre;rw[Ad1]at this;lia
 obtain⟨h1,tk,rfl,U⟩:=x.done;have Y:∀b:Addr,b∉(aT1 CX P w K mg base N qual scope f cd A outer s H E).ex:=λb z=>absurd (show b∈([]:AM) from z) (by simp)
 refine⟨⟨m.mod,S.kind,rfl,rfl,Aa7 _,λy z c h1 j=>?_,λy hy=>?_,λy c _ h=>?_,λ_=>R,Around.frames_deeper m.frames,.inr ⟨rfl,rfl⟩,λb z=>absurd z (Y b),m.bs,m.bsz,λb _ _=>Y b,λb z=>absurd z (Y b),m.funs,m.frf⟩,
  rfl,m.bare,Un.kept U,⟨_,x.toInCall.ns,λi y v h1 j F=>?_⟩,λy c h=>⟨_,x.cell y c h⟩,m.hok.fresh (Aa7 _),λy c h=>?_,λp hp=>absurd (show p∈([]:Eb) from hp) (by simp),m.hok.kept U,?_⟩
 .exact name_of_addr x.apart (PySem.mem_of_lookup h1) (PySem.mem_of_lookup j)
 .have hy:scope.names.lookup y=some .cell\/scope.names.lookup y=some .free:=hy
  rcases hy with hy | hy
  .exact bM5 hy
  .exact absurd rfl (S.nofree _ (PySem.mem_of_lookup hy))
 .exact Bw (x.above y c (PySem.mem_of_lookup h))
 .have hi:i<vs.length:=by
   unfold R5 at j;by_cases hi:i<vs.length
   .exact hi
   .rw[Bp (by simpa using hi)]at j
    rw[Ca]at j;split at j <;> cases j
  have M:vs[i]? = some v:=by
   unfold R5 at j;rw[Br (by simpa using hi),Aa9]at j
   cases e:vs[i]? with
   | none=>rw[e]at j;cases j
   | some a=>rw[e]at j;cases j;rfl
  obtain⟨u,J,D⟩:=r.get M;have hp:ps[i]? = some y:=by
   rw[<- S.pre,List.getElem?_take_of_lt (by lia)];exact h1
  have X:ps.Nodup:=by rw[<- S.pre];exact S.nd.sublist (List.take_sublist _ _)
  refine⟨u,D,?_⟩;rcases S.par y (Az hp) with k | k
  .exact .inl ⟨k,aY4 X hp J k⟩
  .obtain⟨c,e⟩:=bM5 (n:=s.heap.objs.size+1) k;refine .inr ⟨.inl k,c,e,?_⟩;have q:=x.cell y c e;rw[aW0 X hp J (by show scope.names.lookup y≠_;rw[k];decide)]at q
   exact q
 .exact m.hok.fresh (Bw (x.above y c (PySem.mem_of_lookup h)))
 .unfold R5;show _=N.length;rw[Ab7,Aa3,Cn]
  lia
theorem dA8 {CX:CXT}{P:Program}{w:World}{K:Frag}{mg:Str->Option Value}{base:Heap}{k:Nat}{f:Addr}{name qual:Str}{params:Arguments}{body:List Stmt}{scope:Scope}{dV kV doc pm cdv ct oc:Value}{an od:AL}
  {osl:Array (Option Value)} {N ps:AJ} {sp:Sp} (lk:K.lookup f=some ⟨oc,od,.func (PySem.W.fnOf name qual params body scope dV kV doc pm an cdv ct),osl⟩) (U:PySem.W.codeIn K cdv qual=true) (S:D9 N ps scope)
  (len:∀vs H Q E,sp vs H Q E->vs.length=ps.length)
  (z:∀(A:Around) (outer:List Env) (s:Shared) (H:Hp) (vs:List V) (Q:VK) (E:XK),Room k (A.deeper (envOfC qual scope s.heap.objs.size f cdv))->sp vs H Q E ->
   ∃t,PSs (aT1 CX P w K mg base N qual scope f cdv A outer s H E) body t/\t {nx:=λ_ H'=>Q .non H',rt:=Q} (R5 N vs) H) :
  E9 P w K mg base CX (k+1) f (PySem.W.fnOf name qual params body scope dV kV doc pm an cdv ct) ps sp:=by
 refine⟨len,λA outer s H args us vs Q E M p hb r Y=>?_⟩
 have hl:=len _ _ _ _ Y
 have B:K.In s.heap:=p.mod.kin.keeps λb o e=>(p.bs b o e).1
 have R:s.heap.NoLimit:=p.mod.nolimit.keeps λb o e=>(p.bs b o e).1
 have j:∀y∈ps.zip us,scope.names.lookup y.1=some .local\/(scope.names.lookup y.1=some .cell/\((cellsFrom (s.heap.objs.size+1) scope.names []).lookup y.1).isSome=true):=λ⟨n,v⟩ hy=>by
  rcases S.par n (List.of_mem_zip hy).1 with q | q
  .exact .inl q
  .exact .inr ⟨q,PySem.W.cellsFrom_some _ _ _ (.inl q)⟩
 refine codeAny_call_function M.depth (B _ _ lk) rfl S.co S.gen rfl (PySem.W.codeRec_of B U) (hb _ _ _ _ ?_);refine wpAny_newFunctionEnv_cells S.kind j λenv he s1 x=>?_
 subst he;refine⟨R.keeps x.toInCall.keep,codeAny_func ?_⟩;obtain⟨t,ht,hq⟩:=z A outer s H vs Q E (M.deeper _) Y;have I:Inv (aT1 CX P w K mg base N qual scope f cdv A outer s H E) [] (R5 N vs) H s1:=aW1 S M.hd p hl r x;refine wpAny_mono (ht [] s1 (R5 N vs) H _ I hq) (λfl F c=>?_) λe F c=>c
 have m:∀{X:St} {H':Hp} {v:V} {u:Value},Inv (aT1 CX P w K mg base N qual scope f cdv A outer s H E) [] X H' F->RelV v u->Q v H'->CE outer P w H s Q u F:=
  λ{X H' v u} J D q=>⟨v,H',J.os,J.bare,J.base,J.hok,D,q⟩
 cases fl with
 | ret u=>
  obtain⟨v,X,H',J,D,q⟩:=c;exact m J D q
 | next=>
  obtain⟨X,H',J,q⟩:=c;exact m (v:=V.non) (u:=Value.none) J rfl q
 | brk=>
  obtain⟨_,_,_,q⟩:=c;exact False.elim q
 | cont=>
  obtain⟨_,_,_,q⟩:=c;exact False.elim q
section
variable {X:Cx}{x:Str}{p pos:Pos}{e:Expr}{es:AN}{t:TA}{id T:String}{r:List V->Hp->VK->Prop}
def tCB (r:List V->Hp->VK->Prop)(t:TA):TE:=λσ H Q=>t σ H λvs H1=>r vs H1 Q
theorem B0 (c:U3 X (.builtin id) r)(m:Gl X x)(Y:X.mg x=none)(J:bootBuiltins x=some (.builtin id))(j:PA X (e::es) t)(U:x≠"__name__" := by decide)(y:(x==("__debug__" : Str))=false:=by decide)
  (q:starEach (e::es) X.env=(false,eval e X.env)::starEach es X.env:=by rfl) (w:(backTo pos (starEach es X.env)).any (·.1)=false:=by rfl):PE X (.Call (.Name x p) (e::es) [] pos) (tCB r t):=by
 refine⟨?_⟩;intro z s σ H Q I h;refine wpAny_Call_Name_kw (z4 I m Y J ?_ U y);exact PyProof.Rows.callWith_builtin1 (thn (j pos z s σ H _ I h) λD R ⟨vs,H1,k,N,M⟩=>c z R σ H1 vs D Q k N M) q w
theorem Q3 (c:U3 X (.type T) r)(m:Gl X x)(Y:X.mg x=none)(J:bootBuiltins x=some (.type T))(j:PA X (e::es) t)(U:x≠"__name__" := by decide)(y:(x==("__debug__" : Str))=false:=by decide)
  (q:starEach (e::es) X.env=(false,eval e X.env)::starEach es X.env:=by rfl) (w:(backTo pos (starEach es X.env)).any (·.1)=false:=by rfl):PE X (.Call (.Name x p) (e::es) [] pos) (tCB r t):=by
 refine⟨?_⟩;intro z s σ H Q I h;refine wpAny_Call_Name_kw (z4 I m Y J ?_ U y);exact Bn (thn (j pos z s σ H _ I h) λD R ⟨vs,H1,k,N,M⟩=>c z R σ H1 vs D Q k N M) q w
end
end L2
namespace HT
open PySem PyProof.Rows
def M7:AF->AF->Bool
 | [],[]=>false
 | [],_::_=>true
 | _::_,[]=>false
 | x::xs,y::ys=>if x=y then M7 xs ys else decide (x<y)
theorem S6 (x y:Int)(xs e:AF):M7 (x::xs) (y::e)=if x=y then M7 xs e else decide (x<y):=rfl
theorem aV6:M7 [] []=false:=rfl
theorem aU0 (y:Int)(e:AF):M7 [] (y::e)=true:=rfl
theorem aO7 (x:Int)(xs:AF):M7 (x::xs) []=false:=rfl
theorem cJ6 (A:Around)(s:Shared)(a:Int)(t:Tok)(c:Int)(u:Tok):∃e,SeqAt.EqAt A s (.int a t) (.int c u) e/\(e=true↔a=c):=
 ⟨(a==c),SeqAt.EqAt.int_int a t c u,by simp⟩
theorem cM9 (A:Around)(s:Shared)(a:Int)(t:Tok)(c:Int)(u:Tok)(prog:Program)(w:World)(E:Dz)(Q:Dz)(h:Q (.bool (decide (a<c))) s) :
  wpAny (model prog w) A (richCompare .Lt (.int a t) (.int c u)) Q E s:=
 (PyProof.Rows.lt_int h:wpAny (model prog w) A (compareOp .Lt (.int a t) (.int c u)) Q E s)
section
open PySem.SeqAt
open PySem.AutoSeq1 (wpAny_loadPart')
open PySem.MeetsSeq PySem.MeetsSeq2 PySem.MeetsSeq3
theorem aU6 (l b:Addr)(items z:AK)(n n2:Nat)(dd dd2:AL)(sl sl2:Array (Option Value))(P B:AF)(hi:IntsAre items.toList P)(hj:IntsAre z.toList B) :
  Meets (Builtin.«tuple.__lt__» ⟨[.ref l,.ref b],[]⟩)
   (λ_ R s=>s.heap.get? l=some {cls:=.type "tuple",dict:=dd,data:=.seq items n,slots:=sl}/\s.heap.get? b=some {cls:=.type "tuple",dict:=dd2,data:=.seq z n2,slots:=sl2} /\
    R (.ok (.ret (.bool (M7 P B)))) s):=
 .of_wp λU w A R s h=>by
  obtain⟨hp,g,d,tk,os⟩:=s;obtain⟨hl,hb,h⟩:=h;have f2:=AutoSeq1.sub_tuple_tuple;have z1:items.size=P.length:=by rw[<- hi.length];simp
  have z2:z.size=B.length:=by rw[<- hj.length];simp
  wp_walk using wpAny_loadPart' hl,wpAny_loadPart' hb,wpAny_forIn_list _ (λJ b s'=>b.1=none/\s'=⟨hp,g,d,tk,os⟩/\∃(vs ws:AH) (j k:AF),J=vs.zip ws /\
   IntsAre vs j/\IntsAre ws k/\j.length+z.size=k.length+items.size/\R (.ok (.ret (.bool (M7 j k)))) ⟨hp,g,d,tk,os⟩) _
  case turn=>
   rintro⟨y,x⟩ J b s' ⟨M,rfl,vs,ws,j,k,m,Q,p,r,Y⟩;cases Q with
   | nil=>rw[List.zip_nil_left]at m;cases m
   | cons a t D=>
    cases p with
    | nil=>rw[List.zip_nil_right]at m;cases m
    | cons c u F=>
     rw[Dt]at m
     injection m with hyx N
     injection hyx with hy hx
     subst hy hx;rw[S6]at Y;simp only[Ba]at r;obtain⟨e,he,X⟩:=cJ6 A.in1 ⟨hp,g,d,tk,os⟩ a t c u;refine Aa (he U w _ _ ?_);cases e with
     | true=>
      rw[Ac (X.mp rfl)]at Y
      wp_walk
      exact⟨rfl,rfl,_,_,_,_,N,D,F,by lia,Y⟩
     | false=>
      rw[Ab (λq=>absurd (X.mpr q) Ai)]at Y
      have hri:=cM9 A.in1 ⟨hp,g,d,tk,os⟩ a t c u U w
      wp_walk using hri
      exact⟨_,rfl,by simpa using Y⟩
  case fin=>
   rintro⟨b1,b2⟩ s' ⟨M,rfl,vs,ws,j,k,m,Q,p,r,Y⟩;simp only at M;subst M;have hv:M7 j k=decide (items.size<z.size):=by
    cases Q with
    | nil=>
     cases p with
     | nil=>
      simp only[List.length_nil]at r;rw[aV6];exact(Ao (by lia)).symm
     | cons c u hw=>
      simp only[List.length_nil,Ba]at r;rw[aU0];exact(Bu (by lia)).symm
    | cons a t hv=>
     cases p with
     | nil=>
      simp only[List.length_nil,Ba]at r;rw[aO7];exact(Ao (by lia)).symm
     | cons c u hw=>
      rw[Dt]at m;cases m
   rw[hv]at Y
   wp_walk
   exact⟨_,rfl,by simpa[Builtin.Tuple.tupleCompareSizes]using Y⟩
  case h=>
   exact⟨rfl,rfl,items.toList,z.toList,P,B,rfl,hi,hj,by lia,h⟩
end
section
variable {prog:Program}{w:World}{A:Around}{E:Dz}{s:Shared}
theorem bQ3 {l b:Addr}{items items2:AK}{ns ms:AF}{Q:Dz}(J:IsTup s.heap l items)(X:IsTup s.heap b items2)(hi:IntsAre items.toList ns)(U:IntsAre items2.toList ms)
  (M:A.units<cLine) (h:Q (.bool (M7 ns ms)) s):wpAny (model prog w) A (compareOp .Lt (.ref l) (.ref b)) Q E s:=by
 obtain⟨⟨m,Y,data,R⟩,ho,p,n,q⟩:=id J;obtain⟨⟨c,k,r,j⟩,z,e,N,y⟩:=id X;simp only at p q e y;subst p q e y;exact richCompare_meets_room (op:=.Lt) ⟨_,ho,rfl⟩ ⟨_,z,rfl⟩ PySem.F.slot_tuple_lt PySem.F.entry_tuple_lt (PySem.F.args_tuple_lt_2 _ _) (aU6 l b items items2 n N Y k R j ns ms hi U)
  ⟨ho,z,show Value.bool (M7 ns ms)≠Value.notImplemented/\Q (.bool (M7 ns ms)) s from⟨(λx=>nomatch x),h⟩⟩ M
theorem cT3 {t b:Addr}{vs ws:AH}{Q:Dz}(B:IsTup s.heap t vs.toArray)(D:IsTup s.heap b ws.toArray)(J:vs≠[])
  (h1:ws=[]->Q (.ref t) s) (R:ws≠[]->Q (.ref s.heap.objs.size) {s with heap:=s.heap.push {cls:=.type "tuple",data:=.seq (vs++ws).toArray}})
  (q:vs.length+ws.length<=sizeLine):wpAny (model prog w) A (binaryOp .Add (.ref t) (.ref b)) Q E s:=by
 obtain⟨⟨cls,Y,data,N⟩,ho,X,n,U⟩:=id B;obtain⟨⟨m,z,p,j⟩,y,r,M,k⟩:=id D;simp only at X U r k;subst X U r k;have e:vs.toArray++ws.toArray=(vs++ws).toArray:=by simp
 by_cases c:ws=[]
 .exact concat_meets ⟨_,ho,rfl⟩ ⟨_,y,rfl⟩ noFill_tuple_add seq_tuple_add PySem.F.slot_tuple_add PySem.F.entry_tuple_add (PySem.F.args_tuple_add_2 _ _)
   (tuple_addW1 t b vs.toArray ws.toArray n M Y z N j (by simpa using J) (by simp[c])) ⟨ho,y,h1 c⟩
 .refine concat_meets ⟨_,ho,rfl⟩ ⟨_,y,rfl⟩ noFill_tuple_add seq_tuple_add PySem.F.slot_tuple_add PySem.F.entry_tuple_add (PySem.F.args_tuple_add_2 _ _)
   (tuple_addW2 t b vs.toArray ws.toArray n M Y z N j (by simpa using J) (by simpa using c) (by rw[Ab2,Ab2];exact q)) ⟨ho,y,?_⟩
  rw[e];exact R c
def sIx (n d:Nat):Option Int->Nat
 | none=>d
 | some v=>if v<0 then(v+(n:Int)).toNat else min v.toNat n
theorem dJ6 (n d:Nat)(y:d<=n)(o:Option Int):sIx n d o<=n:=by
 cases o with
 | none=>exact y
 | some v=>
  show(if v<0 then(v+(n:Int)).toNat else min v.toNat n)<=n
  by_cases e:v<0
  .rw[Ac e];lia
  .rw[Ab e];exact Nat.min_le_right _ _
theorem bT8 (v:Int)(n d:Nat):(if v<0 then max (v+(n:Int)) 0 else min v (n:Int))=((sIx n d (some v):Nat):Int):=by
 show(if v<0 then max (v+(n:Int)) 0 else min v (n:Int))=(((if v<0 then(v+(n:Int)).toNat else min v.toNat n):Nat):Int)
 by_cases e:v<0
 .simp only[Ac e];lia
 .simp only[Ab e];lia
theorem bS0 (lo hi:Option Int)(n:Nat):Builtin.Slice.sliceAdjust lo hi 1 (n:Int)=(((sIx n 0 lo:Nat):Int),((sIx n n hi:Nat):Int)):=by
 have h1:¬((1:Int)<0):=by lia
 unfold Builtin.Slice.sliceAdjust;simp only[h1,if_false];refine Prod.ext ?_ ?_
 .cases lo with
  | none=>rfl
  | some v=>exact bT8 v n 0
 .cases hi with
  | none=>rfl
  | some v=>exact bT8 v n n
theorem bS7 (i j:Nat):Builtin.Slice.slicePlaces (i:Int) (j:Int) 1=j-i:=by
 unfold Builtin.Slice.slicePlaces;have h1:(1:Int)>0:=by lia
 simp only[h1,if_true,Int.ediv_one];split <;> lia
theorem aU1 {v:Value}{o:Option Int}{Q:Option Int->Shared->Prop}(p:IsPart v o)(h:Q o s):wpAny (model prog w) A (Builtin.Slice.slicePartIndex v) Q E s:=by
 cases p with
 | none=>exact slicePart_none h
 | int i t=>exact slicePart_int h
theorem Z8 {sl:Addr}{vl vu:Value}{lo hi:Option Int}{n:Nat}{Q:Int×Int×Nat->Shared->Prop}(r:s.heap.IsSliceOf sl vl vu .none)(pl:IsPart vl lo)(k:IsPart vu hi)
  (h:Q (((sIx n 0 lo:Nat):Int),1,sIx n n hi-sIx n 0 lo) s):wpAny (model prog w) A (Builtin.Slice.sliceApplied (.ref sl) (pure (n:Int))) Q E s:=by
 obtain⟨os,y,z,e⟩:=id r;unfold Builtin.Slice.sliceApplied Builtin.Slice.sliceFields;refine Aa (Aa (wpAny_field y e (x:=vl) rfl (Aa (wpAny_field y e (x:=vu) rfl (Aa (wpAny_field y e (x:=.none) rfl (Ae ?_)))))));refine Aa (slicePart_none ?_);show wpAny _ _ (if((1:Int)==0)=true then _ else _) _ _ s;rw[Ab (by decide)]
 refine Aa (aU1 pl (Aa (aU1 k (Aa (Ae ?_)))));show wpAny _ _ (match Builtin.Slice.sliceAdjust lo hi 1 (n:Int) with | (lo,hi)=>pure (lo,(1:Int),Builtin.Slice.slicePlaces lo hi 1)) _ _ s
 rw[bS0 lo hi n];show wpAny _ _ (pure (((sIx n 0 lo:Nat):Int),(1:Int),Builtin.Slice.slicePlaces ((sIx n 0 lo:Nat):Int) ((sIx n n hi:Nat):Int) 1)) _ _ s;rw[bS7];exact Ae h
theorem cD9 (xs:AK)(i k:Nat):((List.range k).filterMap λ(m:Nat)=>xs[((i:Int)+(m:Int)*1).toNat]?).toArray=((xs.toList.drop i).take k).toArray:=by
 have e:(λ(m:Nat)=>xs[((i:Int)+(m:Int)*1).toNat]?)=λm=>xs[i+m]? := by
  funext m
  have:((i:Int)+(m:Int)*1).toNat=i+m:=by lia
  rw[this]
 rw[e]
 have:=pick_run xs i k
 rw[Aw]at this;have y:((λx=>xs[x]?) ∘ λx=>i+x)=λm=>xs[i+m]? := rfl
 rw[y]at this;rw[this]
theorem aG3 {t sl:Addr}{items:AK}{vl vu:Value}{lo hi:Option Int}{Q:Dz}(y:IsTup s.heap t items)(c:s.heap.IsSliceOf sl vl vu .none)(pl:IsPart vl lo)(U:IsPart vu hi)
  (X:¬(sIx items.size 0 lo=0/\sIx items.size items.size hi=items.size))
  (h:Q (.ref s.heap.objs.size) {s with heap:=s.heap.push {cls:=.type "tuple",data:=.seq ((items.toList.drop (sIx items.size 0 lo)).take (sIx items.size items.size hi-sIx items.size 0 lo)).toArray}})
  (Y:items.size<=sizeLine):wpAny (model prog w) A (getItem (.ref t) (.ref sl)) Q E s:=by
 have e:sizeOk (.seq ((items.toList.drop (sIx items.size 0 lo)).take (sIx items.size items.size hi-sIx items.size 0 lo)).toArray):=by
  show((items.toList.drop (sIx items.size 0 lo)).take (sIx items.size items.size hi-sIx items.size 0 lo)).toArray.size<=sizeLine
  rw[Ab2,Ad1,Bk,Bl]
  lia
 have J:sIx items.size items.size hi<=items.size:=dJ6 _ _ (Aa7 _) hi
 obtain⟨os,j,r,p⟩:=id c;have z:s.TypeIs (.ref sl) "slice" := ⟨os,j,r⟩;unfold getItem
 try with_reducible refine Bz ?_
 first | refine Aa (Ae ?_) | skip
 refine Aa (wpAny_sequenceKey y.typeIs (by decide) ?_)
 refine Aa (Dl (name:=Str.ofString "__getitem__") y.typeIs Bf
  (Cq Bf y.typeIs entry_tuple_getitem ?_ (args_tuple_getitem _ _)))
 show wpAny _ _ (Builtin.Tuple.tupleItemsOf (.ref t) >>= _) _ _ s
 refine Aa (tupleItemsOf_ y ?_);refine Aa (wpAny_typeOf z ?_);rw[Ac (by decide)]
 refine Aa (Z8 c pl U ?_);have k:¬((((sIx items.size 0 lo:Nat):Int)==0&&(1:Int)==1&&(sIx items.size items.size hi-sIx items.size 0 lo)==items.size)=true):=by
  intro q;rw[Aj,Aj]at q;have M:((sIx items.size 0 lo:Nat):Int)=0:=eq_of_beq q.1.1;have N:sIx items.size items.size hi-sIx items.size 0 lo=items.size:=eq_of_beq q.2;exact X ⟨by lia,by lia⟩
 show wpAny _ _ (if(((sIx items.size 0 lo:Nat):Int)==0&&(1:Int)==1&&(sIx items.size items.size hi-sIx items.size 0 lo)==items.size)=true then _ else _) _ _ s
 rw[Ab k,cD9];first
  | exact Aa (m:=Builtin.Tuple.tupleExact _) (Co (Ae ⟨_,rfl,Ae h⟩) e)
  | exact Aa (m:=Builtin.Tuple.tupleExact _) (Co (Aa (Ae (Ae ⟨_,rfl,Ae h⟩))) e)
  | exact Aa (Aa (m:=Builtin.Tuple.tupleExact _) (Co (Ae (Ae ⟨_,rfl,Ae h⟩)) e))
  | exact Aa (Aa (m:=Builtin.Tuple.tupleExact _) (Co (Ae ⟨_,rfl,Ae h⟩) e))
end
end HT
namespace L2
open PySem PySem.Spec PyProof.Rows
abbrev TO:=St->Hp->(Option Int->Hp->Prop)->Prop
structure PO (X:Cx)(e:Option Expr)(t:TO):Prop where
 mk ::
 run :
  ∀(aA:Eb) (s:Shared) (σ:St) (H:Hp) (Q:Option Int->Hp->Prop),Inv X aA σ H s->t σ H Q ->
   wpAny (model X.prog X.w) X.A (evalPart e X.env) (λu s'=>∃o H',Inv X aA σ H' s'/\IsPart u o/\Q o H') X.xe s
instance {X:Cx} {e:Option Expr} {t:TO}:CoeFun (PO X e t) λ_=>
 (∀(aA:Eb) (s:Shared) (σ:St) (H:Hp) (Q:Option Int->Hp->Prop),Inv X aA σ H s->t σ H Q ->
  wpAny (model X.prog X.w) X.A (evalPart e X.env) (λu s'=>∃o H',Inv X aA σ H' s'/\IsPart u o/\Q o H') X.xe s):=⟨PO.run⟩
def bY4:TO:=λ_ H Q=>Q none H
def cZ4 (t:TE):TO:=λσ H Q=>t σ H λx H1=>∃i,x=.int i/\Q (some i) H1
section
variable {X:Cx}{e:Expr}{te:TE}{lo hi:Option Expr}{tl th:TO}{pos p2:Pos}
theorem aA9:PO X none bY4:=by
 refine⟨?_⟩;intro y s σ H Q I h;rw[evalPart_none];exact Ae ⟨none,H,I,.none,h⟩
theorem T6 (h:PE X e te):PO X (some e) (cZ4 te):=by
 refine⟨?_⟩;intro w s σ H Q I z;rw[evalPart_some];refine thn (h w s σ H _ I z) λu j ⟨x,H1,y,k,r⟩=>?_
 obtain⟨i,rfl,q⟩:=r;obtain⟨t,rfl⟩:=k;exact⟨some i,H1,y,.int i t,q⟩
def SlR (X:Cx)(r:V->Option Int->Option Int->Hp->VK->Prop):Prop:=
 ∀(aA:Eb) (s:Shared) (σ:St) (H:Hp) (x:V) (v vl vu:Value) (lo hi:Option Int) (sl:Addr) (Q:VK),Inv X aA σ H s->RelV x v->s.heap.IsSliceOf sl vl vu .none->IsPart vl lo->IsPart vu hi->r x lo hi H Q ->
  ∃T id,typeLookup (.type T) "__getitem__" = pure (some (.builtin id))/\s.TypeIs v T/\wpAny (model X.prog X.w) X.A (getItem v (.ref sl)) (EP X aA σ Q) X.xe s
def tSl (r:V->Option Int->Option Int->Hp->VK->Prop)(te:TE)(tl th:TO):TE:=λσ H Q=>te σ H λx H1=>tl σ H1 λl H2=>th σ H2 λu H3=>r x l u H3 Q
theorem T9 {r:V->Option Int->Option Int->Hp->VK->Prop}(F:SlR X r)(N:PE X e te)(D:PO X lo tl)(P:PO X hi th):PE X (.Subscript e (.Slice lo hi none p2) pos) (tSl r te tl th):=by
 refine⟨?_⟩;intro z s σ H Q I h;refine Subscript_ (thn (N z s σ H _ I h) λv s1 ⟨x,H1,m,r1,q1⟩=>?_)
 refine wpAny_Slice (thn (D z s1 σ H1 _ m q1) λk s2 ⟨l,p,Y,pl,q2⟩=>thn (P z s2 σ p _ Y q2) λj y ⟨u,c,U,pu,q3⟩=>?_)
 rw[evalPart_none];refine Ae ?_;have J:Inv X z σ c {y with heap:=y.heap.push {cls:=.type "slice",data:=.fields #[k,j,.none]}}:=U.kept (t':=y.toks) λb ob q=>Aa6 _ q
 obtain⟨T,id,M,B,R⟩:=F z {y with heap:=y.heap.push {cls:=.type "slice",data:=.fields #[k,j,.none]}} σ c x v k j l u y.heap.objs.size Q J r1 (Heap.IsSliceOf.new ..) pl pu q3
 show wpAny (model X.prog X.w) X.A (subscriptTail e (.Slice lo hi none p2) v (.ref y.heap.objs.size)) (EP X z σ Q) X.xe {y with heap:=y.heap.push {cls:=.type "slice",data:=.fields #[k,j,.none]}}
 exact tail_any (ops:=[.ref y.heap.objs.size,v]) B M R (by with_unfolding_all rfl)
def aZ6 (xs:List V)(lo hi:Option Int):List V:=(xs.drop (HT.sIx xs.length 0 lo)).take (HT.sIx xs.length xs.length hi-HT.sIx xs.length 0 lo)
theorem aL9 (xs:List V)(lo hi:Option Int):(aZ6 xs lo hi).length<=xs.length:=by
 unfold aZ6;rw[Ad1,Bk]
 lia
def dS9 (K:Frag):V->Option Int->Option Int->Hp->VK->Prop:=λx lo hi H Q=>∃a xs,x=.ref a/\SqT K H a xs /\
 ¬(HT.sIx xs.length 0 lo=0/\HT.sIx xs.length xs.length hi=xs.length)/\∀p,H p=none->Q (.ref p) (upd H p (.tup (aZ6 xs lo hi)))
theorem dJ1:SlR X (dS9 X.K):=by
 intro Y s σ H x v M N lo hi J Q I m k pl p h;obtain⟨a,xs,rfl,c,j,q⟩:=h;cases m;obtain⟨its,r,w,z⟩:=I.tuple c;have y:its.toArray.size=xs.length:=by rw[Ab2];exact r.length.symm
 refine⟨"tuple",_,Bf.lookup,w.typeIs,?_⟩;refine HT.aG3 w k pl p (by rw[y];exact j) ?_ (by rw[y];exact z)
 rw[y];refine⟨.ref s.heap.objs.size,_,I.laid (t':=s.toks) (o:=.tup (aZ6 xs lo hi)) (λb U q=>Aa6 _ q) (Aa7 _) ?_,rfl,q _ (I.hok.fresh (Aa7 _))⟩
 exact⟨An (aL9 xs lo hi) z,_,(r.drop (HT.sIx xs.length 0 lo)).take (HT.sIx xs.length xs.length hi-HT.sIx xs.length 0 lo),Tup0.nw _ _ _⟩
def bY2 (K:Frag):R2:=λx y H Q=>∃a b xs ys,x=.ref a/\y=.ref b/\SqT K H a xs/\SqT K H b ys/\xs≠[]/\xs.length+ys.length<=sizeLine /\
 (ys=[]->Q (.ref a) H)/\(ys≠[]->∀p,H p=none->Q (.ref p) (upd H p (.tup (xs++ys))))
theorem Vals.nil_iff {xs:List V}{us:AH}(r:Vals xs us):us=[]↔xs=[]:=by
 cases r with
 | nil=>simp
 | cons _ _=>simp
theorem cR4:OpR X (binaryOp .Add) (bY2 X.K):=by
 intro F s σ H x y v u Q I N R h;obtain⟨a,b,xs,D,rfl,rfl,p,m,Y,j,J,M⟩:=h;cases N;cases R;obtain⟨its,k,U,_⟩:=I.tuple p;obtain⟨c,r,p2,_⟩:=I.tuple m;refine HT.cT3 U p2 (λz=>Y (k.nil_iff.mp z)) (λz=>⟨.ref a,H,I,rfl,J (r.nil_iff.mp z)⟩) (λz=>?_) (by rw[<- k.length,<- r.length];exact j)
 refine⟨.ref s.heap.objs.size,_,I.laid (t':=s.toks) (o:=.tup (xs++D)) (λb B q=>Aa6 _ q) (Aa7 _) ?_,rfl,M (λw=>z (r.nil_iff.mpr w)) _ (I.hok.fresh (Aa7 _))⟩
 exact⟨by rw[Ab7];exact j,_,k.append r,Tup0.nw _ _ _⟩
end
def ixN (n:Nat)(i:Int):Option Nat:=if 0<=i then(if i<n then some i.toNat else none) else if -(n:Int)<=i then some (i+n).toNat else none
def atI {α:Type}(xs:List α)(i:Int):Option α:=(ixN xs.length i).bind λj=>xs[j]?
theorem bB0 {n:Nat}{i:Int}{j:Nat}(h:ixN n i=some j):seqIndex? i n=some j/\j<n /\ -(n:Int)<=i/\i<n:=by
 unfold ixN at h;by_cases y:0<=i
 .rw[Ac y]at h;by_cases h1:i<n
  .rw[Ac h1]at h;have e:i.toNat=j:=Ab4 h;exact⟨by rw[seqIndex_of y h1,e],by lia,by lia,h1⟩
  .rw[Ab h1]at h;cases h
 .rw[Ab y]at h;by_cases h1 : -(n:Int)<=i
  .rw[Ac h1]at h;have e:(i+n).toNat=j:=Ab4 h;exact⟨by rw[seqIndex_neg (by lia) h1,e],by lia,h1,by lia⟩
  .rw[Ab h1]at h;cases h
theorem bF4 {α:Type}{xs:List α}{i:Int}{v:α}(h:atI xs i=some v):∃j,seqIndex? i xs.length=some j/\xs[j]? = some v/\j<xs.length /\ -(xs.length:Int)<=i/\i<xs.length:=by
 unfold atI at h;cases e:ixN xs.length i with
 | none=>rw[e]at h;cases h
 | some j=>
  rw[e]at h;obtain⟨h1,y,w,z⟩:=bB0 e;exact⟨j,h1,h,y,w,z⟩
def cY1 (b:Expr):Prop:=∀o i,subscripted b false o i=operate [o,i] (getItem o i)
def IxR (X:Cx)(r:R2):Prop:=
 ∀(value slice:Expr) (aA:Eb) (s:Shared) (σ:St) (H:Hp) (x y:V) (v u:Value) (Q:VK),Inv X aA σ H s->RelV x v->RelV y u->r x y H Q ->
  subscripted slice false v u=operate [v,u] (getItem v u)->wpAny (model X.prog X.w) X.A (subscriptTail value slice v u) (EP X aA σ Q) X.xe s
def MtR (X:Cx)(id:String)(r:V->List V->Hp->VK->Prop):Prop:=
 ∀(aA:Eb) (s:Shared) (σ:St) (H:Hp) (x:V) (xs:List V) (v:Value) (us:AH) (Q:VK),Inv X aA σ H s->RelV x v->Vals xs us->r x xs H Q ->
  wpAny (model X.prog X.w) X.A (call (.builtin id) (v::us)) (EP X aA σ Q) X.xe s
section
variable {X:Cx}{a b:Expr}{ta tb:TE}{pos:Pos}
theorem IxR.or {r r':R2}(h:IxR X r)(h':IxR X r'):IxR X (λx y H Q=>r x y H Q\/r' x y H Q):=by
 intro w e z s σ H x y v u Q I j c q k;rcases q with q | q
 .exact h w e z s σ H x y v u Q I j c q k
 .exact h' w e z s σ H x y v u Q I j c q k
theorem B9 {r:R2}(c:IxR X r)(k:PE X a ta)(j:PE X b tb)(p:cY1 b):PE X (.Subscript a b pos) (tOp r ta tb):=by
 refine⟨?_⟩;intro z s σ H Q I h;exact Subscript_ (dI9 k j I h λv u U x y e w m Y q=>c a b z U σ e x y v u Q w m Y q (p _ _))
def dS2 (K:Frag):R2:=λx y H Q=>∃p xs i v,x=.ref p/\y=.int i/\SqL K H p xs/\atI xs i=some v/\Q v H
def dQ6 (K:Frag):R2:=λx y H Q=>∃p xs i v,x=.ref p/\y=.int i/\SqT K H p xs/\atI xs i=some v/\Q v H
def dL8:R2:=λx y H Q=>∃z i c,x=.str z/\y=.int i/\z.length<=sizeLine/\atI z.cps.toList i=some c/\Q (.str ⟨#[c]⟩) H
theorem ix_list:IxR X (dS2 X.K):=by
 intro Y m U s σ H x y v u Q I rx ry h N;obtain⟨p,xs,i,z,rfl,rfl,hq,B,q⟩:=h;cases rx;obtain⟨t,rfl⟩:=ry;obtain⟨its,r,pl,hz⟩:=I.list hq;obtain⟨j,h1,R,h3,D,F⟩:=bF4 B;obtain⟨w,J,c⟩:=r.get R;have P:=r.length;have hn:=aK4;have e:EP X U σ Q w s:=⟨z,H,I,c,q⟩;by_cases M:0<=i
 .have k:i.toNat=j:=by
   rw[seqIndex_of M F]at h1;exact Ab4 h1
  exact item_listR pl.isList M (by lia) (by rw[k];simpa using J) e N
 .have k:(i+(its.toArray.size:Int)).toNat=j:=by
   rw[seqIndex_neg (by lia) D]at h1
   rw[Ab2,<- P];exact Ab4 h1
  exact subscriptTail_builtinR (x:=w) pl.isList.typeIs slot_list_getitem.lookup
   (wpAny_getItem_list_neg (Q:=λr s'=>r=w/\EP X U σ Q r s') pl.isList (by lia) (by rw[Ab2] <;> lia) (by lia) (by rw[k];simpa using J) ⟨rfl,e⟩) N
theorem ix_tup:IxR X (dQ6 X.K):=by
 intro m c Y s σ H x y v u Q I F B h D;obtain⟨p,xs,i,z,rfl,rfl,R,M,q⟩:=h;cases F;obtain⟨t,rfl⟩:=B;obtain⟨its,r,pl,hz⟩:=I.tuple R;obtain⟨j,h1,J,h3,h4,h5⟩:=bF4 M;obtain⟨w,U,k⟩:=r.get J;have N:=r.length;have hn:=aK4;have e:EP X Y σ Q w s:=⟨z,H,I,k,q⟩;exact subscriptTail_builtinR (x:=w) pl.typeIs slot_tuple_getitem.lookup
  (getItem_tuple (j:=j) (Q:=λr P=>r=w/\EP X Y σ Q r P) pl (by lia) (by lia) (by rw[Ab2,<- N];exact h1) (by simpa using U) ⟨rfl,e⟩) D
theorem dG4:IxR X dL8:=by
 intro w e D s σ H x y v u Q I N R h M;obtain⟨z,i,c,rfl,rfl,P,U,q⟩:=h;obtain⟨t,rfl⟩:=N;obtain⟨t',rfl⟩:=R;obtain⟨j,h1,p,F,m,Y⟩:=bF4 U;have J:z.cps.toList.length=z.length:=by simp[Str.length]
 rw[J]at h1 m Y;have B:=aK4;exact tail_any (typeIs_str s z t) slot_str_getitem.lookup (getItem_str (c:=c) (by
  have r:decide (i < -(2^63:Int))=false:=Ao (by lia)
  have k:decide (i≥2^63)=false:=Ao (by lia)
  rw[r,k,Bool.or_false]) (by rw[h1];simpa using p) ⟨.str ⟨#[c]⟩,H,I.tok _,⟨_,rfl⟩,q⟩) M
def rIx (K:Frag):R2:=λx y H Q=>dS2 K x y H Q\/dQ6 K x y H Q\/dL8 x y H Q
theorem C4:IxR X (rIx X.K):=ix_list.or (ix_tup.or dG4)
theorem bN6 (its:AH)(n j:Nat)(u:Value):Obj.mapSeq (·.setIfInBounds j u) {cls:=.type "list",data:=.seq its.toArray n}={cls:=.type "list",data:=.seq (its.set j u).toArray n}:=by
 simp[Obj.mapSeq]
theorem Inv.lst {aA:Eb}{σ:St}{H:Hp}{s:Shared}{p:Addr}{xs:List V}(I:Inv X aA σ H s)(h:H p=some (.lst xs)) :
  ∃(its:AH) (n:Nat),Vals xs its/\s.heap.get? p=some {cls:=.type "list",data:=.seq its.toArray n}/\xs.length<=sizeLine:=by
 obtain⟨z,its,n,r,e⟩:=I.hok p _ h;exact⟨its,n,r,e,z⟩
theorem Inv.lstUpd {aA:Eb}{σ:St}{H:Hp}{s:Shared}{p:Addr}{xs ys:List V}{its its':AH}{n n':Nat}{f:Obj->Obj}(I:Inv X aA σ H s)(h:H p=some (.lst xs))
  (ho:s.heap.get? p=some {cls:=.type "list",data:=.seq its.toArray n}) (y:f {cls:=.type "list",data:=.seq its.toArray n}={cls:=.type "list",data:=.seq its'.toArray n'}) (r:Vals ys its') (z:ys.length<=sizeLine) (t:Nat) :
  Inv X aA σ (upd H p (.lst ys)) {s with heap:=s.heap.update p f,toks:=t}:=by
 have e:(s.heap.update p f).get? p=some {cls:=.type "list",data:=.seq its'.toArray n'}:=by
  rw[Dn f ho (by rw[y] <;> rfl),y]
 refine I.write (x:=p) (e:=p) (by rw[h];trivial) (.inl rfl) (λb u w q=>(Cz _ _ (Ne.symm w)).trans q) ⟨_,e⟩ ?_
 exact⟨z,its',n',r,e⟩
def cQ7:V->V->V->Hp->(Hp->Prop)->Prop:=λo i v H Q=>∃p xs k j,o=.ref p/\i=.int k/\H p=some (.lst xs)/\ixN xs.length k=some j/\Q (upd H p (.lst (xs.set j v)))
theorem aO9:dR3 X cQ7:=by
 intro Y s σ H o i v P B u Q I N M R h;obtain⟨p,xs,k,j,rfl,rfl,hp,U,q⟩:=h;cases N;obtain⟨t,rfl⟩:=M;obtain⟨its,n,r,ho,J⟩:=I.lst hp;obtain⟨h1,D,c,m⟩:=bB0 U;have y:=r.length;have F:=aK4;have w:Inv X Y σ (upd H p (.lst (xs.set j v))) {s with heap:=s.heap.update p (Obj.mapSeq (·.setIfInBounds j u))}:=
  I.lstUpd hp ho (bN6 its n j u) (r.set R j) (by rw[Dh];exact J) s.toks
 by_cases z:0<=k
 .have e:k.toNat=j:=by
   rw[seqIndex_of z m]at h1;exact Ab4 h1
  exact PySem.W.ki_setAt ho z (by lia) (by rw[Ab2,<- y];exact m) (by rw[e];exact⟨_,w,q⟩)
 .have e:(k+(its.toArray.size:Int)).toNat=j:=by
   rw[seqIndex_neg (by lia) c]at h1
   rw[Ab2,<- y];exact Ab4 h1
  exact PySem.W.ki_setBack ho (by lia) (by rw[Ab2,<- y];exact c) (by lia) (by rw[e];exact⟨_,w,q⟩)
theorem bE0 (lo hi:Option Int)(n:Nat):(sliceBounds lo hi none n).1=((HT.sIx n 0 lo:Nat):Int)/\(sliceBounds lo hi none n).2.1=((HT.sIx n n hi:Nat):Int)/\(sliceBounds lo hi none n).2.2=1:=by
 refine⟨?_,?_,rfl⟩
 .cases lo with
  | none=>simp[sliceBounds,HT.sIx]
  | some i=>
   simp only[sliceBounds,HT.sIx,Option.getD_none,show(1:Int)>0 by decide,if_true]
   by_cases h:i<0
   .simp only[h,if_true] <;> lia
   .simp only[h,if_false] <;> lia
 .cases hi with
  | none=>simp[sliceBounds,HT.sIx]
  | some i=>
   simp only[sliceBounds,HT.sIx,Option.getD_none,show(1:Int)>0 by decide,if_true]
   by_cases h:i<0
   .simp only[h,if_true] <;> lia
   .simp only[h,if_false] <;> lia
theorem aU3 (its:AH)(lo hi:Option Int):slicePick its.toArray lo hi none=((its.drop (HT.sIx its.length 0 lo)).take (HT.sIx its.length its.length hi-HT.sIx its.length 0 lo)).toArray:=by
 obtain⟨h1,e,y⟩:=bE0 lo hi its.toArray.size;unfold slicePick;rw[h1,e,y];simp only[sliceRange_one,pick_run,Ab2] <;> rfl
def dD4 (K:Frag):V->Option Int->Option Int->Hp->VK->Prop:=λx lo hi H Q=>∃a xs,x=.ref a/\SqL K H a xs/\∀p,H p=none->Q (.ref p) (upd H p (.lst (aZ6 xs lo hi)))
theorem bB5:SlR X (dD4 X.K):=by
 intro p s σ H x v U J lo hi Y Q I c w pl j h;obtain⟨a,xs,rfl,z,q⟩:=h;cases c;obtain⟨its,r,y,k⟩:=I.list z;have e:=r.length;refine⟨"list",_,slot_list_getitem.lookup,y.isList.typeIs,?_⟩;refine wpAny_getItem_list_slice y.isList w pl j .none (by simp) ?_ (by rw[Ab2] <;> lia)
 rw[aU3,<- e];refine⟨.ref s.heap.objs.size,_,I.laid (t':=s.toks) (o:=.lst (aZ6 xs lo hi)) (λb m q=>Aa6 _ q) (Aa7 _) ?_,rfl,q _ (I.hok.fresh (Aa7 _))⟩
 exact⟨An (aL9 xs lo hi) k,_,0,(r.drop (HT.sIx xs.length 0 lo)).take (HT.sIx xs.length xs.length hi-HT.sIx xs.length 0 lo),Ac3 _ rfl⟩
theorem K8:U3 X (.builtin "len") (λxs H Q=>∃p ys,xs=[.ref p]/\(SqL X.K H p ys\/SqT X.K H p ys)/\Q (.int ys.length) H):=by
 intro k s σ H xs c Q I r h;obtain⟨p,ys,rfl,hq,q⟩:=h;obtain⟨u,rfl,z⟩:=v5 r;cases z;have j:=aK4;rcases hq with hq | hq
 .obtain⟨its,y,pl,w⟩:=I.list hq;have e:=y.length;exact Calls.call_len_list pl.isList (by simp only[Ab2] <;> lia) ⟨.int ys.length,H,I.tok _,⟨s.toks+1,by rw[Ab2,e]⟩,q⟩
 .obtain⟨its,y,pl,w⟩:=I.tuple hq;have e:=y.length;exact len_tuple pl (by simp only[Ab2] <;> lia) ⟨.int ys.length,H,I.tok _,⟨s.toks+1,by rw[Ab2,e]⟩,q⟩
theorem P1:U3 X (.type "tuple") (λxs H Q=>∃p ys,xs=[.ref p]/\((SqL X.K H p ys/\∀l,H l=none->Q (.ref l) (upd H l (.tup ys)))\/(SqT X.K H p ys/\Q (.ref p) H))):=by
 intro c s σ H xs N Q I r h;obtain⟨p,ys,rfl,h⟩:=h;obtain⟨u,rfl,M⟩:=v5 r;cases M;rcases h with⟨z,q⟩ | ⟨z,q⟩
 .obtain⟨its,k,pl,Y⟩:=I.list z;have m:=k.length;refine call_tuple_list pl.isList (λy J=>?_) (by simp only[Ab2] <;> lia)
  have j:Inv X c σ H {s with heap:=y}:=I.kept (t':=s.toks) J
  have U:Inv X c σ (upd H y.objs.size (.tup ys)) {s with heap:=y.push {cls:=.type "tuple",data:=.seq its.toArray}}:=
   j.laid (t':=s.toks) (λb o e=>Aa6 _ e) (Aa7 _) (show ObjOk X.prog X.w _ _ _ (.tup ys) from⟨Y,its,k,Tup0.nw _ _ _⟩)
  exact⟨.ref y.objs.size,_,U,rfl,q _ (j.hok.fresh (Aa7 _))⟩
 .obtain⟨its,k,pl,Y⟩:=I.tuple z;exact call_tuple_same pl ⟨.ref p,H,I,rfl,q⟩
def tyV (K:Frag)(T:String)(x:V)(H:Hp):Prop:=match x with
 | .str _=>T = "str"
 | .int _=>T = "int"
 | .ref p=>(T = "list" /\ ∃xs,SqL K H p xs)\/(T = "tuple" /\ ∃xs,SqT K H p xs) \/
   (T = "dict" /\ ((∃kvs,H p=some (.dK kvs))\/∃kvs,H p=some (.dT kvs)))\/(T = "set" /\ ∃S n,H p=some (.set S n))
 | _=>False
theorem cP7 {aA:Eb}{σ:St}{H:Hp}{s:Shared}{T:String}{x:V}{v:Value}(I:Inv X aA σ H s)(r:RelV x v)(ty:tyV X.K T x H) :
  s.TypeIs v T/\∀a,v=.ref a->∃ob,s.heap.get? a=some ob/\ob.dict=none:=by
 cases x with
 | str z=>
  obtain⟨t,rfl⟩:=r;cases (show T = "str" from ty)
  exact⟨typeIs_str s z t,λ_ e=>nomatch e⟩
 | int i=>
  obtain⟨t,rfl⟩:=r;cases (show T = "int" from ty)
  exact⟨typeIs_int s i t,λ_ e=>nomatch e⟩
 | ref p=>
  cases r
  rcases ty with⟨rfl,xs,j⟩ | ⟨rfl,xs,j⟩ | ⟨rfl,w⟩ | ⟨rfl,S,n,w⟩
  .obtain⟨its,_,pl,_⟩:=I.list j;refine⟨pl.isList.typeIs,λa e=>?_⟩
   cases e
   obtain⟨o,n,e,c,Y,_⟩:=pl;exact⟨o,e,Y⟩
  .obtain⟨its,_,U,_⟩:=I.tuple0 j;obtain⟨o,h1,q,_,m⟩:=U;refine⟨⟨o,h1,q⟩,λa e=>?_⟩
   cases e
   exact⟨o,h1,m⟩
  .have z:∃o,s.heap.get? p=some o/\o.ExactDict:=by
    rcases w with⟨kvs,w⟩ | ⟨kvs,w⟩
    .obtain⟨_,_,_,_,o,_,_,e,y,_⟩:=I.hok p _ w;exact⟨o,e,y⟩
    .obtain⟨_,_,_,_,o,_,_,e,y,_⟩:=I.hok p _ w;exact⟨o,e,y⟩
   obtain⟨o,e,y⟩:=z;refine⟨⟨o,e,y.1⟩,λa k=>?_⟩
   cases k
   exact⟨o,e,y.2.1⟩
  .obtain⟨o,_,_,_,e,y,_⟩:=I.hok p _ w;refine⟨⟨o,e,y.1⟩,λa k=>?_⟩
   cases k
   exact⟨o,e,y.2.1⟩
 | _=>exact False.elim ty
def dF7 (K:Frag)(T:String)(r:V->List V->Hp->VK->Prop)(to:TE):TE:=λσ H Q=>to σ H λx H1=>tyV K T x H1/\r x [] H1 Q
def tBM (K:Frag)(T:String)(r:V->List V->Hp->VK->Prop)(to:TE)(t:TA):TE:=λσ H Q=>to σ H λx H1=>tyV K T x H1/\t σ H1 λxs H2=>r x xs H2 Q
variable {o e:Expr}{es:AN}{to:TE}{t:TA}{name:Str}{apos cpos:Pos}{T id:String}{r:V->List V->Hp->VK->Prop}
theorem bB9 (pa:PlainAttrs T)(slot:Slot T name id)(z:typeOf (.builtin id)=pure (.type "method_descriptor"))(q:MtR X id r)(ho:PE X o to)
  (y:attributeBase o name X.env (eval o X.env)=eval o X.env:=by rfl) (w:(apos.endLine==cpos.line)=true:=by rfl):PE X (.Call (.Attribute o name apos) [] [] cpos) (dF7 X.K T r to):=by
 refine⟨?_⟩;intro j s σ H Q I h;refine wpAny_Call_method0_late y w (thn (ho j s σ H _ I h) λv Y ⟨x,H1,k,c,ty,m⟩=>?_)
 obtain⟨h1,p⟩:=cP7 k c ty;exact⟨T,id,pa,slot,z,h1,p,Calls.callWith_builtin rfl (PySem.evalArgs_none (q j Y σ H1 x [] v [] Q k c .nil m))⟩
theorem L8 (pa:PlainAttrs T)(slot:Slot T name id)(c:typeOf (.builtin id)=pure (.type "method_descriptor"))(N:MtR X id r)(ho:PE X o to)(M:PA X (e::es) t)
  (w:attributeBase o name X.env (eval o X.env)=eval o X.env:=by rfl)
  (k:((backTo cpos (starEach (e::es) X.env)).all (λx => !x.1)&&(backToKw cpos (keywordEach [] X.env)).all (λx=>x.1.isSome)
   && decide ((e::es).length+([]:List Keyword).length+(if([]:List Keyword).isEmpty then 0 else 1)<30))=true:=by rfl)
  (z:(apos.endLine==cpos.line)=true:=by rfl) (R:starEach (e::es) X.env=(false,eval e X.env)::starEach es X.env:=by rfl) (y:(backTo cpos (starEach es X.env)).any (·.1)=false:=by rfl) :
  PE X (.Call (.Attribute o name apos) (e::es) [] cpos) (tBM X.K T r to t):=by
 refine⟨?_⟩;intro j s σ H Q I h;refine wpAny_Call_method_late w k z rfl (thn (ho j s σ H _ I h) λv P ⟨x,H1,p,m,ty,D⟩=>?_)
 obtain⟨h1,J⟩:=cP7 p m ty;refine⟨T,id,pa,slot,c,h1,J,?_⟩;have q:=M cpos j P σ H1 _ p D;rw[R]at q ⊢;refine Calls.callWith_builtin (by show(false||(backTo cpos (starEach es X.env)).any (·.1))=false;rw[y] <;> rfl) (Calls.evalArgs_plain ?_)
 exact thn q λus s2 ⟨vs,Y,U,B,F⟩=>N j s2 σ Y x vs v us Q U m B F
end
def MtM (X:Cx)(id:String)(r:V->List V->Hp->VK->Prop):Prop:=
 ∀(aA:Eb) (s:Shared) (σ:St) (H:Hp) (x:V) (xs:List V) (v:Value) (us:AH) (Q:VK),Inv X aA σ H s->RelV x v->Vals xs us->r x xs H Q ->
  wpAny (model X.prog X.w) X.A (call (.builtin id) (v::us)) (EP X aA σ Q) X.xe s
theorem Vals.one:∀{x:V} {us:AH},Vals [x] us->∃u,us=[u]/\RelV x u
 | _,_,.cons r .nil=>⟨_,rfl,r⟩
theorem Vals.zero:∀{us:AH},Vals [] us->us=[]
 | _,.nil=>rfl
theorem Vals.dropLast {xs:List V}{us:AH}(h:Vals xs us):Vals xs.dropLast us.dropLast:=by
 induction h with
 | nil=>exact .nil
 | cons r t e=>
  cases t with
  | nil=>exact .nil
  | cons q y=>exact .cons r e
theorem Vals.eraseIdx:∀{xs:List V} {us:AH} (i:Nat),Vals xs us->Vals (xs.eraseIdx i) (us.eraseIdx i)
 | _,_,_,.nil=>.nil
 | _,_,0,.cons _ t=>t
 | _,_,i+1,.cons r t=>.cons r (Vals.eraseIdx i t)
theorem Vals.rep {xs:List V}{us:AH}(h:Vals xs us):∀k:Nat,Vals (List.replicate k xs).flatten (List.replicate k us).flatten
 | 0=>.nil
 | k+1=>by
  rw[Bg,Bg,Bs,Bs];exact Vals.append h (Vals.rep h k)
theorem bR6 {α:Type}(l:List α):l.eraseIdx (l.length-1)=l.dropLast:=by
 induction l with
 | nil=>rfl
 | cons a r y=>
  cases r with
  | nil=>rfl
  | cons b r=>
   have e:(a::b::r).length-1=((b::r).length-1)+1:=by
    have h1:(a::b::r).length=r.length+2:=rfl
    have w:(b::r).length=r.length+1:=rfl
    lia
   rw[e,List.eraseIdx_cons_succ,y]
   all_goals rfl
theorem aX9 {α:Type}:∀(l:List α) (i:Nat),(l.eraseIdx i).length<=l.length
 | [],_=>Aa7 _
 | _::_,0=>Nat.le_succ _
 | _::r,i+1=>Nat.succ_le_succ (aX9 r i)
theorem aZ0 (its:AH):∀(k:Nat) (acc:AH),
  List.foldl (λx1 x2=>x1++x2) acc.toArray (List.replicate k its.toArray)=(acc++(List.replicate k its).flatten).toArray
 | 0,acc=>by simp
 | k+1,acc=>by
  have e:acc.toArray++its.toArray=(acc++its).toArray:=by simp
  have y:(acc++its)++(List.replicate k its).flatten=acc++(List.replicate (k+1) its).flatten:=by
   rw[Bg,Bs,Ad7]
  rw[<- y,<- aZ0 its k (acc++its),<- e,Bg,List.foldl_cons]
section
variable {X:Cx}{aA:Eb}{σ:St}{H:Hp}{s:Shared}{l b:Addr}{xs ys zs:List V}
theorem Inv.lset {its its':AH}{n:Nat}{f:AK->AK}{t':Nat}(I:Inv X aA σ H s)(y:H l=some (.lst xs))
  (e:s.heap.get? l=some {cls:=.type "list",data:=.seq its.toArray n}) (z:f its.toArray=its'.toArray) (k:Vals ys its') (j:ys.length<=sizeLine) :
  Inv X aA σ (upd H l (.lst ys)) {s with heap:=s.heap.update l (Obj.mapSeq f),toks:=t'}:=by
 have q:=PySem.IsL.update e f
 rw[z]at q;refine I.write (x:=l) (e:=l) (by rw[y];exact trivial) (.inl rfl) (λc u w r=>(Cz s.heap (Obj.mapSeq f) (Ne.symm w)).trans r) ⟨_,q⟩ ?_
 exact⟨j,its',_,k,q⟩
theorem Inv.lnew {its:AH}{t':Nat}(I:Inv X aA σ H s)(e:Vals ys its)(y:ys.length<=sizeLine) :
  Inv X aA σ (upd H s.heap.objs.size (.lst ys)) {s with heap:=s.heap.push {cls:=.type "list",data:=.seq its.toArray},toks:=t'}:=
 I.laid (λ_ _ q=>Aa6 _ q) (Aa7 _) ⟨y,its,0,e,Ac3 _ rfl⟩
theorem Inv.fresh (I:Inv X aA σ H s):H s.heap.objs.size=none:=I.hok.fresh (Aa7 _)
theorem Inv.lstM (I:Inv X aA σ H s)(y:H l=some (.lst xs)):xs.length<=sizeLine/\∃(its:AH) (n:Nat),Vals xs its/\xs.length=its.length/\s.heap.get? l=some {cls:=.type "list",data:=.seq its.toArray n}:=by
 obtain⟨z,its,n,r,e⟩:=I.hok l _ y;exact⟨z,its,n,r,r.length,e⟩
theorem bL6 {n:Nat}(h:n<=sizeLine):Builtin.List.listTooLong n=false:=by
 unfold Builtin.List.listTooLong;exact Ao (by lia)
end
section
variable {X:Cx}
def aH6:V->List V->Hp->VK->Prop:=λx vs H Q=>∃l xs y,x=.ref l/\vs=[y]/\H l=some (.lst xs)/\xs.length<sizeLine/\Q .non (upd H l (.lst (xs++[y])))
theorem E4:MtM X "list.append" aH6:=by
 intro p s σ H x vs v U Q I c j h;obtain⟨l,xs,y,rfl,rfl,w,Y,q⟩:=h;cases c;obtain⟨u,rfl,k⟩:=j.one;obtain⟨z,its,n,r,m,e⟩:=I.lstM w;refine call_meets F.slot_list_append ⟨_,e,rfl⟩ F.entry_list_append (F.args_list_append_2 _ _) (PySem.list_append l its.toArray n u (by rw[Ab2];lia)) ⟨e,?_⟩
 refine⟨.non,_,I.lset (its':=its++[u]) w e (by simp) (r.append (.cons k .nil)) ?_,rfl,q⟩
 rw[Ab7,List.length_singleton]
 lia
def bV5:V->List V->Hp->VK->Prop:=λx vs H Q=>∃l b xs zs,x=.ref l/\vs=[.ref b]/\H l=some (.lst xs)/\H b=some (.lst zs)/\xs.length+zs.length<=sizeLine/\Q .non (upd H l (.lst (xs++zs)))
theorem aA6:MtM X "list.extend" bV5:=by
 intro R s σ H x vs v P Q I N M h;obtain⟨l,b,xs,zs,rfl,rfl,j,p,B,q⟩:=h;cases N;obtain⟨u,rfl,J⟩:=M.one;cases J;obtain⟨z,its,n,r,D,e⟩:=I.lstM j;obtain⟨z2,y,Y,U,m,c⟩:=I.lstM p;have k:its.toArray.size+y.toArray.size<=sizeLine:=by rw[Ab2,Ab2];lia
 have w:¬(!its.toArray.isEmpty&&Builtin.List.listTooLong (its.toArray.size+y.toArray.size))=true:=by
  rw[bL6 k,Bool.and_false];exact Ai
 refine call_meets F.slot_list_extend ⟨_,e,rfl⟩ F.entry_list_extend (F.args_list_extend_2 _ _)
  (AutoSeq1.list_extend_list_list_0 l its.toArray n b y.toArray Y w (by rw[Ab2];lia) (by lia)) ⟨e,c,?_⟩
 refine⟨.non,_,I.lset (its':=its++y) j e (by simp) (r.append U) ?_,rfl,q⟩
 rw[Ab7]
 lia
def dD8:V->List V->Hp->VK->Prop:=λx vs H Q=>∃l xs y,x=.ref l/\vs=[]/\H l=some (.lst xs)/\xs[xs.length-1]? = some y/\Q y (upd H l (.lst xs.dropLast))
theorem bA9:MtM X "list.pop" dD8:=by
 intro M s σ H x vs v N Q I J U h;obtain⟨l,xs,y,rfl,rfl,j,m,q⟩:=h;cases J;have w:=U.zero;subst w;obtain⟨z,its,n,r,c,e⟩:=I.lstM j;obtain⟨u,p,Y⟩:=r.get m;have k:its.toArray[its.toArray.size-1]? = some u:=by
  show its.toArray[its.length-1]? = some u
  rw[<- Array.getElem?_toList,<- c];exact p
 refine call_meets F.slot_list_pop ⟨_,e,rfl⟩ F.entry_list_pop (F.args_list_pop_1 _) (MeetsSeq.list_pop_last l its.toArray n u k (by rw[Ab2];lia)) ⟨e,?_⟩
 refine⟨y,_,I.lset (its':=its.dropLast) j e ?_ r.dropLast ?_,Y,q⟩
 .show its.toArray.eraseIdxIfInBounds (its.toArray.size-1)=its.dropLast.toArray
  rw[Ab2,List.eraseIdxIfInBounds_toArray,bR6]
 .rw[List.length_dropLast]
  lia
def cQ2:V->List V->Hp->VK->Prop:=λx vs H Q=>∃l xs i k y,x=.ref l/\vs=[.int i]/\H l=some (.lst xs) /\ -(2^63)<=i/\i<2^63/\seqIndex? i xs.length=some k/\xs[k]? = some y/\Q y (upd H l (.lst (xs.eraseIdx k)))
theorem cJ9:MtM X "list.pop" cQ2:=by
 intro D s σ H x vs v B Q I R N h;obtain⟨l,xs,i,k,y,rfl,rfl,c,h1,p,m,J,q⟩:=h;cases R;obtain⟨u,rfl,M⟩:=N.one;obtain⟨t,rfl⟩:=M;obtain⟨z,its,n,r,Y,e⟩:=I.lstM c;obtain⟨w,U,j⟩:=r.get J;refine call_meets F.slot_list_pop ⟨_,e,rfl⟩ F.entry_list_pop (F.args_list_pop_2 _ _)
  (MeetsSeq.list_pop_at l its.toArray n i t k w (fitsIndex_both h1 p) (by rw[Ab2,<- Y];exact m) (by rw[<- Array.getElem?_toList];exact U) (by rw[Ab2];lia)) ⟨e,?_⟩
 refine⟨y,_,I.lset (its':=its.eraseIdx k) c e ?_ (r.eraseIdx k) ?_,j,q⟩
 .show its.toArray.eraseIdxIfInBounds k=(its.eraseIdx k).toArray
  rw[List.eraseIdxIfInBounds_toArray]
 .have:=aX9 xs k
  lia
def dQ5:R2:=λx y H Q=>∃l k xs,x=.ref l/\y=.int k/\H l=some (.lst xs) /\ -(2^63)<=k/\k<2^63/\xs.length*k.toNat<=sizeLine /\
 ∀p,H p=none->Q (.ref p) (upd H p (.lst (List.replicate k.toNat xs).flatten))
theorem cX9 {α:Type}(xs:List α)(k:Nat):(List.replicate k xs).flatten.length=k*xs.length:=by
 induction k with
 | zero=>simp
 | succ k e=>rw[Bg,Bs,Ab7,e,Nat.succ_mul,Nat.add_comm]
theorem cE5:OpR X (binaryOp .Mult) dQ5:=by
 intro aA s σ H x y v u Q I rx ry h;obtain⟨l,k,xs,rfl,rfl,B,h1,D,N,q⟩:=h;cases rx;obtain⟨t,rfl⟩:=ry;obtain⟨z,its,n,r,P,e⟩:=I.lstM B;have p:its.toArray.size*k.toNat<=sizeLine:=by rw[Ab2,<- P];exact N
 have j:¬its.toArray.size*k.toNat>(2^63-1) / 8:=by
  have:(sizeLine:Nat)<=(2^63-1) / 8:=by decide
  lia
 have c:¬(!Builtin.List.listFitsIndex k)=true:=by
  rw[fitsIndex_both h1 D];exact Ai
 have w:¬Builtin.List.listTooLong (its.toArray.size*k.toNat)=true:=by
  rw[bL6 p];exact Ai
 have Y:List.foldl (λJ M=>J++M) #[] (List.replicate (if its.toArray.isEmpty=true then 0 else k.toNat) its.toArray)=(List.replicate k.toNat its).flatten.toArray:=by
  have R:∀m:Nat,List.foldl (λJ M=>J++M) #[] (List.replicate m its.toArray)=(List.replicate m its).flatten.toArray:=λm=>by
   have:=aZ0 its m []
   rw[List.nil_append]at this;exact this
  rw[R];cases its with
  | nil=>simp
  | cons a r'=>rw[Ab (by simp)]
 refine wpAny_binaryOp_repeat_ref (T := "list") (U := "int") (by decide) ⟨_,e,rfl⟩ (λs'=>typeIs_int s' k t) noFill_list_mul F.fills_int_mul F.slot_int_rmul repeat_list F.slot_int_index.lookup
  (call_meets F.slot_int_rmul (typeIs_int s k t) F.entry_int_rmul (F.args_int_rmul_2 _ _) (int___rmul___int_list k t l its.toArray n)
   ⟨e,rfl,⟨_,e,rfl⟩,call_meets F.slot_list_mul ⟨_,e,rfl⟩ F.entry_list_mul (F.args_list_mul_2 _ _) (AutoListH.list___mul___list_int_3 l its.toArray n k t c j w) ⟨e,?_⟩⟩)
 rw[Y];exact⟨.ref _,_,I.lnew (t':=s.toks) (r.rep k.toNat) (by rw[cX9,Nat.mul_comm];exact N),rfl,q _ I.fresh⟩
end
end L2
namespace Att
open PySem PySem.W PySem.Calls PyProof.Rows
theorem aM7 {P:Params}{h:Heap}:∀(ns:AF) (vs:AH),WellAll P h vs (ns.map WData.int)->IntsAre vs ns:=by
 intro ns;induction ns with
 | nil=>
  intro vs w;rw[Dj]at w;cases w;exact .nil
 | cons n ns e=>
  intro vs w;rw[Ac7]at w;cases w with
  | cons a b=>
   cases a
   exact .cons _ _ (e _ b)
theorem bY9 {l:OpenLaw}{n:Nat}(Y:l.most=some n){P:Params}{h:Heap}{args:List WData}{vals:AH}
  (e:l.row.toRowW.claim.pre args=true) (c:WellAll P h vals args) :
  ∃a vs ns,vals=[Value.ref a]/\args=[WData.list (ns.map WData.int)]/\h.get? a=some {cls:=.type "list",data:=.seq vs.toArray}/\IntsAre vs ns/\ns.length<=n:=by
 have j:WShape.hasAll [] args [.list .int]=true:=(pre_splitW e).1
 have p:l.pre.holds [] {args:=args}=true:=(pre_splitW e).2
 obtain⟨d,r,rfl,h1,s⟩:=hasAllW_cons j;obtain rfl:=hasAllW_nil s;obtain⟨xs,rfl,m⟩:=hasW_list h1;obtain⟨ns,rfl⟩:=items_int m;have w:ns.length<=n:=by
  unfold OpenLaw.pre at p;have z:(WTm.not (.lt (.lit (.int (n:Int))) (.len (.arg 0)))).holds [] {args:=[.list (ns.map .int)]}=true:=by
   have z:=(holds_andW p).1
   rw[Y]at z;exact z
  have k:=condW_of z (w_not (w_lt w_lit (w_len_list (w_arg rfl))))
  rw[Aa3]at k;refine Nat.le_of_not_lt λq=>?_
  have X:(n:Int)<((ns.length:Nat):Int):=by lia
  first
   | (rw[Bu X]at k;exact absurd k (by decide))
   | (simp at k;lia)
 cases c with
 | cons U J=>
  cases J
  cases U with
  | list ho y=>exact⟨_,_,ns,rfl,rfl,ho,aM7 ns _ y,w⟩
theorem cA6 (l:OpenLaw)(args:List WData):l.row.toRowW.claim.post args (.bool true) args=true:=
 postW_of (r:=l.row.toRowW) (X:=(true==true))
  (show WShape.has [] (.bool true) .bool=true by first | rfl | decide | simp[WShape.has,WShape.arms,WShape.armsAll])
  (show(WTm.eq .res (.lit (.bool true))).value [] {args:=args,res:=some (.bool true),after:=args}=some (.bool (true==true)) from w_eq_bool (w_res rfl) w_lit) rfl
theorem bL5 {l:OpenLaw}{n:Nat}{q:Program}{loose:AJ}{XP:(Str->Option Value)->Heap->Prop}{YP:World->Heap->Prop}{d:DefRec}
  (hn:l.most=some n) (c:d.params.defaults=[])
  (call:∀(w:World) (s₀ s₁:Shared) (mg mb:Str->Option Value) (fa:Addr) (o:Obj) (pm cd doc:Value) (a:Addr) (vs:AH) (ns:AF),
   Ground q loose [] XP w s₀ mg mb s₁.heap->YP w s₁.heap ->
   s₁.heap.get? fa=some o->o.data=.func (docDef d.name d.params d.body d.scope pm cd doc)->s₁.heap.CodeRec cd d.name->mg d.name=some (.ref fa) ->
   s₁.heap.get? a=some {cls:=.type "list",data:=.seq vs.toArray}->IntsAre vs ns->ns.length<=n->s₁.gens = #[] ->
   codeAny (model l.prog w) callerA (.call (.ref fa) ⟨[.ref a],[]⟩) (λr s'=>r=.ok (.ret (.bool true))/\OldK s₁.heap s'.heap/\s'.os=s₁.os/\AllBare s'.gens) s₁) :
  WalkO q loose XP YP l.row.toRowW d [] (λf vs=>PySem.call f vs):=by
 intro w s₀ s₁ mg mb G Y fa o pm cd doc M kV ho D j X p F m J as k U hrd s B;obtain rfl:M=.none:=Dflts.none X c;obtain rfl:kV=.none:=Dflts.noKw X;obtain⟨a,vs,ns,rfl,rfl,z,e,y⟩:=bY9 hn k s;refine enter_call (codeAny_mono (call w s₀ s₁ mg mb fa o pm cd doc a vs ns G Y ho (fd_plain D) j p z e y F) λr s' hq=>?_)
 obtain⟨rfl,N,R,Q⟩:=hq;exact⟨.inl ⟨.bool true,.bool true,[],rfl,λ_=>rfl,.bool true,cA6 l _,λ_=>⟨List.Pairwise.nil,λ_ P=>(nomatch P)⟩⟩,N,R,Q⟩
section
variable {prog:Program}{w:World}{A:Around}{E:Dz}{s:Shared}{K:Frag}
def bP8 (h:Heap):Heap:={h with objs := #[]}
theorem L7 (h:Heap)(b:Addr):(bP8 h).get? b=none:=by
 cases e:(bP8 h).get? b with
 | none=>rfl
 | some o=>exact absurd (Ab3 e) (Nat.not_lt_zero _)
theorem bR9 {h:Heap}{L:Addr}{m:Str->Option Value}(n:h.Ns L m):Fr (bP8 h) L h m:=
 ⟨n,λb o e=>(by rw[L7]at e;cases e),Cj _⟩
end
end Att
namespace L2
open PySem PySem.Spec PyProof.Rows
theorem Q4:∀{vs:AH} {ns:AF},IntsAre vs ns->Vals (ns.map V.int) vs
 | _,_,.nil=>.nil
 | _,_,.cons n t h=>.cons ⟨t,rfl⟩ (Q4 h)
def dI4 (H:Hp):Prop:=∀b,H b=none\/∃o xs,H b=some (.frz o (.lst xs))
theorem cI7 {P:Program}{w:World}{K:Frag}{mg mb:Str->Option Value}{CX:CXT}{k:Nat}{fa a:Addr}{fd:FuncData}{x:Str}{sp:Sp}{s₁:Shared}{vs:AH}{ns:AF}
  (KX:K.In s₁.heap) (R:s₁.heap.Ns mainGlobals mg) (j:s₁.heap.Ns builtinsNs mb) (hbb:∀x:Str,x≠"__name__" -> mb x=bootBuiltins x) (N:s₁.heap.NoLimit) (hg:s₁.gens = #[])
  (ha:s₁.heap.get? a=some {cls:=.type "list",data:=.seq vs.toArray}) (hi:IntsAre vs ns) (hl:ns.length<=sizeLine) (hr:Room k callerA)
  (F:∀base:Heap,K.In base->base.Ns mainGlobals mg->E9 P w K mg base CX k fa fd [x] sp) (Y:∀(s:Shared) (u:Value),BindsTo s fd ⟨[u],[]⟩ [(x,u)])
  (hsp:∀H:Hp,dI4 H->SqL K H a (ns.map V.int)->sp [.ref a] H (λv _=>v=.bl true) λ_ _ _=>False)
  (hCX:∀H e s',CX [] H s₁ (λ_ _ _=>False) e s'->False) :
  codeAny (model P w) callerA (.call (.ref fa) ⟨[.ref a],[]⟩) (λr s'=>r=.ok (.ret (.bool true))/\OldK s₁.heap s'.heap/\s'.os=s₁.os/\AllBare s'.gens) s₁:=by
 have rv:=Q4 hi
 have v6:=hi.length
 have p:∀H:Hp,dI4 H->SqL K H a (ns.map V.int)->HOk P w H s₁.heap->(∀b,H b≠none->b=a)->(H a≠none->K.lookup a=none) ->
   codeAny (model P w) callerA (.call (.ref fa) ⟨[.ref a],[]⟩) (λr s'=>r=.ok (.ret (.bool true))/\OldK s₁.heap s'.heap/\s'.os=s₁.os/\AllBare s'.gens) s₁:=by
  intro H hO hS Q hA hK;have y:∀{b:Addr} {o:Obj},s₁.heap.get? b=some o->H b=none->(bA3 s₁.heap H).get? b=some o:=λe n=>cC8 e n
  have noA:∀{b:Addr} {o:Obj} {J:Array DictEntry} {U:Nat},s₁.heap.get? b=some o->o.data=.dict J U->H b=none:=λ{b o J U} e d=>by
   cases q:H b with
   | none=>rfl
   | some u=>
    have e':b=a:=hA b (by rw[q];simp)
    subst e';rw[ha]at e;cases e;have d':Data.seq vs.toArray _=Data.dict J U:=d;cases d'
  have c:∀{b:Addr} {m:Str->Option Value},s₁.heap.Ns b m->(bA3 s₁.heap H).Ns b m:=λ{b m} ⟨o,J,U,e,d,r⟩=>⟨o,J,U,y e (noA e d),d,r⟩
  have M:K.In (bA3 s₁.heap H):=λb o e=>y (KX b o e) (by
   cases q:H b with
   | none=>rfl
   | some u=>
    have e':b=a:=hA b (by rw[q];simp)
    subst e';rw[hK (by rw[q];simp)]at e;cases e)
  have hM:Mod K mg (bA3 s₁.heap H):=⟨M,c R,⟨mb,c j,hbb⟩,let ⟨mc,h1,h2⟩:=N;⟨mc,c h1,h2⟩⟩
  have e0:cC2 P w K mg (bA3 s₁.heap H) callerA [] s₁ H:=⟨rfl,hM,λb o e=>cS2 e,Nat.le_of_eq (cB0 _ _),trivial,λb j=>absurd (show b∈([]:AM) from j) (by simp),Q,.of_eq hg⟩
  refine codeAny_mono ((F _ M (c R)).run callerA [] s₁ H ⟨[.ref a],[]⟩ [.ref a] [.ref a] _ _ hr e0 (Y s₁ (.ref a)) (.cons rfl .nil) (hsp H hO hS)) λr s' h=>?_
  cases r with
  | error e=>exact(hCX H e s' h).elim
  | ok fl=>
   cases fl with
   | next=>exact False.elim h
   | brk=>exact False.elim h
   | cont=>exact False.elim h
   | ret u=>
    obtain⟨v,H',os,X,un,D,r',q⟩:=h;have q':v=.bl true:=q;subst q';obtain rfl:u=Value.bool true:=r';refine⟨rfl,OldK.of_keep λb o e=>?_,os,X⟩
    cases q:H b with
    | none=>exact un.keep b o e q (by intro z;exact absurd (show b∈([]:AM) from z) (by simp)) (by simp)
    | some u=>
     rcases hO b with z | ⟨ob,xs,z⟩
     .rw[q]at z;cases z
     .have z2:=un.frzs b ob _ z
      obtain⟨e1,_⟩:=Q b _ z;obtain⟨e2,_⟩:=D b _ z2;rw[e]at e1;cases e1;exact e2
 cases hk:K.lookup a with
 | some o=>
  have e:=KX a o hk
  rw[ha]at e;cases e;refine p (λ_=>none) (λ_=>.inl rfl) (.inr ⟨_,vs.toArray,_,hk,rfl,rfl,rfl,by rw[Ab2,v6];exact hl,by simpa using rv⟩) (λb u z=>by have B:(none:Option HO)=some u:=z;cases B) (λb z=>absurd rfl z) λz=>absurd rfl z
 | none=>
  refine p (λb=>if b=a then some (.frz {cls:=.type "list",data:=.seq vs.toArray} (.lst (ns.map V.int))) else none) (λb=>?_) (.inl (.inr ⟨{cls:=.type "list",data:=.seq vs.toArray},Ac rfl⟩)) (λb u z=>?_) (λb z=>?_) λ_=>hk
  .by_cases j:b=a
   .exact .inr ⟨_,_,Ac j⟩
   .exact .inl (Ab j)
  .by_cases j:b=a
   .have B:=(Ac j).symm.trans z
    cases B
    subst j;exact⟨ha,by rw[Aa3];exact hl,vs,_,rv,ha⟩
   .have B:=(Ab j).symm.trans z
    cases B
  .by_cases j:b=a
   .exact j
   .exact absurd (Ab j) z
abbrev KOf {K:Frag}{h:Heap}(_:K.In h):Frag:=K
theorem cW6 {l:PySem.W.OpenLaw}{n k:Nat}{q:Program}{loose:AJ}{XP:(Str->Option Value)->Heap->Prop}{YP:World->Heap->Prop}{d:DefRec}{K:Params->Frag}{CX:World->CXT}{sp:World->Sp}{x:Str}
  (hn:l.most=some n) (m:n<=sizeLine) (c:d.params.defaults=[]) (hr:Room k callerA)
  (Q:∀(w:World) (h:Heap),YP w h->(K w.params).In h)
  (F:∀(w:World) (mg:Str->Option Value) (fa:Addr) (h:Heap),(K w.params).In h->h.Ns mainGlobals mg->mg d.name=some (.ref fa) ->
   ∃fd:FuncData,(∀(s:Shared) (u:Value),BindsTo s fd ⟨[u],[]⟩ [(x,u)]) /\
    ∀base:Heap,(K w.params).In base->base.Ns mainGlobals mg->E9 l.prog w (K w.params) mg base (CX w) k fa fd [x] (sp w))
  (X:∀(w:World) (H:Hp) (a:Addr) (ns:AF),ns.length<=n->dI4 H->SqL (K w.params) H a (ns.map V.int)->sp w [.ref a] H (λv _=>v=.bl true) λ_ _ _=>False)
  (j:∀(w:World) (H:Hp) (s:Shared) (e:Value) (s':Shared),CX w [] H s (λ_ _ _=>False) e s'->False) :
  PySem.W.WalkO q loose XP YP l.row.toRowW d [] (λf vs=>PySem.call f vs):=by
 refine Att.bL5 hn c λw s₀ s₁ mg mb fa o pm cd J a vs ns G Y ho hd B p r z y P=>?_
 have U:=Q w _ Y
 obtain⟨fd,D,M⟩:=F w mg fa _ U G.T.g p;exact cI7 U G.T.g G.T.b G.T.builtins G.T.nolimit P r z (An y m) hr M D (λH N R=>X w H a ns y N R) λH e s'=>j w H s₁ e s'
def aN2 (s:Stmt):Arguments:=match s with
 | .FunctionDef _ a _ _ _ _ _ _ _ _=>a
 | _=>{posonlyargs:=[],args:=[],vararg:=none,kwonlyargs:=[],kw_defaults:=[],kwarg:=none,defaults:=[]}
def l5 (s:Stmt):List Stmt:=match s with
 | .FunctionDef _ _ b _ _ _ _ _ _ _=>b
 | _=>[]
def B2 (s:Stmt):Scope:=match s with
 | .FunctionDef _ _ _ _ _ _ sc _ _ _=>sc
 | _=>{kind:=.function,names:=[],isGenerator:=false,isCoroutine:=false}
abbrev CX0:CXT:=λ_ _ _ _ _ _=>False
abbrev E0:XK:=λ_ _ _=>False
theorem G6 {X:Cx}:bG9 CX0 X E0:=λ_ _ _ _ _ _ _ h=>h.elim
structure Fun (K:Frag)(x qual:Str)(st:Stmt)(f:Addr)(fd:FuncData):Prop where
 ex:∃(oc:Value) (od:AL) (kV doc pm:Value) (an:AL) (cdv ct:Value) (osl:Array (Option Value)),
  fd=PySem.W.fnOf x qual (aN2 st) (l5 st) (B2 st) .none kV doc pm an cdv ct/\K.lookup f=some ⟨oc,od,.func fd,osl⟩/\PySem.W.codeIn K cdv qual=true
 kp:PySem.W.keepIn K (.ref f)=true
section
variable {P:Program}{w:World}{K:Frag}{mg:Str->Option Value}{base:Heap}
theorem Fun.ok {x qual:Str}{st:Stmt}{f:Addr}{fd:FuncData}{N ps:AJ}{k:Nat}{sp:Sp}(F:Fun K x qual st f fd)(S:D9 N ps (B2 st))(len:∀vs H Q E,sp vs H Q E->vs.length=ps.length)
  (e:∀(cdv:Value) (A:Around) (outer:List Env) (s:Shared) (H:Hp) (vs:List V) (Q:VK) (E:XK),Room k (A.deeper (envOfC qual (B2 st) s.heap.objs.size f cdv))->sp vs H Q E ->
   ∃t,PSs (aT1 CX0 P w K mg base N qual (B2 st) f cdv A outer s H E).nox (l5 st) t/\t {nx:=λ_ H'=>Q .non H',rt:=Q} (R5 N vs) H):E9 P w K mg base CX0 (k+1) f fd ps sp:=by
 obtain⟨Y,X,kV,r,pm,an,cdv,m,p,rfl,c,y⟩:=F.ex;refine dA8 c y S len λA outer s H vs Q E j z=>?_
 obtain⟨t,h,q⟩:=e cdv A outer s H vs Q E j z;exact⟨t,h.nox,q⟩
theorem Fun.binds {x qual:Str}{st:Stmt}{f:Addr}{fd:FuncData}{ps:AJ}(F:Fun K x qual st f fd)
  (h:∀(kV doc pm:Value) (an:AL) (cdv ct:Value) (us:AH),us.length=ps.length->bindArgs (PySem.W.fnOf x qual (aN2 st) (l5 st) (B2 st) .none kV doc pm an cdv ct) ⟨us,[]⟩=pure (ps.zip us)):Binds K fd ps []:=by
 obtain⟨r,k,kV,doc,pm,an,cdv,ct,y,rfl,z,e⟩:=F.ex;exact .all (h kV doc pm an cdv ct)
theorem J0 {x qual:Str}{st:Stmt}{f:Addr}{oc:Value}{od an:AL}{osl:Array (Option Value)}{kV doc pm cdv ct:Value}(l:K.lookup f=some ⟨oc,od,.func (PySem.W.fnOf x qual (aN2 st) (l5 st) (B2 st) .none kV doc pm an cdv ct),osl⟩)
  (c:PySem.W.codeIn K cdv qual=true) (k:PySem.W.keepIn K (.ref f)=true):Fun K x qual st f (PySem.W.fnOf x qual (aN2 st) (l5 st) (B2 st) .none kV doc pm an cdv ct):=⟨⟨oc,od,kV,doc,pm,an,cdv,ct,osl,rfl,l,c⟩,k⟩
end
section
variable {X:Cx}
theorem pv (i:Nat){x:Str}{pos:Pos}(y:X.N[i]? = some x:=by rfl)(z:Vis X.env.scope x:=by first | exact Or.inl rfl | exact Or.inr (Or.inl rfl) | exact Or.inr (Or.inr rfl))(w:(x==("__debug__" : Str))=false:=by decide)
  (e:(x==("__classdict__" : Str))=false:=by decide):PE X (.Name x pos) (E1 i):=dD9 y z w e
end
def Same (H H':Hp):Prop:=∀b o,H b=some o->H' b=some o
section
variable {prog:Program}{w:World}{A:Around}{R:Result->Shared->Prop}{s:Shared}
theorem bL2 {elt target iter:Expr}{ifs:AN}{scope:Scope}{pos:Pos}{it acc:Value}{env:Env}(I:Nat->Shared->Prop)
  (turn:∀n s,I n s->wpAny (model prog w) A (pyNext it) (λr s₁=>match r with
   | none=>R (.ok .next) s₁
   | some v=>wpAny (model prog w) A (letOwnedTupleGo target it v) (λ_ s₁'=>wpAny (model prog w) A (assign target env v) (λ_ s₂ =>
     wpAny (model prog w) A (forIn ifs true λc r=>if r=true then do let ok <- isTrue c env (eval c env);pure (ForInStep.yield ok) else pure (ForInStep.yield r)) (λok s₃ =>
      if ok=true then wpAny (model prog w) A (eval elt env) (λx s₄ =>
       wpAny (model prog w) A (call (.builtin "list.append") [acc,x]) (λ_ s₅=>∃m,m<n/\I m s₅) (λ_ _=>False) s₄) (λ_ _=>False) s₃
      else ∃m,m<n/\I m s₃) (λ_ _=>False) s₂) (λ_ _=>False) s₁') (λ_ _=>False) s₁) (λ_ _=>False) s)
  (n:Nat) (h:I n s) :
  codeAny (model prog w) A (.compLoop (.ListComp elt [⟨target,iter,ifs,0⟩] scope pos) 0 it acc env) R s:=by
 refine codeAny_loop rfl I (λn s j=>?_) n h
 show wpAny _ A ((compTurn (.ListComp elt [⟨target,iter,ifs,0⟩] scope pos) 0 it acc env).onRaise (λx=>do noteFrame x env;theTreesLotGoes x)) _ _ s
 refine wpAny_noted ?_;rw[compTurn_list];refine Aa (wpAny_standAt (Aa (wpAny_mono (turn n s j) (λr s₁ z=>?_) λ_ _ e=>e.elim)))
 cases r with
 | none=>exact Ae z
 | some v=>
  refine Aa (wpAny_mono z (λ_ s₁' y=>?_) λ_ _ e=>e.elim)
  refine Aa (wpAny_mono y (λ_ s₂ p=>Aa (wpAny_mono p (λok s₃ k=>?_) λ_ _ e=>e.elim)) λ_ _ e=>e.elim)
  cases ok with
  | false=>exact Ae ⟨rfl,k⟩
  | true=>
   exact Aa (Aa (wpAny_mono k (λx s₄ q=>Aa (wpAny_mono q (λ_ s₅ Y=>Ae (Ae ⟨rfl,Y⟩)) λ_ _ e=>e.elim)) λ_ _ e=>e.elim))
end
section
variable {X:Cx}
def cxC (X:Cx)(N':AJ)(scope:Scope)(cl:List (Str×Addr))(C:Addr)(ex:AM)(s:Shared)(H:Hp):Cx:=
 {X with N:=N',s₀:=s,H₀:=H,env:=compEnvC scope cl C X.env,outer:=X.stack,ex:=ex,fn:=λ_=>false,xe:=λ_ _=>False}
structure PIfs (X:Cx)(ifs:AN)(t:TT):Prop where
 mk ::
 run :
  ∀(aA:Eb) (s:Shared) (σ:St) (H:Hp) (Q:Bool->Hp->Prop),Inv X aA σ H s->t σ H Q ->
   wpAny (model X.prog X.w) X.A (forIn ifs true λc r=>if r=true then do let ok <- isTrue c X.env (eval c X.env);pure (ForInStep.yield ok) else pure (ForInStep.yield r)) (TP X aA σ Q) X.xe s
instance {X:Cx} {ifs:AN} {t:TT}:CoeFun (PIfs X ifs t) λ_=>
 (∀(aA:Eb) (s:Shared) (σ:St) (H:Hp) (Q:Bool->Hp->Prop),Inv X aA σ H s->t σ H Q ->
  wpAny (model X.prog X.w) X.A (forIn ifs true λc r=>if r=true then do let ok <- isTrue c X.env (eval c X.env);pure (ForInStep.yield ok) else pure (ForInStep.yield r)) (TP X aA σ Q) X.xe s):=⟨PIfs.run⟩
def aE1:TT:=λ_ H Q=>Q true H
theorem M8:PIfs X [] aE1:=⟨λe s σ H Q I h=>by
 show wpAny _ _ (pure true) _ _ _
 exact Ae ⟨H,I,h⟩⟩
theorem y2 {c:Expr}{t:TT}(y:PT X c t):PIfs X [c] t:=⟨λe s σ H Q I h=>by
 rw[List.forIn_cons,Ac rfl];refine Aa (Aa (thn (y e s σ H Q I h) λb w q=>Ae ?_))
 dsimp only
 rw[List.forIn_nil];exact Ae q⟩
def stC (n:Nat)(is:AD)(σ:St):St:=List.replicate n none++is.map λi=>(σ[i]?).getD none
def bY3 (wi:TI)(n:Nat)(is:AD)(g:TG)(tt:TT)(te:TE):TE:=λσ H Q=>wi σ H λJ H1=>
 ∃W:Nat->Nat->List V->Hp->Prop,(∃m,W 0 m [] H1)/\∀i m ys H,W i m ys H->ys.length<sizeLine /\
  ((J.stop i H/\∀D,H D=none->Q (.ref D) (upd H D (.lst ys))) \/
   (J.go i H/\∀x H',J.yld i H x H'->g x (stC n is σ) H' λσ2 H2=>tt σ2 H2 λb H3=>
    if b=true then te σ2 H3 (λy H4=>∃m',m'<m/\W (i+1) m' (ys++[y]) H4) else ∃m',m'<m/\W (i+1) m' ys H3))
structure CScope (X:Cx)(scope:Scope)(cl:List (Str×Addr))(T:AJ)(is:AD)(N':AJ):Prop where
 clos:closureFor scope X.env=pure cl
 cell:∀y∈scope.names,y.2≠.cell
 kind:scope.kind=.function
 names:∀y∈scope.names,y.2=.local->scope.names.lookup y.1=some .local
 cap:∀x c,cl.lookup x=some c->X.env.cells.lookup x=some c
 has:∀x,((relabel scope X.env).names.lookup x=some .cell\/(relabel scope X.env).names.lookup x=some .free)->∃c,cl.lookup x=some c
 N:N'=T++is.map λ(i:Nat)=>((X.N[i]?).getD Str.empty:Str)
 lt:∀i∈is,i<X.N.length
 capt:∀i∈is,∀x,X.N[i]? = some x->((relabel scope X.env).names.lookup x=some .cell\/(relabel scope X.env).names.lookup x=some .free)/\(X.env.kindOf x=some .cell\/X.env.kindOf x=some .free)
theorem dF1 {aA:Eb}{σ:St}{H:Hp}{s:Shared}{scope:Scope}{cl:List (Str×Addr)}{T N':AJ}{is:AD}{C:Addr}{fp:AM}(S:CScope X scope cl T is N')(I:Inv X aA σ H s)
  (r:∀b∈fp,bF1 X aA H b) (k:∀b∈fp,b<s.heap.objs.size) (j:s.heap.objs.size<=C):(cxC X N' scope cl C fp s H).Ok where
 mod:=I.ok.mod
 kind:=S.kind
 glob:=I.ok.glob
 blt:=I.ok.blt
 above:=j
 inj:=λx y c h1 p=>I.ok.inj x y c (S.cap x c h1) (S.cap y c p)
 has:=S.has
 cab:=λx c h=>by cases h
 hd:=I.ok.hd
 frames:=I.ok.frames
 stk:=.inl rfl
 exf:=λb w=>⟨Ab9 (Ab8 (k b w) j),λx c e=>(r b w).2.2.2.2.1 x c (S.cap x c e)⟩
 bs:=λb o e=>I.bs b o e
 bsz:=An I.ok.bsz I.sz
 noex:=λb o e w=>by
  rcases (r b w).2.2.2.1 with z | z
  .exact I.ok.noex b o e z
  .exact absurd (Ab8 (Ab3 e) (An I.ok.bsz z)) (Ad9 _)
 exfs:=λb w z=>(Aa1.mp (I.stkSub b z)).elim (r b w).2.1 (r b w).2.2.1
 funs:=I.stack
 frf:=I.stkFree
def aO4 (n:Nat)(g:TG):Prop:=∀v (σ:St) H Q,n<=σ.length->g v σ H Q->g v σ H λσ' H'=>Q σ' H'/\σ'.length=σ.length/\∀i,n<=i->σ'[i]? = σ[i]?
def bE1 (n:Nat)(g:TGs):Prop:=∀vs (σ:St) H Q,n<=σ.length->g vs σ H Q->g vs σ H λσ' H'=>Q σ' H'/\σ'.length=σ.length/\∀i,n<=i->σ'[i]? = σ[i]?
theorem L6 {n i:Nat}(h:i<n):aO4 n (G5 i):=λv σ H Q y q=>
 ⟨q,Dh,λj e=>Ad0 (by lia)⟩
theorem dK0 {n:Nat}:bE1 n bE7:=λvs σ H Q e q=>⟨q.1,q.2,rfl,λ_ _=>rfl⟩
theorem bT6 {n:Nat}{t:TG}{u:TGs}(mono:∀v σ H Q Q',(∀σ' H',Q σ' H'->Q' σ' H')->t v σ H Q->t v σ H Q')(y:∀v σ H Q Q',(∀σ' H',Q σ' H'->Q' σ' H')->u v σ H Q->u v σ H Q')(h1:aO4 n t)(j:bE1 n u):bE1 n (Z3 t u):=by
 rintro vs σ H Q c ⟨v,r,e,q⟩;refine⟨v,r,e,mono _ _ _ _ _ ?_ (h1 v σ H _ c q)⟩;rintro σ' H' ⟨m,U,p⟩;refine y _ _ _ _ _ ?_ (j r σ' H' _ (by lia) m)
 rintro Y k ⟨z,s,w⟩;exact⟨z,by lia,λi hi=>(w i hi).trans (p i hi)⟩
theorem dD2 {K:Frag}{n k:Nat}{t:TGs}(h:bE1 n t):aO4 n (bR7 K k t):=by
 rintro v σ H Q y ⟨a,xs,e,z,w,q⟩;exact⟨a,xs,e,z,w,h xs σ H Q y q⟩
abbrev aD9 (its:AH)(n:Nat):Obj:={cls:=.type "list",data:=.seq its.toArray n}
theorem cO4 {aA:Eb}{σ:St}{H:Hp}{s:Shared}{scope:Scope}{cl:List (Str×Addr)}{T N':AJ}{is:AD}{C D:Addr}{fp:AM}{h₁:Heap}{tk:Nat}{m:Str->Option Value}{its:AH}{e:Nat}(S:CScope X scope cl T is N')(I:Inv X aA σ H s)
  (hf:∀b∈fp,bF1 X aA H b) (hfl:∀b∈fp,b<s.heap.objs.size) (Q:s.heap.objs.size=D) (P:D<C) (hns:h₁.Ns C m) (j:∀b o,s.heap.get? b=some o->h₁.get? b=some o) (M:h₁.get? D=some (aD9 its e)) :
  Inv (cxC X N' scope cl C fp s H) (aA++[(D,aD9 its e)]) (stC T.length is σ) H {s with heap:=h₁,toks:=tk}:=by
 have J:s.heap.objs.size<=C:=by rw[Q];exact Bw P
 have ok:=dF1 (C:=C) S I hf hfl J
 have lt:∀p∈X.pn++aA,p.1<D:=λp hp=>by rw[<- Q];exact Ab3 (I.pin p hp).1
 have stk:∀b∈frs X.stack,b<D:=λb hb=>by
  obtain⟨_,o,ho,_⟩:=I.stack.mem hb;rw[<- Q];exact Ab3 ho
 refine⟨ok,rfl,I.bare,Un.kept j,⟨m,hns,λi x v Y w e3=>?_⟩,λx c h=>?_,?_,λx c h=>I.freeC x c (S.cap x c h),λp hp=>?_,I.hok.kept j,?_⟩
 .have Y:N'[i]? = some x:=Y
  unfold stC at w;by_cases hi:i<T.length
  .rw[Br (by simpa using hi),Ca,Ac hi]at w
   cases w
  .rw[Bp (by simpa using hi),Cn,Aa9]at w
   rw[S.N,Bp (by lia),Aa9]at Y
   cases B:is[i-T.length]? with
   | none=>rw[B]at w;cases w
   | some k=>
    rw[B]at Y w;have hk:k∈is:=Az B;have hlt:=S.lt k hk;have eN:X.N[k]? = some x:=by
     simp only[Option.map_some,Option.some.injEq]at Y;rw[Aa2 hlt]at Y ⊢;simpa using Y
    have es:σ[k]? = some (some v):=by
     simp only[Option.map_some,Option.some.injEq]at w;cases q:σ[k]? with
     | none=>rw[q]at w;cases w
     | some y=>rw[q]at w;exact congrArg some w
    obtain⟨c1,c2⟩:=S.capt k hk x eN;obtain⟨m',hn',hl'⟩:=I.loc;obtain⟨u,r,l⟩:=hl' k x v eN es (.inr c2);refine⟨u,r,.inr ⟨c1,?_⟩⟩;rcases l with⟨k1,_⟩ | ⟨_,c,hc,U⟩
    .rcases c2 with c2 | c2 <;> rw[k1]at c2 <;> cases c2
    .obtain⟨F,R⟩:=S.has x c1
     have:F=c:=Ab4 ((S.cap x F R).symm.trans hc)
     subst this;exact⟨F,R,U.keeps j⟩
 .obtain⟨v,q⟩:=I.cell x c (S.cap x c h);exact⟨v,q.keeps j⟩
 .exact I.hok.fresh J
 .have hp:p∈X.pn++(aA++[(D,aD9 its e)]):=hp
  rw[<- Ad7]at hp;rcases Aa0.mp hp with hp | hp
  .obtain⟨q1,q2,q3,q4,q5⟩:=I.pin p hp
   have:=lt p hp
   exact⟨j _ _ q1,q2,Ab9 (Nat.lt_trans this P),λz=>(Aa1.mp (I.stkSub p.1 z)).elim q3 q4,q5⟩
  .have e:p=(D,aD9 its e):=by simpa using hp
   subst e;exact⟨M,I.hok.fresh (by rw[Q];exact Aa7 _),Ab9 P,λz=>Ad9 _ (stk D z),λv z=>by cases z⟩
 .show(stC T.length is σ).length=N'.length
  rw[S.N];unfold stC
  simp
def cT1 (X:Cx)(aA:Eb)(σ:St)(D C:Addr)(H4:Hp)(s4:Shared):Prop:=
 (∃m,s4.heap.Ns C m)/\(∀h',Heap.SameBut C s4.heap h'->Inv X aA σ H4 {s4 with heap:=h'})/\H4 C=none/\C≠X.env.locals/\X.s₀.heap.objs.size<=C/\(∀x c,X.env.cells.lookup x=some c->c≠C)/\∀p∈X.pn++aA,p.1≠C
theorem aY1 {elt tg iter:Expr}{ifs:AN}{scope:Scope}{pos pos2:Pos}{cl:List (Str×Addr)}{T N':AJ}{is:AD}{wi:TI}{g:TG}{tt:TT}{te:TE}(hc:X.calm=true)(S:CScope X scope cl T is N')(hi:PI X tg iter wi)(hg:aO4 T.length g)
  (k:∀C ex s H,PG (cxC X N' scope cl C ex s H) tg g/\PIfs (cxC X N' scope cl C ex s H) ifs tt/\PE (cxC X N' scope cl C ex s H) elt te)
  (hs:∀x,foldedSetIterable iter X.env x=pure x) {use:Option (Value->Sem Unit)} {Qc:Dz} {aA:Eb} {s:Shared} {σ:St} {H:Hp} {Q:VK} (I:Inv X aA σ H s) (h:bY3 wi T.length is g tt te σ H Q)
  (fin:∀(D C:Addr) (H4:Hp) (s4:Shared),cT1 X aA σ D C H4 s4->Q (.ref D) H4->compPost (model X.prog X.w) X.A X.xe use Qc (.ref D) C (.ok .next) s4) :
  wpAny (model X.prog X.w) X.A (comprehension (.ListComp elt [⟨tg,iter,ifs,0⟩] scope pos) scope X.env pos2 (newList []) false (eval iter X.env) use) Qc X.xe s:=by
 refine wpAny_comprehension_free (use:=use) rfl hs S.clos S.kind S.names (thn (hi aA s σ H _ I h) λv s1 h1=>thn h1 λitv Y h2=>?_)
 obtain⟨it,m,tn,J,M,e,I2,Tn,st2,f2,W,⟨m0,w0⟩,turn⟩:=h2;subst e;refine Co (wpAny_newFunctionEnv S.cell (by intro y hy;simp at hy) (λh₁ B N=>?_) S.kind)
 dsimp only at B N ⊢
 generalize hH2:Y.heap.push {cls:=.type "list",dict:=none,data:=.seq ([]:AH).toArray}=G2 at B N ⊢;have eC:G2.objs.size=Y.heap.objs.size+1:=by rw[<- hH2,Dq]
 generalize hC:G2.objs.size=C at *;generalize hD:Y.heap.objs.size=D at *;have U:D<C:=by rw[eC];exact Nat.lt_succ_self D
 have bC:∀{b:Addr},b<D->b≠C:=λk=>Ab9 (Nat.lt_trans k U)
 have below:∀b o,Y.heap.get? b=some o->b<D:=λb o e=>by rw[<- hD];exact Ab3 e
 have old:∀b o,Y.heap.get? b=some o->h₁.get? b=some o:=λb o e=>N.extBut b o (bC (below b o e)) (Aa6 _ (hH2▸Aa6 _ e))
 have hacc:h₁.get? D=some (aD9 [] 0):=N.extBut _ _ (Ab9 U) (Aa6 _ (hH2▸(by rw[<- hD];exact Ac3 _ rfl)))
 have F:∀b∈m,b<D:=λb k=>by
  obtain⟨o,e,_⟩:=Tn.obj _ _ st2 b k;exact below b o e
 have lt:∀p∈X.pn++aA,p.1<D:=λp hp=>below _ _ (I2.pin p hp).1
 have stk:∀b∈frs X.stack,b<D:=λb k=>by
  obtain⟨_,o,ho,_⟩:=I2.stack.mem k;exact below b o ho
 have cel:∀x c,cl.lookup x=some c->c<D:=λx c hx=>by
  obtain⟨v,q⟩:=I2.cell x c (S.cap x c hx);rw[<- hD];exact q.lt
 have H2D:M D=none:=I2.hok.fresh (by rw[hD];exact Aa7 _)
 obtain⟨pgx,pix,pex⟩:=k C m Y M;have stat:∀{e:Nat} {its:AH} {H':Hp},(∀b∈m,H' b=none)->∀b∈m,bF1 (cxC X N' scope cl C m Y M) (aA++[(D,aD9 its e)]) H' b:=λ{e its H'} hn b k=>by
  obtain⟨f0,f1,f3,f4,f5,f6⟩:=f2 b k
  have:=F b k
  refine⟨hn b k,bC (F b k),λz=>(Aa1.mp (I2.stkSub b z)).elim f1 f3,.inl k,λx c z=>f5 x c (S.cap x c z),λp hp=>?_⟩
  have hp:p∈X.pn++(aA++[(D,aD9 its e)]):=hp
  rw[<- Ad7]at hp;rcases Aa0.mp hp with hp | hp
  .exact f6 p hp
  .have e:p=(D,aD9 its e):=by simpa using hp
   subst e;exact(Ab9 (F b k)).symm
 have loop:codeAny (model X.prog X.w) X.A (.compLoop (.ListComp elt [⟨tg,iter,ifs,0⟩] scope pos) 0 (.ref it) (.ref D) (compEnvC scope cl C X.env)) (compPost (model X.prog X.w) X.A X.xe use Qc (.ref D) C) {Y with heap:=h₁,toks:=Y.toks+([]:List (Str×Value)).length}:=by
  refine bL2 (λn s'=>∃i ys its e R,Inv (cxC X N' scope cl C m Y M) (aA++[(D,aD9 its e)]) (stC T.length is σ) R s'/\tn i s'.heap/\(∀b∈m,R b=none)/\Vals ys its/\W i n ys R) ?_ m0
   ⟨0,[],[],0,M,cO4 S I2 f2 (by rw[hD];exact F) hD U B old hacc,Tn.keep _ _ _ st2 λb _ o q=>old b o q,λb k=>(f2 b k).1,.nil,w0⟩
  rintro n s3 ⟨i,ys,its,e,R,I3,st3,fr3,rv,w3⟩;obtain⟨hsz,hh⟩:=turn i n ys R w3;rcases hh with⟨stop,qn⟩ | ⟨go,step⟩
  .refine thn (Tn.done (cxC X N' scope cl C m Y M) rfl rfl rfl hc i _ s3 _ R _ I3 (stat fr3) st3 stop) λr s4 ⟨hr,I4⟩=>?_
   subst hr;obtain⟨m4,hn4,_⟩:=I4.loc;obtain⟨pd,H3D,_⟩:=I4.pin (D,aD9 its e) (by simp)
   have H3C:R C=none:=I4.free
   refine fin D C (upd R D (.lst ys)) s4 ⟨⟨m4,hn4⟩,λh' sb=>?_,by rw[B8 (Nat.ne_of_gt U)];exact H3C,λz=>Ad9 _ (Nat.lt_trans U (by rw[z];have:=I2.lt;rw[hD]at this;exact this)),An I2.sz (by rw[hD];exact Bw U),λx c e=>by
    obtain⟨v,q⟩:=I2.cell x c e;exact bC (by rw[<- hD];exact q.lt),λp hp=>bC (lt p hp)⟩ (qn D H3D)
   have kC:∀b o,b≠C->s4.heap.get? b=some o->h'.get? b=some o:=λb o k q=>(sb.2 b k).trans q
   have u:=I4.base
   have u:Un (frs X.stack) m M R Y.heap s4.heap:=u
   have u2:Un (frs X.stack) m M (upd R D (.lst ys)) Y.heap h':=by
    refine⟨λb o q n k hx=>kC b o (bC (below b o q)) (u.keep b o q n k hx),λb o q n k hx=>?_,λb o q n hx=>?_,λb o q hx=>?_,λb xs q=>?_,λb o xs q=>?_,λb ps q=>?_⟩
    .obtain⟨sl,q1⟩:=u.slot b o q n k hx;exact⟨sl,kC b _ (bC (below b o q)) q1⟩
    .rw[B8 (Ab9 (below b o q))];exact u.free b o q n hx
    .obtain⟨o',q1⟩:=u.there b o q hx;exact⟨o',kC b _ (bC (below b o q)) q1⟩
    .rw[B8 (D8 q H2D)];exact u.tups b xs q
    .rw[B8 (D8 q H2D)];exact u.frzs b o xs q
    .obtain⟨more,q1⟩:=u.tbls b ps q;exact⟨more,by rw[B8 (D8 q H2D)];exact q1⟩
   have hok:HOk X.prog X.w (upd R D (.lst ys)) h':=λb o q=>by
    by_cases k:b=D
    .subst k;rw[C2]at q;cases q;exact⟨Bw hsz,its,e,rv,kC _ _ (Ab9 U) pd⟩
    .rw[B8 k]at q;refine(I4.hok b o q).stay (λc v hc q'=>kC c v ?_ q') (λc q'=>by rw[B8 (D8 q' H3D)];exact q') λc xs q'=>by rw[B8 (D8 q' H3D)];exact q'
     rcases hc with z | z
     .rw[z];exact D8 q H3C
     .exact D8 z H3C
   have os4:s4.os=Y.os:=I4.os
   exact I2.call' (s':={s4 with heap:=h'}) os4 u2 hok I4.bare λb k=>⟨(f2 b k).2.2.2.1,(f2 b k).2.1,(f2 b k).2.2.2.2.1,(f2 b k).2.2.2.2.2⟩
  .refine thn (Tn.item (cxC X N' scope cl C m Y M) rfl rfl rfl hc i _ s3 _ R _ I3 (stat fr3) st3 go) λr s4 ⟨u,hr,h4⟩=>?_
   subst hr;refine thn h4 λ_ s5 ⟨x,H5,I5,r5,y5,st5,fr5⟩=>?_
   have I5':=I5.pinned (stat fr5) (Tn.obj _ _ st5)
   have hln:T.length<=(stC T.length is σ).length:=by unfold stC;simp
   refine thn (pgx _ s5 _ H5 x u _ I5' r5 (hg x _ H5 _ hln (step x H5 y5))) λ_ s6 ⟨σ6,H6,I6,q6,l6,k6⟩=>?_
   refine thn (pix _ s6 σ6 H6 _ I6 q6) λb s7 ⟨H7,I7,q7⟩=>?_
   have back:∀{H8:Hp} {s8:Shared} {P:AH} {e':Nat},Inv (cxC X N' scope cl C m Y M) (aA++[(D,aD9 P e')]++o8 m s5.heap) σ6 H8 s8->Inv (cxC X N' scope cl C m Y M) (aA++[(D,aD9 P e')]) (stC T.length is σ) H8 s8/\tn (i+1) s8.heap/\∀b∈m,H8 b=none:=λ{H8 s8 P e'} I8=>by
    refine⟨I8.unpinned.weak l6.symm λj v q=>?_,Tn.keep _ _ _ st5 λb k o q=>(I8.pin (b,o) (Ac1 _ (Ac1 _ (u8 k q)))).1,λb k=>?_⟩
    .by_cases hj:T.length<=j
     .rw[k6 j hj];exact q
     .unfold stC at q;rw[Br (by simpa using hj),Ca,Ac (by lia)]at q
      cases q
    .obtain⟨o,q,d⟩:=Tn.obj _ _ st5 b k;exact(I8.pin (b,o) (Ac1 _ (Ac1 _ (u8 k q)))).2.1
   cases b with
   | false=>
    rw[Ab Ai]at q7 ⊢;obtain⟨m',hm,w7⟩:=q7;obtain⟨J1,J2,J3⟩:=back I7;exact⟨m',hm,i+1,ys,its,e,H7,J1,J2,J3,rv,w7⟩
   | true=>
    rw[Ac rfl]at q7 ⊢;refine thn (pex _ s7 σ6 H7 _ I7 q7) λy s8 ⟨yv,H8,I8,r8,m',hm,w8⟩=>?_
    obtain⟨pd,H8D,_⟩:=I8.pin (D,aD9 its e) (by simp)
    have pl:s8.heap.PlainList D its.toArray:=⟨e,pd⟩
    refine wpAny_list_append_plain pl (λh9 pl9 sb9=>?_) (by have:=rv.length;simp;lia)
    obtain⟨e9,hl9⟩:=pl9;have ea:its.toArray.push y=(its++[y]).toArray:=by simp
    rw[ea]at hl9;have I8':Inv (cxC X N' scope cl C m Y M) (aA++o8 m s5.heap) σ6 H8 s8:=I8.pins_of λp hp=>I8.pin p (Ac1 _ ((Aa0.mp hp).elim (λz=>Cf _ (Cf _ z)) λz=>Ac1 _ z))
    have I9:Inv (cxC X N' scope cl C m Y M) (aA++o8 m s5.heap) σ6 H8 {s8 with heap:=h9}:=by
     refine I8'.turned (t':=s8.toks) (it:=D) (λb o k q=>(sb9.2 b k).trans q) H8D (Ab9 U) (.inr (by show Y.heap.objs.size<=D;rw[hD];exact Aa7 _)) (λx c z=>Ab9 (cel x c z)) λp hp=>?_
     have hp:p∈X.pn++(aA++o8 m s5.heap):=hp
     rw[<- Ad7]at hp;rcases Aa0.mp hp with z | z
     .exact Ab9 (lt p z)
     .exact Ab9 (F _ (aX0 z).1)
    have I9':Inv (cxC X N' scope cl C m Y M) (aA++[(D,aD9 (its++[y]) e9)]++o8 m s5.heap) σ6 H8 {s8 with heap:=h9}:=I9.pins_of λp hp=>by
     rcases Aa0.mp hp with z | z
     .rcases Aa0.mp z with z | z
      .exact I9.pin p (Ac1 _ (Cf _ z))
      .have ep:p=(D,aD9 (its++[y]) e9):=by simpa using z
       subst ep;exact⟨hl9,H8D,Ab9 U,λz=>Ad9 _ (stk D z),λv z=>by cases z⟩
     .exact I9.pin p (Ac1 _ (Ac1 _ z))
    obtain⟨J1,J2,J3⟩:=back I9';exact⟨m',hm,i+1,ys++[yv],its++[y],e9,H8,J1,J2,J3,rv.append (.cons r8 .nil),w8⟩
 refine codeAny_compStart_list loop ?_;exact Tn.self _ 0 _ _ _ (Tn.keep _ _ _ st2 λb _ o q=>old b o q) loop
theorem M1 {elt tg iter:Expr}{ifs:AN}{scope:Scope}{pos:Pos}{cl:List (Str×Addr)}{T N':AJ}{is:AD}{wi:TI}{g:TG}{tt:TT}{te:TE}(r:X.calm=true)(S:CScope X scope cl T is N')(hi:PI X tg iter wi)(k:aO4 T.length g)
  (z:∀C ex s H,PG (cxC X N' scope cl C ex s H) tg g/\PIfs (cxC X N' scope cl C ex s H) ifs tt/\PE (cxC X N' scope cl C ex s H) elt te)
  (j:∀x,foldedSetIterable iter X.env x=pure x:=by intro _;rfl):PE X (.ListComp elt [⟨tg,iter,ifs,0⟩] scope pos) (bY3 wi T.length is g tt te):=by
 refine⟨?_⟩;intro m s σ H Q I h;rw[eval_ListComp];refine aY1 r S hi k z j I h λD C y Y ⟨⟨c,e⟩,J,_⟩ q=>?_
 exact⟨c,e,λw p=>⟨.ref D,y,J w p,rfl,q⟩⟩
theorem aP0 {i:Nat}{x:Str}{pos' spos:Pos}{elt tg iter:Expr}{ifs:AN}{scope:Scope}{pos:Pos}{cl:List (Str×Addr)}{T N':AJ}{is:AD}{wi:TI}{g:TG}{tt:TT}{te:TE}(B:X.N.Nodup)(hx:X.N[i]? = some x)(p:X.env.scope.names.lookup x=some .local)
  (P:X.calm=true) (S:CScope X scope cl T is N') (hi:PI X tg iter wi) (hg:aO4 T.length g)
  (y:∀C ex s H,PG (cxC X N' scope cl C ex s H) tg g/\PIfs (cxC X N' scope cl C ex s H) ifs tt/\PE (cxC X N' scope cl C ex s H) elt te)
  (z:swapsWith (.ListComp elt [⟨tg,iter,ifs,0⟩] scope pos) (some (.Name x pos')) spos.line X.env=pure true:=by rfl)
  (hs:∀x,foldedSetIterable iter X.env x=pure x:=by intro _;rfl):PS X (.Assign [.Name x pos'] (.ListComp elt [⟨tg,iter,ifs,0⟩] scope pos) spos) (aV3 (bY3 wi T.length is g tt te) (G5 i)):=by
 refine⟨?_⟩;intro c s σ H D I h;rw[exec_Assign_Name_used _ _ _ _ z];refine Aa (wpAny_standAt (Aa ?_));show wpAny _ X.A (do let _ <- comprehension (.ListComp elt [⟨tg,iter,ifs,0⟩] scope pos) scope X.env _ (newList []) false (eval iter X.env) (some (assign (.Name x pos') X.env))) _ _ s;refine Aa (wpAny_mono (aY1 (use:=some (assign (.Name x pos') X.env)) (Qc:=λ_ U=>SP X c D .next U) P S hi hg y hs I h λk C j M ⟨⟨m4,w⟩,J,k1,m,k3,Y,k5⟩ q=>?_) (λ_ U hq=>Ae (Ae hq)) λ_ _ e=>e)
 show wpAny _ _ (assign (.Name x pos') X.env (.ref k)) _ _ _
 have R:Inv X c σ j M:=J M.heap (.refl _ _)
 refine wpAny_assign_Name (aY2 R B hx (.inl p) (v:=.ref k) rfl (λs5 Q ⟨a,sb,ha⟩=>?_) (.inr p))
 have F:a≠C:=by
  rcases ha with rfl | ha
  .exact m.symm
  .exact Y x a ha
 refine⟨m4,w.sameBut sb F.symm,λh' r=>⟨_,j,?_,q⟩⟩
 exact Q.turned (t':=s5.toks) (λb o y e=>(r.2 b y).trans e) k1 m (.inr k3) Y k5
end
end L2
namespace LV
open PySem L2
def _root_.L2.excO (x C:Addr):HO:=.ext λh=>∃o vs,h.get? x=some o/\o.cls=.ref C/\o.data=.fields vs
def _root_.L2.dEnt (x:AF×Addr×Value):DictEntry:=⟨reduceHash (Builtin.Tuple.tupleHashOf (x.1.map hashInt)),.ref x.2.1,x.2.2⟩
def _root_.L2.dicO (a:Addr)(kv:List (AF×Addr×V)):HO:=.ext λh=>∃xs:List (AF×Addr×Value),Paired (λp q=>p.1=q.1/\p.2.1=q.2.1/\RelV p.2.2 q.2.2) kv xs /\
 kv.length<=sizeLine/\(a==sysModules)=false/\∃o es ep,h.get? a=some o/\o.ExactDict/\o.data=.dict es ep/\es.toList=xs.map L2.dEnt/\(xs.map (·.1)).Nodup
inductive HM where
 | l (xs:List V) | x (a:Addr) (kv:List (AF×Addr×V))
def HM.ho:HM->HO
 | .l xs=>.lst xs
 | .x a kv=>L2.dicO a kv
theorem HM.nt {u:HM}{xs:List V}(h:u.ho=.tup xs):False:=by cases u <;> cases h
theorem HM.nf {u:HM}{o:Obj}{v:HO}(h:u.ho=.frz o v):False:=by cases u <;> cases h
def _root_.L2.excD (x C:Addr)(d:AL):HO:=.ext λh=>∃o vs,h.get? x=some o/\o.cls=.ref C/\o.data=.fields vs/\o.dict=d
theorem HM.nd {u:HM}{x C:Addr}{d:AL}(h:u.ho=L2.excD x C d):False:=by
 cases u with
 | l xs=>cases h
 | x a kv=>
  have e:=HO.ext.inj h
  have r:=congrFun e ⟨Array.replicate (x+1) {cls:=.ref C,data:=.fields #[],dict:=d},{}⟩
  have g:∀b o,(Heap.get? ⟨Array.replicate (x+1) {cls:=.ref C,data:=.fields #[],dict:=d},{}⟩ b)=some o->o={cls:=.ref C,data:=.fields #[],dict:=d}:=λb o q=>by
   unfold Heap.get? at q;dsimp only at q;rw[Array.getElem?_replicate]at q;by_cases z:b<x+1
   .rw[Ac z]at q;exact(Ab4 q).symm
   .rw[Ab z]at q;cases q
  have y:=r.mpr ⟨{cls:=.ref C,data:=.fields #[],dict:=d},#[],by unfold Heap.get?;dsimp only;rw[Array.getElem?_replicate,Ac (by lia)],rfl,rfl,rfl⟩
  obtain⟨_,_,_,_,o,j,k,h1,_,w,_⟩:=y;rw[g a o h1]at w;cases w
def bX4:PyData->Bool
 | .none | .bool _ | .int _ | .str _=>true
 | .tuple ds=>ds.all λd=>match d with | .int _=>true | _=>false
 | _=>false
def cK1 (K:Frag)(H:Hp)(v:V):PyData->Prop
 | .none=>v=.non
 | .bool b=>v=.bl b
 | .int i=>v=.int i
 | .str x=>v=.str x
 | .tuple ds=>∃(a:Addr) (l:AF),v=.ref a/\ds=l.map PyData.int/\SqT K H a (l.map V.int)
 | _=>False
def dC0 (kvs:List (AF×PyData)):List (PyData×PyData):=kvs.map λx=>(PyData.tuple (x.1.map PyData.int),x.2)
def dD (kvs:List (AF×PyData)):PyData:=if kvs.all (λx=>bX4 x.2) then .dict (dC0 kvs) else .dict [(.none,.none)]
def KvF (K:Frag)(H:Hp):List (AF×Addr×V)->List (AF×PyData)->Prop:=Paired λx y=>x.1=y.1/\SqT K H x.2.1 (x.1.map V.int)/\cK1 K H x.2.2 y.2
def DiF (K:Frag)(H:Hp):List (Int×Addr)->List (Int×AF)->Prop:=Paired λx y=>x.1=y.1/\SqT K H x.2 (y.2.map V.int)
def sV:PyData->Option V
 | .none=>some .non
 | .bool b=>some (.bl b)
 | .int i=>some (.int i)
 | .str x=>some (.str x)
 | _=>none
def cO3 (K:Frag)(H:Hp)(v:V):PyData->Prop
 | .tuple ds=>∃(a:Addr) (xs:List V),v=.ref a/\SqT K H a xs/\xs.map some=ds.map sV
 | d=>sV d=some v
def xfD (C:Addr)(fs:List (Str×PyData)):PyData:=.dict ((.int (C:Nat),.bool false)::fs.map λx=>(.str x.1,x.2))
def FdF (K:Frag)(H:Hp):List (Str×V)->List (Str×PyData)->Prop:=Paired λx y=>x.1=y.1/\cO3 K H x.2 y.2
def XdA (H:Hp)(vs:List (Str×V)):AL->Prop
 | none=>vs=[]
 | some dx=>H dx=some (.xd vs)
mutual
inductive Rep (K:Frag)(H:Hp):V->PyData->Prop
 | non:Rep K H .non .none
 | bl (b:Bool):Rep K H (.bl b) (.bool b)
 | int (i:Int):Rep K H (.int i) (.int i)
 | str (x:Str):Rep K H (.str x) (.str x)
 | tup {a:Addr} {xs:List V} {ds:AG}:SqT K H a xs->Reps K H xs ds->Rep K H (.ref a) (.tuple ds)
 | lst {a:Addr} {xs:List V} {ds:AG}:SqL K H a xs->Reps K H xs ds->Rep K H (.ref a) (.list ds)
 | exc {a C:Addr}:H a=some (L2.excO a C)->Rep K H (.ref a) (.dict [(.int (C:Nat),.none)])
 | ptr {a:Addr}:Rep K H (.ref a) (.dict [(.none,.none)])
 | adr {a:Addr}:Rep K H (.ref a) (.dict [(.int (a:Nat),.none),(.none,.none)])
 | exd {a C:Addr} {d:AL} {vs:List (Str×V)} {fs:List (Str×PyData)}:H a=some (L2.excD a C d)->XdA H vs d->FdF K H vs fs->Rep K H (.ref a) (.dict ((.int (C:Nat),.bool false)::fs.map λx=>(.str x.1,x.2)))
 | ins {a C dx:Addr} {fs:List (Str×Int)}:H a=some (.ins C dx (fs.map λx=>(x.1,V.int x.2)))->Rep K H (.ref a) (.dict ((.int (C:Nat),.bool true)::fs.map λx=>(.str x.1,.int x.2)))
 | dki {a:Addr} {kv:List (Int×Addr)} {kvs:List (Int×AF)}:H a=some (.dK (kv.map λx=>((Sum.inl x.1:L2.Key),V.ref x.2)))->DiF K H kv kvs->Rep K H (.ref a) (.dict ((.bool true,.none)::kvs.map λx=>(.int x.1,.tuple (x.2.map PyData.int))))
 | dic {a:Addr} {kv:List (AF×Addr×V)} {kvs:List (AF×PyData)} {ds:List (PyData×PyData)}:H a=some (L2.dicO a kv)->KvF K H kv kvs->ds=dC0 kvs->Rep K H (.ref a) (.dict ds)
inductive Reps (K:Frag)(H:Hp):List V->AG->Prop
 | nil:Reps K H [] []
 | cons {v:V} {d:PyData} {vs:List V} {ds:AG}:Rep K H v d->Reps K H vs ds->Reps K H (v::vs) (d::ds)
end
section
variable {K:Frag}{H H':Hp}
theorem _root_.L2.Same.rf (H:Hp):Same H H:=λ_ _ e=>e
theorem _root_.L2.Same.tr {H1 H2 H3:Hp}(a:Same H1 H2)(b:Same H2 H3):Same H1 H3:=λx o e=>b x o (a x o e)
theorem Y4 (h:Same H H'){a:Addr}{u:HO}(r:Rd H a u):Rd H' a u:=by
 rcases r with e | ⟨o,e⟩
 .exact .inl (h _ _ e)
 .exact .inr ⟨o,h _ _ e⟩
theorem E5 (h:Same H H'){a:Addr}{xs:List V}(r:SqT K H a xs):SqT K H' a xs:=r.imp (Y4 h) id
theorem R9 (h:Same H H'){a:Addr}{xs:List V}(r:SqL K H a xs):SqL K H' a xs:=r.imp (Y4 h) id
theorem cC0 (h:Same H H'){v:V}:∀{d:PyData},cK1 K H v d->cK1 K H' v d
 | .none,r | .bool _,r | .int _,r | .str _,r=>r
 | .tuple _,⟨a,l,e,y,s⟩=>⟨a,l,e,y,E5 h s⟩
 | .list _,r | .dict _,r=>r
theorem bJ6 (h:Same H H'){kv:List (AF×Addr×V)}{kvs:List (AF×PyData)}(r:KvF K H kv kvs):KvF K H' kv kvs:=by
 unfold KvF at *;induction r with
 | nil=>exact .nil
 | cons a _ e=>exact .cons ⟨a.1,E5 h a.2.1,cC0 h a.2.2⟩ e
theorem cJ3 (h:Same H H'){kv:List (Int×Addr)}{kvs:List (Int×AF)}(r:DiF K H kv kvs):DiF K H' kv kvs:=by
 unfold DiF at *;induction r with
 | nil=>exact .nil
 | cons a _ e=>exact .cons ⟨a.1,E5 h a.2⟩ e
theorem bZ7 (h:Same H H'){v:V}:∀{d:PyData},cO3 K H v d->cO3 K H' v d
 | .none,r | .bool _,r | .int _,r | .str _,r | .list _,r | .dict _,r=>r
 | .tuple _,⟨a,xs,e,s,y⟩=>⟨a,xs,e,E5 h s,y⟩
theorem bH5 (h:Same H H'){vs:List (Str×V)}{fs:List (Str×PyData)}(r:FdF K H vs fs):FdF K H' vs fs:=by
 unfold FdF at *;induction r with
 | nil=>exact .nil
 | cons a _ e=>exact .cons ⟨a.1,bZ7 h a.2⟩ e
theorem bK4 (h:Same H H'){vs:List (Str×V)}:∀{d:AL},XdA H vs d->XdA H' vs d
 | none,r=>r
 | some _,r=>h _ _ r
mutual
theorem bJ1 (h:Same H H'):∀(d:PyData) {v:V},Rep K H v d->Rep K H' v d
 | .none,_,r=>by cases r;exact .non
 | .bool _,_,r=>by cases r;exact .bl _
 | .int _,_,r=>by cases r;exact .int _
 | .str _,_,r=>by cases r;exact .str _
 | .tuple ds,_,r=>by cases r with | tup s rs=>exact .tup (E5 h s) (aC2 h ds rs)
 | .list ds,_,r=>by cases r with | lst s rs=>exact .lst (R9 h s) (aC2 h ds rs)
 | .dict _,_,r=>by cases r with | exc e=>exact .exc (h _ _ e) | ptr=>exact .ptr | adr=>exact .adr | exd e x r=>exact .exd (h _ _ e) (bK4 h x) (bH5 h r) | ins e=>exact .ins (h _ _ e) | dki e r=>exact .dki (h _ _ e) (cJ3 h r) | dic e r z=>exact .dic (h _ _ e) (bJ6 h r) z
theorem aC2 (h:Same H H'):∀(ds:AG) {vs:List V},Reps K H vs ds->Reps K H' vs ds
 | [],_,r=>by cases r;exact .nil
 | d::ds,_,r=>by cases r with | cons a b=>exact .cons (bJ1 h d a) (aC2 h ds b)
end
theorem Rep.mono {v:V}{d:PyData}(r:Rep K H v d)(h:Same H H'):Rep K H' v d:=bJ1 h d r
theorem Reps.mono {vs:List V}{ds:AG}(r:Reps K H vs ds)(h:Same H H'):Reps K H' vs ds:=aC2 h ds r
mutual
def imm:PyData->Bool
 | .none | .bool _ | .int _ | .str _=>true
 | .tuple ds=>K0 ds
 | .list _ | .dict _=>false
def K0:AG->Bool
 | []=>true
 | d::ds=>imm d&&K0 ds
end
mutual
theorem bW8 (h:∀a xs,Rd H a (.tup xs)->Rd H' a (.tup xs)):∀(d:PyData) {v:V},imm d=true->Rep K H v d->Rep K H' v d
 | .none,_,_,r=>by cases r;exact .non
 | .bool _,_,_,r=>by cases r;exact .bl _
 | .int _,_,_,r=>by cases r;exact .int _
 | .str _,_,_,r=>by cases r;exact .str _
 | .tuple ds,_,i,r=>by
  cases r with
  | tup s rs=>exact .tup (s.imp (h _ _) id) (aR2 h ds (by simpa[imm]using i) rs)
 | .list ds,_,i,r=>by simp[imm]at i
 | .dict _,_,i,r=>by simp[imm]at i
theorem aR2 (h:∀a xs,Rd H a (.tup xs)->Rd H' a (.tup xs)):∀(ds:AG) {vs:List V},K0 ds=true->Reps K H vs ds->Reps K H' vs ds
 | [],_,_,r=>by cases r;exact .nil
 | d::ds,_,i,r=>by
  have e:imm d=true/\K0 ds=true:=by simpa[K0]using i
  cases r with | cons a b=>exact .cons (bW8 h d e.1 a) (aR2 h ds e.2 b)
end
theorem Reps.length:∀{vs:List V} {ds:AG},Reps K H vs ds->vs.length=ds.length
 | _,[],r=>by cases r;rfl
 | _,d::ds,r=>by cases r with | cons a b=>simp[Reps.length b]
theorem Reps.get:∀{vs:List V} {ds:AG} {i:Nat} {v:V},Reps K H vs ds->vs[i]? = some v->∃d,ds[i]? = some d/\Rep K H v d
 | _,[],_,_,r,e=>by cases r;simp at e
 | _,d::ds,0,v,r,e=>by
  cases r with | cons a b=>simp at e;subst e;exact⟨d,rfl,a⟩
 | _,d::ds,i+1,v,r,e=>by
  cases r with
  | cons a b=>
   obtain⟨d',h1,h2⟩:=Reps.get (i:=i) (v:=v) b (by simpa using e)
   exact⟨d',by simpa using h1,h2⟩
theorem Reps.get':∀{vs:List V} {ds:AG} {i:Nat} {d:PyData},Reps K H vs ds->ds[i]? = some d->∃v,vs[i]? = some v/\Rep K H v d
 | _,[],_,_,r,e=>by simp at e
 | _,d::ds,0,v,r,e=>by
  cases r with | cons a b=>simp at e;subst e;exact⟨_,rfl,a⟩
 | _,d::ds,i+1,v,r,e=>by
  cases r with
  | cons a b=>
   obtain⟨d',h1,h2⟩:=Reps.get' (i:=i) b (by simpa using e)
   exact⟨d',by simpa using h1,h2⟩
theorem Reps.append:∀{vs us:List V} {ds es:AG},Reps K H vs ds->Reps K H us es->Reps K H (vs++us) (ds++es)
 | _,_,[],_,r,s=>by cases r;exact s
 | _,_,d::ds,_,r,s=>by cases r with | cons a b=>exact .cons a (Reps.append b s)
theorem Reps.drop:∀{vs:List V} {ds:AG} (n:Nat),Reps K H vs ds->Reps K H (vs.drop n) (ds.drop n)
 | _,_,0,r=>r
 | _,[],n+1,r=>by cases r;exact .nil
 | _,d::ds,n+1,r=>by cases r with | cons a b=>exact Reps.drop n b
theorem Reps.take:∀{vs:List V} {ds:AG} (n:Nat),Reps K H vs ds->Reps K H (vs.take n) (ds.take n)
 | _,_,0,r=>.nil
 | _,[],n+1,r=>by cases r;exact .nil
 | _,d::ds,n+1,r=>by cases r with | cons a b=>exact .cons a (Reps.take n b)
theorem Reps.set:∀{vs:List V} {ds:AG} (n:Nat) {v:V} {d:PyData},Reps K H vs ds->Rep K H v d->Reps K H (vs.set n v) (ds.set n d)
 | _,[],n,_,_,r,_=>by cases r;exact .nil
 | _,e::ds,0,_,_,r,s=>by cases r with | cons a b=>exact .cons s b
 | _,e::ds,n+1,_,_,r,s=>by cases r with | cons a b=>exact .cons a (Reps.set n b s)
theorem Reps.eraseIdx:∀{vs:List V} {ds:AG} (n:Nat),Reps K H vs ds->Reps K H (vs.eraseIdx n) (ds.eraseIdx n)
 | _,[],n,r=>by cases r;exact .nil
 | _,e::ds,0,r=>by cases r with | cons a b=>exact b
 | _,e::ds,n+1,r=>by cases r with | cons a b=>exact .cons a (Reps.eraseIdx n b)
theorem Reps.dropLast {vs:List V}{ds:AG}(r:Reps K H vs ds):Reps K H vs.dropLast ds.dropLast:=by
 rw[List.dropLast_eq_take,List.dropLast_eq_take,r.length];exact r.take _
theorem Reps.reverse:∀{vs:List V} {ds:AG},Reps K H vs ds->Reps K H vs.reverse ds.reverse
 | _,[],r=>by cases r;exact .nil
 | _,d::ds,r=>by
  cases r with
  | cons a b=>rw[List.reverse_cons,List.reverse_cons];exact(Reps.reverse b).append (.cons a .nil)
theorem aK1:∀(l:AF),Reps K H (l.map V.int) (l.map PyData.int)
 | []=>.nil
 | i::l=>.cons (.int i) (aK1 l)
theorem Reps.ints:∀{l:AF} {vs:List V},Reps K H vs (l.map PyData.int)->vs=l.map V.int
 | [],_,r=>by cases r;rfl
 | i::l,_,r=>by
  cases r with
  | cons a b=>cases a;rw[Reps.ints b];rfl
end
open Classical in
noncomputable def hid (S:Addr->Prop)(H:Hp):Hp:=λb=>if S b then none else H b
section
variable {S S':Addr->Prop}{H H':Hp}{b:Addr}{o:HO}
theorem hid_some:hid S H b=some o↔¬S b/\H b=some o:=by
 unfold hid;by_cases h:S b
 .rw[Ac h];exact⟨(λe=>nomatch e),λe=>absurd h e.1⟩
 .rw[Ab h];exact⟨λe=>⟨h,e⟩,λe=>e.2⟩
theorem U5:Same (hid S H) H:=λb o e=>(hid_some.mp e).2
theorem D5 (h:Same H H')(y:∀b,S' b->H b≠none->S b):Same (hid S H) (hid S' H'):=λb o e=>by
 obtain⟨a,c⟩:=hid_some.mp e;exact hid_some.mpr ⟨λz=>a (y b z (by rw[c];simp)),h b o c⟩
theorem K1 (h:Same H H'):Same (hid S H) (hid S H'):=D5 h λ_ z _=>z
theorem i7 (y:∀b,S b->∃u:HM,H b=some u.ho){a:Addr}{xs:List V}(r:Rd H a (.tup xs)):Rd (hid S H) a (.tup xs):=by
 have n:¬S a:=λz=>by
  obtain⟨w,e⟩:=y a z;rcases r with r | ⟨o,r⟩ <;> rw[e]at r <;> replace r:=Ab4 r
  .exact HM.nt r
  .exact HM.nf r
 rcases r with r | ⟨o,r⟩
 .exact .inl (hid_some.mpr ⟨n,r⟩)
 .exact .inr ⟨o,hid_some.mpr ⟨n,r⟩⟩
end
inductive OT where
 | leaf (d:PyData) | tup (ts:List OT) | lst (ts:List OT) | dic (kvs:List (AF×PyData))
mutual
def OT.data:OT->PyData
 | .leaf d=>d
 | .tup ts=>.tuple (OT.datas ts)
 | .lst ts=>.list (OT.datas ts)
 | .dic kvs=>dD kvs
def OT.datas:List OT->AG
 | []=>[]
 | t::ts=>t.data::OT.datas ts
end
mutual
/-- v is the tree t;L: its lists -/
inductive Dp (K:Frag)(Z H:Hp):V->OT->AM->Prop
 | leaf {v:V} {d:PyData}:Rep K Z v d->Dp K Z H v (.leaf d) []
 | tup {a:Addr} {xs:List V} {ts:List OT} {L:AM}:SqT K H a xs->Dps K Z H xs ts L->Dp K Z H (.ref a) (.tup ts) L
 | lst {a:Addr} {xs:List V} {ts:List OT} {L:AM}:H a=some (.lst xs)->Dps K Z H xs ts L->Dp K Z H (.ref a) (.lst ts) (a::L)
 | dic {a:Addr} {kv:List (AF×Addr×V)} {kvs:List (AF×PyData)}:H a=some (L2.dicO a kv)->kv.map (·.1)=kvs.map (·.1)->Reps K Z (kv.map λx=>V.ref x.2.1) (kvs.map λx=>PyData.tuple (x.1.map PyData.int))->Reps K Z (kv.map (·.2.2)) (kvs.map (·.2))->Dp K Z H (.ref a) (.dic kvs) [a]
inductive Dps (K:Frag)(Z H:Hp):List V->List OT->AM->Prop
 | nil:Dps K Z H [] [] []
 | cons {v:V} {t:OT} {vs:List V} {ts:List OT} {L L':AM}:Dp K Z H v t L->Dps K Z H vs ts L'->Dps K Z H (v::vs) (t::ts) (L++L')
end
section
variable {K:Frag}{Z Z' H H':Hp}
mutual
/-- only its lists and what is below count -/
theorem aB0 (y:Same Z Z')(w:∀a xs,Rd H a (.tup xs)->Rd H' a (.tup xs)):∀(t:OT) {v:V} {L:AM},(∀b∈L,H' b=H b)->Dp K Z H v t L->Dp K Z' H' v t L
 | .leaf d,_,_,_,r=>by cases r with | leaf r=>exact .leaf (r.mono y)
 | .tup ts,_,_,e,r=>by cases r with | tup s r=>exact .tup (s.imp (w _ _) id) (a9 y w ts e r)
 | .lst ts,_,_,e,r=>by
  cases r with
  | lst s r=>exact .lst (by rw[e _ (by simp)];exact s) (a9 y w ts (λb h=>e b (by simp[h])) r)
 | .dic kvs,_,_,e,r=>by
  cases r with
  | dic s k z j=>exact .dic (by rw[e _ (by simp)];exact s) k (z.mono y) (j.mono y)
theorem a9 (y:Same Z Z')(e:∀a xs,Rd H a (.tup xs)->Rd H' a (.tup xs)):∀(ts:List OT) {vs:List V} {L:AM},(∀b∈L,H' b=H b)->Dps K Z H vs ts L->Dps K Z' H' vs ts L
 | [],_,_,_,r=>by cases r;exact .nil
 | t::ts,_,_,hl,r=>by
  cases r with
  | cons a b=>exact .cons (aB0 y e t (λb h=>hl b (by simp[h])) a) (a9 y e ts (λb h=>hl b (by simp[h])) b)
end
mutual
theorem aA4:∀(t:OT) {v:V} {L:AM},Dp K Z H v t L->∀b∈L,∃u:HM,H b=some u.ho
 | .leaf d,_,_,r=>by cases r with | leaf r=>intro b h;simp at h
 | .tup ts,_,_,r=>by cases r with | tup s r=>exact Y9 ts r
 | .lst ts,_,_,r=>by
  cases r with
  | lst s r=>
   intro b h;rcases Aa1.mp h with rfl | h
   .exact⟨.l _,s⟩
   .exact Y9 ts r b h
 | .dic kvs,_,_,r=>by
  cases r with
  | dic s k e y=>
   intro b h;rw[Ad8.mp h];exact⟨.x _ _,s⟩
theorem Y9:∀(ts:List OT) {vs:List V} {L:AM},Dps K Z H vs ts L->∀b∈L,∃u:HM,H b=some u.ho
 | [],_,_,r=>by cases r;intro b h;simp at h
 | t::ts,_,_,r=>by
  cases r with
  | cons a b=>
   intro c h;rcases Aa0.mp h with h | h
   .exact aA4 t a c h
   .exact Y9 ts b c h
end
theorem bI3 {H:Hp}{v:V}:∀{d:PyData},bX4 d=true->Rep K H v d->cK1 K H v d
 | .none,_,r=>by cases r;rfl
 | .bool _,_,r=>by cases r;rfl
 | .int _,_,r=>by cases r;rfl
 | .str _,_,r=>by cases r;rfl
 | .list _,f,_=>by cases f
 | .dict _,f,_=>by cases f
 | .tuple ds,f,r=>by
  cases r with
  | @tup a xs _ s rs=>
   have w:∀(ds:AG) (xs:List V),(ds.all λd=>match d with | .int _=>true | _=>false)=true->Reps K H xs ds->∃l:AF,ds=l.map PyData.int/\xs=l.map V.int:=λds=>by
    induction ds with
    | nil=>intro xs _ r;cases r;exact⟨[],rfl,rfl⟩
    | cons d ds z=>
     intro xs f r;rw[List.all_cons,Aj]at f;cases r with
     | cons a b=>
      obtain⟨l,e,y⟩:=z _ f.2 b;cases d with
      | int i=>cases a;exact⟨i::l,by rw[e];rfl,by rw[y];rfl⟩
      | _=>cases f.1
   obtain⟨l,e,y⟩:=w ds xs f rs;exact⟨a,l,rfl,e,by rw[<- y];exact s⟩
theorem cL2 {H:Hp}:∀{kv:List (AF×Addr×V)} {kvs:List (AF×PyData)},kvs.all (λx=>bX4 x.2)=true->kv.map (·.1)=kvs.map (·.1)->Reps K H (kv.map λx=>V.ref x.2.1) (kvs.map λx=>PyData.tuple (x.1.map PyData.int))->Reps K H (kv.map (·.2.2)) (kvs.map (·.2))->KvF K H kv kvs
 | [],[],_,_,_,_=>.nil
 | [],_::_,_,e,_,_=>by simp at e
 | _::_,[],_,e,_,_=>by simp at e
 | x::kv,y::kvs,f,e,r1,r2=>by
  simp only[Ac7,Cb]at e r1 r2;rw[List.all_cons,Aj]at f;cases r1 with
  | cons w k=>
   cases r2 with
   | cons r j=>
    refine .cons ⟨e.1,?_,bI3 f.1 r⟩ (cL2 f.2 e.2 k j);have z:cK1 K H (.ref x.2.1) (PyData.tuple (y.1.map PyData.int)):=bI3 (by simp[bX4,List.all_map,Function.comp_def]) w
    obtain⟨a,l,h1,p,q⟩:=z;cases h1
    have:y.1=l:=by
     have inj:∀(u v:AF),u.map PyData.int=v.map PyData.int->u=v:=λu=>by
      induction u with
      | nil=>intro v h;cases v <;> simp at h ⊢
      | cons c u s=>intro v h;cases v with
       | nil=>simp at h
       | cons m v=>simp at h;rw[h.1,s v h.2]
     exact inj _ _ p
    rw[e.1,this];exact q
mutual
/-- the tree is a datum,where one sees its lists -/
theorem bC7 (z:Same Z H)(w:∀a xs,Rd H a (.tup xs)->Rd H' a (.tup xs))(e:Same Z H'):∀(t:OT) {v:V} {L:AM},(∀b∈L,H' b=H b)->Dp K Z H v t L->Rep K H' v t.data
 | .leaf d,_,_,_,r=>by cases r with | leaf r=>exact r.mono e
 | .tup ts,_,_,y,r=>by
  cases r with
  | tup s r=>exact .tup (s.imp (w _ _) id) (bF5 z w e ts y r)
 | .lst ts,_,_,y,r=>by
  cases r with
  | lst s r=>exact .lst (SqL.of (by rw[y _ (by simp)];exact s)) (bF5 z w e ts (λb h=>y b (by simp[h])) r)
 | .dic kvs,_,_,y,r=>by
  cases r with
  | dic s k j c=>
   show Rep K H' _ (dD kvs)
   unfold dD;split
   .rename_i f;exact .dic (by rw[y _ (by simp)];exact s) (bJ6 e (cL2 f k j c)) rfl
   .exact .ptr
theorem bF5 (w:Same Z H)(y:∀a xs,Rd H a (.tup xs)->Rd H' a (.tup xs))(e:Same Z H'):∀(ts:List OT) {vs:List V} {L:AM},(∀b∈L,H' b=H b)->Dps K Z H vs ts L->Reps K H' vs (OT.datas ts)
 | [],_,_,_,r=>by cases r;exact .nil
 | t::ts,_,_,hl,r=>by
  cases r with
  | cons a b=>exact .cons (bC7 w y e t (λb h=>hl b (by simp[h])) a) (bF5 w y e ts (λb h=>hl b (by simp[h])) b)
end
theorem Dp.mono {t:OT}{v:V}{L:AM}(r:Dp K Z H v t L)(w:Same Z Z')(h:Same H H'):Dp K Z' H' v t L:=
 aB0 w (λ_ _=>Y4 h) t (λb y=>by obtain⟨xs,e⟩:=aA4 t r b y;rw[e];exact h _ _ e) r
end
inductive Sl where
 | no | val (d:PyData) | own (ds:AG) | bor (d:PyData) | tr (t:OT)
def Sl.os:Sl->Bool
 | .own _=>true
 | .tr _=>true
 | _=>false
def D4 (ρ:List Sl)(o:Nat->AM)(S:Addr->Prop)(b:Addr):Prop:=S b\/∃(i:Nat) (x:Sl),ρ[i]? = some x/\x.os=true/\b∈o i
structure Env (K:Frag)(S:Addr->Prop)(B H:Hp)(σ:St)(ρ:List Sl)(o:Nat->AM):Prop where
 len:σ.length=ρ.length
 base:Same B H
 sl:∀b,S b->∃u:HM,B b=some u.ho
 new:∀(i:Nat) (x:Sl),ρ[i]? = some x->x.os=true->∀b∈o i,B b=none
 inj:∀(i j:Nat) (x y:Sl),ρ[i]? = some x->ρ[j]? = some y->x.os=true->y.os=true->∀b,b∈o i->b∈o j->i=j
 own:∀(i:Nat) (ds:AG),ρ[i]? = some (.own ds)->∃p,o i=[p]/\σ[i]? = some (some (.ref p))/\∃xs,H p=some (.lst xs)/\Reps K (hid (D4 ρ o S) H) xs ds
 val:∀(i:Nat) (d:PyData),ρ[i]? = some (.val d)->∃v,σ[i]? = some (some v)/\Rep K (hid (D4 ρ o S) H) v d
 bor:∀(i:Nat) (d:PyData),ρ[i]? = some (.bor d)->∃v,σ[i]? = some (some v)/\Rep K H v d
 tr:∀(i:Nat) (t:OT),ρ[i]? = some (.tr t)->(o i).Nodup/\∃v,σ[i]? = some (some v)/\Dp K (hid (D4 ρ o S) H) H v t (o i)
section
variable {K:Frag}{S:Addr->Prop}{B H H':Hp}{σ:St}{ρ:List Sl}{o:Nat->AM}
theorem Env.grow (e:Env K S B H σ ρ o)(h:Same H H'):Env K S B H' σ ρ o:=
 ⟨e.len,L2.Same.tr e.base h,e.sl,e.new,e.inj,λi ds z=>by
  obtain⟨p,y,a,xs,b,c⟩:=e.own i ds z;exact⟨p,y,a,xs,h _ _ b,c.mono (K1 h)⟩,λi d z=>by
  obtain⟨v,a,b⟩:=e.val i d z;exact⟨v,a,b.mono (K1 h)⟩,λi d z=>by
  obtain⟨v,a,b⟩:=e.bor i d z;exact⟨v,a,b.mono h⟩,λi t z=>by
  obtain⟨n,v,a,b⟩:=e.tr i t z;exact⟨n,v,a,b.mono (K1 h) h⟩⟩
theorem Env.lists (e:Env K S B H σ ρ o):∀b,D4 ρ o S b->∃u:HM,H b=some u.ho:=λb z=>by
 rcases z with z | ⟨i,x,z,w,y⟩
 .obtain⟨xs,q⟩:=e.sl b z;exact⟨xs,e.base _ _ q⟩
 .cases x with
  | own ds=>
   obtain⟨p,r,_,xs,q,_⟩:=e.own i ds z;rw[r]at y;exact⟨.l xs,by rw[Ad8.mp y];exact q⟩
  | tr t=>
   obtain⟨_,v,_,q⟩:=e.tr i t z;exact aA4 t q b y
  | _=>cases w
theorem Env.imm (e:Env K S B H σ ρ o){v:V}{d:PyData}(i:imm d=true)(r:Rep K H v d):Rep K (hid (D4 ρ o S) H) v d:=
 bW8 (λ_ _ q=>i7 e.lists q) d i r
def cM6 (ρ:List Sl)(o:Nat->AM)(b:Addr):Prop:=∃(i:Nat) (x:Sl),ρ[i]? = some x/\x.os=true/\b∈o i
theorem Env.rebase (e:Env K S B H σ ρ o):Env K S (hid (cM6 ρ o) H) H σ ρ o/\Same B (hid (cM6 ρ o) H):=by
 have s:Same B (hid (cM6 ρ o) H):=λb x q=>
  hid_some.mpr ⟨(λ⟨i,y,z,k,w⟩=>by rw[e.new i y z k b w]at q;cases q),e.base b x q⟩
 refine⟨⟨e.len,U5,λb z=>?_,λi x z r b w=>?_,e.inj,e.own,e.val,e.bor,e.tr⟩,s⟩
 .obtain⟨xs,q⟩:=e.sl b z;exact⟨xs,s _ _ q⟩
 .unfold hid;exact Ac ⟨i,x,z,r,w⟩
end
noncomputable def vw (m:Bool)(S:Addr->Prop)(H:Hp):Hp:=match m with | true=>hid S H | false=>H
def E (K:Frag)(m:Bool)(t:TE)(ρ:List Sl)(d:PyData):Prop:=
 ∀(S:Addr->Prop) (B:Hp) (σ:St) (H:Hp) (o:Nat->AM),Env K S B H σ ρ o->∀Q:VK,(∀v H',Same H H'->Rep K (vw m (D4 ρ o S) H') v d->Q v H')->t σ H Q
def EF (K:Frag)(t:TE)(ρ:List Sl)(ds:AG):Prop:=
 ∀(S:Addr->Prop) (B:Hp) (σ:St) (H:Hp) (o:Nat->AM),Env K S B H σ ρ o->∀Q:VK,
  (∀p xs H',Same H H'->H p=none->H' p=some (.lst xs)->Reps K (hid (λb=>D4 ρ o S b\/b=p) H') xs ds->Q (.ref p) H')->t σ H Q
def T (K:Frag)(t:TT)(ρ:List Sl)(b:Bool):Prop:=
 ∀(S:Addr->Prop) (B:Hp) (σ:St) (H:Hp) (o:Nat->AM),Env K S B H σ ρ o->∀Q:Bool->Hp->Prop,(∀H',Same H H'->Q b H')->t σ H Q
def A (K:Frag)(m:Bool)(t:TA)(ρ:List Sl)(ds:AG):Prop:=
 ∀(S:Addr->Prop) (B:Hp) (σ:St) (H:Hp) (o:Nat->AM),Env K S B H σ ρ o->∀Q:List V->Hp->Prop,(∀vs H',Same H H'->Reps K (vw m (D4 ρ o S) H') vs ds->Q vs H')->t σ H Q
structure Wk (K:Frag)(Z:Hp)(J:It)(ds:AG):Prop where
 stop:∀i H,Same Z H->ds.length<=i->J.stop i H
 go:∀i H d,Same Z H->ds[i]? = some d->J.go i H
 yld:∀i H d x H',Same Z H->ds[i]? = some d->J.yld i H x H'->Same H H'/\∀S:Addr->Prop,(∀b,S b->Z b=none/\H b≠none)->Rep K (hid S H') x d
def I (K:Frag)(m:Bool)(wi:TI)(ρ:List Sl)(ds:AG):Prop:=
 ∀(S:Addr->Prop) (B:Hp) (σ:St) (H:Hp) (o:Nat->AM),Env K S B H σ ρ o->∀R:It->Hp->Prop,(∀J H',Same H H'->Wk K (vw m (D4 ρ o S) H') J ds->R J H')->wi σ H R
def G (K:Frag)(m:Bool)(g:TG)(d:PyData)(ρ ρ':List Sl):Prop:=(∀(o:Nat->AM) (S:Addr->Prop) (b:Addr),D4 ρ' o S b->D4 ρ o S b) /\
 ∀(S:Addr->Prop) (B:Hp) (σ:St) (H:Hp) (o:Nat->AM),Env K S B H σ ρ o->∀v,Rep K (vw m (D4 ρ o S) H) v d->∀Q:St->Hp->Prop,(∀σ',Env K S B H σ' ρ' o->Q σ' H)->g v σ H Q
def Gs (K:Frag)(m:Bool)(g:TGs)(ds:AG)(ρ ρ':List Sl):Prop:=(∀(o:Nat->AM) (S:Addr->Prop) (b:Addr),D4 ρ' o S b->D4 ρ o S b) /\
 ∀(S:Addr->Prop) (B:Hp) (σ:St) (H:Hp) (o:Nat->AM),Env K S B H σ ρ o->∀vs,Reps K (vw m (D4 ρ o S) H) vs ds->∀Q:St->Hp->Prop,(∀σ',Env K S B H σ' ρ' o->Q σ' H)->g vs σ H Q
structure AE where
 nx:List Sl->Prop
 rt:PyData->Prop:=λ_=>False
 rl:AG->Prop:=λ_=>False
 bk:List Sl->Prop:=λ_=>False
 ct:List Sl->Prop:=λ_=>False
structure Sat (K:Frag)(S:Addr->Prop)(B:Hp)(R:AE)(D:aI9):Prop where
 nx:∀ρ' σ' H' o',Env K S B H' σ' ρ' o'->R.nx ρ'->D.nx σ' H'
 rt:∀v d H',Same B H'->Rep K (hid S H') v d->R.rt d->D.rt v H'
 rl:∀p xs ds H',Same B H'->B p=none->H' p=some (.lst xs)->Reps K (hid (λb=>S b\/b=p) H') xs ds->R.rl ds->D.rt (.ref p) H'
 bk:∀ρ' σ' H' o',Env K S B H' σ' ρ' o'->R.bk ρ'->D.bk σ' H'
 ct:∀ρ' σ' H' o',Env K S B H' σ' ρ' o'->R.ct ρ'->D.ct σ' H'
def W (K:Frag)(t:TS)(ρ:List Sl)(R:AE):Prop:=
 ∀(S:Addr->Prop) (B:Hp) (D:aI9) (σ:St) (H:Hp) (o:Nat->AM),Env K S B H σ ρ o->Sat K S B R D->t D σ H
section
variable {K:Frag}{ρ ρ' ρ1:List Sl}{m:Bool}{t ta tb tc:TE}{d d':PyData}{ds es:AG}
theorem aS6 {S:Addr->Prop}{H:Hp}:Same (vw m S H) H:=by cases m;exact L2.Same.rf _;exact U5
theorem bC1 {S:Addr->Prop}{H H':Hp}(h:Same H H'):Same (vw m S H) (vw m S H'):=by cases m;exact h;exact K1 h
theorem E.bor (h:E K true t ρ d):E K m t ρ d:=λS B σ H o I Q q=>h S B σ H o I Q λv e s r=>q v e s (by cases m;exact r.mono U5;exact r)
theorem E.imm (h:E K m t ρ d)(i:imm d=true:=by rfl):E K true t ρ d:=λS B σ H o I Q q=>h S B σ H o I Q λv e s r=>q v e s ((I.grow s).imm i (r.mono aS6))
theorem EF.e' (h:EF K t ρ ds):E K m t ρ (.list ds):=E.bor λS B σ H o I Q q=>h S B σ H o I Q λp xs w s n e r=>q _ _ s
 (.lst (SqL.of (hid_some.mpr ⟨(λz=>by obtain⟨k,y⟩:=I.lists p z;rw[n]at y;cases y),e⟩)) (r.mono (D5 (L2.Same.rf _) λb z _=>.inl z)))
theorem A4 {i:Nat}(h:ρ[i]? = some (.val d)):E K m (E1 i) ρ d:=E.bor λS B σ H o I Q q=>by
 obtain⟨v,a,b⟩:=I.val i d h;exact⟨v,a,q v H (L2.Same.rf _) b⟩
theorem G7 {i:Nat}(h:ρ[i]? = some (.own ds)):E K false (E1 i) ρ (.list ds):=λS B σ H o I Q q=>by
 obtain⟨p,e,a,xs,b,c⟩:=I.own i ds h;exact⟨_,a,q _ H (L2.Same.rf _) (.lst (SqL.of b) (c.mono U5))⟩
theorem Y1 {i:Nat}(h:ρ[i]? = some (.bor d)):E K false (E1 i) ρ d:=λS B σ H o I Q q=>by
 obtain⟨v,a,b⟩:=I.bor i d h;exact⟨v,a,q v H (L2.Same.rf _) b⟩
theorem cQ0 {v:V}(h:∀H,Rep K H v d):E K m (tC v) ρ d:=λS B σ H o I Q q=>q v H (L2.Same.rf _) (h _)
theorem A8 {i:Int}:E K m (tC (.int i)) ρ (.int i):=cQ0 λ_=>.int i
theorem bS8 {b:Bool}:E K m (tC (.bl b)) ρ (.bool b):=cQ0 λ_=>.bl b
theorem cA5 {r:R2}(z k:Bool)(c:E K z ta ρ d)(p:E K k tb ρ d'){f:PyData}
  (Y:∀(S:Addr->Prop) (H:Hp) (x y:V) (Q:VK),(∀b,S b->∃u:HM,H b=some u.ho)->Rep K (vw z S H) x d->Rep K (vw k S H) y d'->(∀v H',Same H H'->Rep K (vw m S H') v f->Q v H')->r x y H Q):E K m (tOp r ta tb) ρ f:=
 λS B σ H o I Q q=>c S B σ H o I _ λx H1 e X=>p S B σ H1 o (I.grow e) _ λy j w U=>
  Y (D4 ρ o S) j x y Q ((I.grow e).grow w).lists (X.mono (bC1 w)) U λv H' s r=>q v H' (L2.Same.tr e (L2.Same.tr w s)) r
theorem bL7 {r:R2}{i j:Int}{f:PyData}(e:E K false ta ρ (.int i))(w:E K false tb ρ (.int j))(z:∀(H:Hp) (Q:VK),(∀v,(∀H,Rep K H v f)->Q v H)->r (.int i) (.int j) H Q):E K m (tOp r ta tb) ρ f:=
 cA5 false false e w λS H x y Q _ k c q=>by
  cases k;cases c
  exact z H Q λv r=>q v H (L2.Same.rf _) (r _)
theorem L9 {g:Int->Int->Int}{i j:Int}(e:E K false ta ρ (.int i))(y:E K false tb ρ (.int j)):E K m (tOp (rI0 λi j=>.int (g i j)) ta tb) ρ (.int (g i j)):=
 bL7 e y λH Q q=>⟨i,j,rfl,rfl,q _ λ_=>.int _⟩
theorem e_i {C:Int->Int->Prop}{g:Int->Int->Int}{i j:Int}(e:E K false ta ρ (.int i))(y:E K false tb ρ (.int j))(w:C i j):E K m (tOp (rI C λi j=>.int (g i j)) ta tb) ρ (.int (g i j)):=
 bL7 e y λH Q q=>⟨i,j,rfl,rfl,w,q _ λ_=>.int _⟩
theorem y7 {g:Int->Int->Bool}{i j:Int}(e:E K false ta ρ (.int i))(y:E K false tb ρ (.int j)):E K m (tOp (rI0 λi j=>.bl (g i j)) ta tb) ρ (.bool (g i j)):=
 bL7 e y λH Q q=>⟨i,j,rfl,rfl,q _ λ_=>.bl _⟩
end
end LV
namespace LV
open PySem L2
section
variable {K:Frag}{ρ ρ' ρ1:List Sl}{m m':Bool}{t ta tb tc:TE}{d d':PyData}{ds es:AG}
theorem cN5 {H:Hp}{xs:List V}{i:Int}(r:Reps K H xs ds)(e:atI ds i=some d):∃v,atI xs i=some v/\Rep K H v d:=by
 unfold atI at e ⊢;rw[r.length];cases h:ixN ds.length i with
 | none=>rw[h]at e;cases e
 | some j=>rw[h]at e;exact r.get' (by simpa using e)
def sq:PyData->Option (AG)
 | .list ds=>some ds
 | .tuple ds=>some ds
 | _=>none
theorem F6 {i:Int}(z:E K m ta ρ d)(k:E K false tb ρ (.int i))(w:sq d=some ds)(h:atI ds i=some d'):E K m (tOp (rIx K) ta tb) ρ d':=
 cA5 m false z k λS H x y Q _ j c q=>by
  cases c;cases j with
  | lst s r=>
   cases w
   obtain⟨v,h1,e⟩:=cN5 r h;exact .inl ⟨_,_,i,v,rfl,rfl,R9 aS6 s,h1,q v H (L2.Same.rf _) e⟩
  | tup s r=>
   cases w
   obtain⟨v,h1,e⟩:=cN5 r h;exact .inr (.inl ⟨_,_,i,v,rfl,rfl,E5 aS6 s,h1,q v H (L2.Same.rf _) e⟩)
  | _=>cases w
theorem M6 {α:Type}{xs:List α}{i:Int}{v:α}(n:Nat)(e:i=n)(h:xs[n]? = some v):atI xs i=some v:=by
 subst e;unfold atI ixN
 have:=(Ab0.mp h).1
 rw[Ac (by lia),Ac (by lia)]
 simpa using h
theorem aN9 {α:Type}{xs:List α}{v:α}:atI (xs++[v]) (-1)=some v:=by
 unfold atI ixN;rw[Ab (by lia),Ac (by simp;lia)]
 have:((-1:Int)+((xs++[v]).length:Nat)).toNat=xs.length:=by simp;lia
 rw[this];simp
theorem A7:A K m O1 ρ []:=λS B σ H o I Q q=>q [] H (L2.Same.rf _) .nil
theorem A3 {tr:TA}(z:E K m ta ρ d)(r:A K m tr ρ ds):A K m (C0 ta tr) ρ (d::ds):=λS B σ H o I Q q=>
 z S B σ H o I _ λx H1 e k=>r S B σ H1 o (I.grow e) _ λxs w y rs=>q _ w (L2.Same.tr e y) (.cons (k.mono (bC1 y)) rs)
theorem C9 {H:Hp}{p:Addr}{o:HO}(h:H p=none):Same H (upd H p o):=λb x e=>by
 have:b≠p:=λz=>by rw[z,h]at e;cases e
 rw[B8 this];exact e
theorem M3 {t:TA}(h:A K m t ρ ds)(w:ds.length<=sizeLine:=by first | decide | (unfold sizeLine;simp)):E K m (aM6 t) ρ (.tuple ds):=λS B σ H o I Q q=>h S B σ H o I _ λxs H1 e rs=>⟨by rw[rs.length];exact w,λp hp=>by
 have g:=C9 (o:=.tup xs) hp
 refine q _ _ (L2.Same.tr e g) (.tup (.inl (.inl ?_)) (rs.mono (bC1 g)));cases m with
 | false=>exact C2
 | true=>exact hid_some.mpr ⟨(λz=>by obtain⟨r,y⟩:=(I.grow e).lists p z;rw[hp]at y;cases y),C2⟩⟩
theorem aW3 {S:Addr->Prop}{H:Hp}{p:Addr}{xs ys:List V}(y:∀b,S b->∃u:HM,H b=some u.ho)(hp:H p=none)(r:Reps K (hid S H) xs ds):Reps K (hid (λb=>S b\/b=p) (upd H p (.lst ys))) xs ds:=
 r.mono (D5 (C9 hp) λb z n=>z.elim id λe=>absurd (by rw[e];exact hp) n)
theorem F5 {t:TA}(h:A K true t ρ ds)(w:ds.length<=sizeLine:=by first | decide | (unfold sizeLine;simp)):EF K (dJ7 t) ρ ds:=λS B σ H o I Q q=>h S B σ H o I _ λxs H1 y rs=>⟨by rw[rs.length];exact w,λp hp=>
 q p xs _ (L2.Same.tr y (C9 hp)) (by cases e:H p with | none=>rfl | some x=>rw[y _ _ e]at hp;cases hp) C2 (aW3 (I.grow y).lists hp rs)⟩
def spV (K:Frag)(pre:AG->PyData->Prop):Sp:=λvs H Q _=>∃(ds:AG) (S:Addr->Prop) (d:PyData),(∀b,S b->∃u:HM,H b=some u.ho)/\Reps K (hid S H) vs ds/\pre ds d /\
 ∀v H',Same H H'->Rep K (hid S H') v d->Q v H'
def spL (K:Frag)(pre:AG->AG->Prop):Sp:=λvs H Q _=>∃(ds:AG) (S:Addr->Prop) (es:AG),(∀b,S b->∃u:HM,H b=some u.ho)/\Reps K (hid S H) vs ds/\pre ds es /\
 ∀p xs H',Same H H'->H p=none->H' p=some (.lst xs)->Reps K (hid (λb=>S b\/b=p) H') xs es->Q (.ref p) H'
theorem cM1 {H:Hp}:hid (λ_=>False) H=H:=by funext b;unfold hid;exact Ab id
theorem H9 {pre:AG->PyData->Prop}{t:TA}{X:XK}(w:A K true t ρ ds)(hp:pre ds d):E K m (X9 (spV K pre) [] X t) ρ d:=E.bor λS B σ H o I Q q=>
 w S B σ H o I _ λvs H1 e rs=>⟨ds,D4 ρ o S,d,(I.grow e).lists,by rw[Bj];exact rs,hp,λv y s r=>q v y (L2.Same.tr e s) r⟩
theorem S4 {H H1:Hp}{p:Addr}(s:Same H H1)(h:H1 p=none):H p=none:=by
 cases e:H p with
 | none=>rfl
 | some x=>rw[s _ _ e]at h;cases h
theorem aB1 {pre:AG->AG->Prop}{t:TA}{X:XK}(z:A K true t ρ ds)(hp:pre ds es):EF K (X9 (spL K pre) [] X t) ρ es:=λS B σ H o I Q q=>
 z S B σ H o I _ λvs H1 y rs=>⟨ds,D4 ρ o S,es,(I.grow y).lists,by rw[Bj];exact rs,hp,λp xs w s n e r=>q p xs w (L2.Same.tr y s) (S4 y n) e r⟩
theorem J8 {b:Bool}(h:E K false t ρ (.bool b)):T K (bU3 t) ρ b:=λS B σ H o I Q q=>h S B σ H o I _ λv e s r=>by cases r;exact⟨b,rfl,q e s⟩
theorem t_b {b:Bool}(h:E K false t ρ (.bool b)):T K (tB t) ρ b:=λS B σ H o I Q q=>h S B σ H o I _ λv e s r=>by cases r;exact⟨b,rfl,q e s⟩
theorem cF7 {u w:TT}{a b:Bool}(h:T K u ρ a)(h':a=true->T K w ρ b):T K (dP9 u w) ρ (a&&b):=λS B σ H o I Q q=>h S B σ H o I _ λH1 e=>by
 cases a with
 | false=>exact q H1 e
 | true=>exact h' rfl S B σ H1 o (I.grow e) _ λy z=>q y (L2.Same.tr e z)
theorem dH3 {u w:TT}{a b:Bool}(h:T K u ρ a)(h':a=false->T K w ρ b):T K (tOr u w) ρ (a||b):=λS B σ H o I Q q=>h S B σ H o I _ λH1 e=>by
 cases a with
 | true=>exact q H1 e
 | false=>exact h' rfl S B σ H1 o (I.grow e) _ λy z=>q y (L2.Same.tr e z)
theorem aL8 {u:TT}{a:Bool}(h:T K u ρ a):T K (dO7 u) ρ (!a):=λS B σ H o I Q q=>h S B σ H o I _ q
theorem cL4 {a:Bool}{b:Bool}(h:E K false ta ρ (.bool a))(h':a=true->E K false tb ρ (.bool b)):E K m (cZ6 ta tb) ρ (.bool (a&&b)):=E.bor (E.imm (m:=false) λS B σ H o I Q q=>h S B σ H o I _ λv H1 e r=>by
 cases r
 refine⟨a,rfl,?_⟩;cases a with
 | false=>exact q _ H1 e (.bl _)
 | true=>exact h' rfl S B σ H1 o (I.grow e) _ λv y w r=>q v y (L2.Same.tr e w) r)
theorem dQ7 {a:Bool}{b:Bool}(h:E K false ta ρ (.bool a))(h':a=false->E K false tb ρ (.bool b)):E K m (dN1 ta tb) ρ (.bool (a||b)):=E.bor (E.imm (m:=false) λS B σ H o I Q q=>h S B σ H o I _ λv H1 e r=>by
 cases r
 refine⟨a,rfl,?_⟩;cases a with
 | true=>exact q _ H1 e (.bl _)
 | false=>exact h' rfl S B σ H1 o (I.grow e) _ λv y w r=>q v y (L2.Same.tr e w) r)
theorem dN8 {a:Bool}(h:E K false ta ρ (.bool a)):E K m (dB0 ta) ρ (.bool (!a)):=E.bor (E.imm (m:=false) λS B σ H o I Q q=>h S B σ H o I _ λv H1 e r=>by
 cases r
 exact⟨a,rfl,q _ H1 e (.bl _)⟩)
theorem dM6 {u:TT}{a:Bool}(h:T K u ρ a)(h1:a=true->E K m ta ρ d)(z:a=false->E K m tb ρ d):E K m (tIf u ta tb) ρ d:=λS B σ H o I Q q=>h S B σ H o I _ λH1 e=>by
 cases a with
 | true=>exact h1 rfl S B σ H1 o (I.grow e) _ λv y w r=>q v y (L2.Same.tr e w) r
 | false=>exact z rfl S B σ H1 o (I.grow e) _ λv y w r=>q v y (L2.Same.tr e w) r
theorem cV9 {Z:Hp}{a:Addr}{xs:List V}(s:SqL K Z a xs)(r:Reps K Z xs ds):Wk K Z (Itl K a) ds where
 stop:=λi H h l=>⟨xs,R9 h s,by rw[r.length];exact l⟩
 go:=λi H d h e=>by
  obtain⟨v,h1,_⟩:=r.get' e;exact⟨xs,v,R9 h s,h1⟩
 yld:=λi H d x j h e y=>by
  obtain⟨rfl,y⟩:=y
  have:=y xs (R9 h s)
  obtain⟨d',h1,w⟩:=r.get this;rw[e]at h1;cases h1;refine⟨L2.Same.rf _,λS k=>w.mono λb o q=>hid_some.mpr ⟨λz=>?_,h b o q⟩⟩
  rw[(k b z).1]at q;cases q
theorem dE5 {Z:Hp}{a:Addr}{xs:List V}(s:SqT K Z a xs)(r:Reps K Z xs ds):Wk K Z (Itt K a) ds where
 stop:=λi H h l=>⟨xs,E5 h s,by rw[r.length];exact l⟩
 go:=λi H d h e=>by
  obtain⟨v,h1,_⟩:=r.get' e;exact⟨xs,v,E5 h s,h1⟩
 yld:=λi H d x j h e y=>by
  obtain⟨rfl,y⟩:=y
  have:=y xs (E5 h s)
  obtain⟨d',h1,w⟩:=r.get this;rw[e]at h1;cases h1;refine⟨L2.Same.rf _,λS k=>w.mono λb o q=>hid_some.mpr ⟨λz=>?_,h b o q⟩⟩
  rw[(k b z).1]at q;cases q
def R8 (lo:Int)(n:Nat):AG:=(List.range n).map λ(i:Nat)=>PyData.int (lo+(i:Int))
theorem cC5 {Z:Hp}{lo:Int}{n:Nat}:Wk K Z (Itr lo n) (R8 lo n) where
 stop:=λi H h l=>by
  have:n<=i:=by simpa[R8]using l
  exact this
 go:=λi H d h e=>by
  have:=(Ab0.mp e).1
  have:i<n:=by simpa[R8]using this
  exact this
 yld:=λi H d x z h e y=>by
  obtain⟨rfl,rfl⟩:=y
  have:d=.int (lo+i):=by
   have hi:=(Ab0.mp e).1
   have w:i<n:=by simpa[R8]using hi
   unfold R8 at e;rw[Aa9,List.getElem?_range w]at e;exact(Ab4 e).symm
  subst this;exact⟨L2.Same.rf _,λS r=>.int _⟩
theorem W9 (h:E K m t ρ (.list ds)):I K m (cZ1 K t) ρ ds:=λS B σ H o J R q=>h S B σ H o J _ λv H1 e r=>by
 cases r with
 | lst s r=>exact⟨_,rfl,⟨_,R9 aS6 s⟩,q _ H1 e (cV9 s r)⟩
theorem aM3 (h:E K m t ρ (.tuple ds)):I K m (dS0 K t) ρ ds:=λS B σ H o J R q=>h S B σ H o J _ λv H1 e r=>by
 cases r with
 | tup s r=>exact⟨_,rfl,⟨_,E5 aS6 s⟩,q _ H1 e (dE5 s r)⟩
theorem T3 {t:TA}{j:Int}(h:A K false t ρ [.int j])(h1 : -(2^62)<=j)(e:j<2^62):I K m (dB3 t) ρ (R8 0 j.toNat):=λS B σ H o J R q=>h S B σ H o J _ λvs H1 y r=>by
 cases r with
 | cons a b=>cases a;cases b;exact⟨j,rfl,h1,e,q _ H1 y cC5⟩
theorem cI9 {t:TA}{i j:Int}(h:A K false t ρ [.int i,.int j])(h0 : -(2^62)<=i/\i<2^62 /\ -(2^62)<=j/\j<2^62):I K m (dA5 t) ρ (R8 i (j-i).toNat):=λS B σ H o J R q=>h S B σ H o J _ λvs H1 e r=>by
 cases r with
 | cons a b=>cases a;cases b with | cons a b=>cases a;cases b;exact⟨i,j,rfl,h0,q _ H1 e cC5⟩
theorem aG1 {o:Nat->AM}{S:Addr->Prop}{i:Nat}{x:Sl}(r:x.os=false){b:Addr}(z:D4 (ρ.set i x) o S b):D4 ρ o S b:=by
 rcases z with z | ⟨j,y,h,w,e⟩
 .exact .inl z
 .refine .inr ⟨j,y,?_,w,e⟩;rw[List.getElem?_set]at h;by_cases c:i=j
  .rw[Ac c]at h;split at h
   .rw[<- Ab4 h,r]at w;cases w
   .cases h
  .rw[Ab c]at h;exact h
def slot (m:Bool)(d:PyData):Sl:=match m with | true=>.val d | false=>.bor d
theorem Env.set {S:Addr->Prop}{B H:Hp}{σ:St}{o:Nat->AM}(I:Env K S B H σ ρ o)(i:Nat){v:V}(r:Rep K (vw m (D4 ρ o S) H) v d):Env K S B H (σ.set i (some v)) (ρ.set i (slot m d)) o:=by
 have nx:(slot m d).os=false:=by cases m <;> rfl
 have nd:∀{x:Sl},x.os=true->x≠slot m d:=λ{x} h e=>by rw[e,nx]at h;cases h
 have w:∀{j:Nat} {x:Sl},x≠slot m d->(ρ.set i (slot m d))[j]? = some x->i≠j/\ρ[j]? = some x:=λ{j x} q h=>by
  rw[List.getElem?_set]at h;by_cases c:i=j
  .rw[Ac c]at h;split at h
   .exact absurd (Ab4 h).symm q
   .cases h
  .rw[Ab c]at h;exact⟨c,h⟩
 have g:Same (hid (D4 ρ o S) H) (hid (D4 (ρ.set i (slot m d)) o S) H):=D5 (L2.Same.rf _) λb z _=>aG1 nx z
 refine⟨by simp[I.len],I.base,I.sl,λj x h q=>I.new j x (w (nd q) h).2 q,λj k x y h X q Y=>I.inj j k x y (w (nd q) h).2 (w (nd Y) X).2 q Y,λj ds h=>?_,λj d' h=>?_,λj d' h=>?_,λj t h=>?_⟩
 .obtain⟨c,h⟩:=w (nd rfl) h;obtain⟨p,U,a,xs,b,J⟩:=I.own j ds h;exact⟨p,U,by rw[Ad0 c];exact a,xs,b,J.mono g⟩
 .by_cases c:i=j
  .subst c;have s:i<ρ.length:=by
    have:=(Ab0.mp h).1
    simpa using this
   rw[Av (by simpa using s)]at h
   cases m with
   | false=>simp[slot]at h
   | true=>
    simp[slot]at h;subst h
    exact⟨v,Av (by rw[I.len];exact s),r.mono g⟩
  .rw[Ad0 c]at h;obtain⟨u,a,b⟩:=I.val j d' h;exact⟨u,by rw[Ad0 c];exact a,b.mono g⟩
 .by_cases c:i=j
  .subst c;have s:i<ρ.length:=by
    have:=(Ab0.mp h).1
    simpa using this
   rw[Av (by simpa using s)]at h
   cases m with
   | true=>simp[slot]at h
   | false=>
    simp[slot]at h;subst h
    exact⟨v,Av (by rw[I.len];exact s),r⟩
  .rw[Ad0 c]at h;obtain⟨u,a,b⟩:=I.bor j d' h;exact⟨u,by rw[Ad0 c];exact a,b⟩
 .obtain⟨c,h⟩:=w (nd rfl) h;obtain⟨n,u,a,b⟩:=I.tr j t h;exact⟨n,u,by rw[Ad0 c];exact a,b.mono g (L2.Same.rf _)⟩
theorem cR8:(slot m d).os=false:=by cases m <;> rfl
theorem C8 {i:Nat}:G K m (G5 i) d ρ (ρ.set i (slot m d)):=⟨λo S b z=>aG1 cR8 z,λS B σ H o I v r Q q=>q _ (I.set i r)⟩
theorem aL3:Gs K m bE7 [] ρ ρ:=⟨λ_ _ _ z=>z,λS B σ H o I vs r Q q=>by cases r;exact⟨rfl,q σ I⟩⟩
theorem dC4 {o:Nat->AM}{S:Addr->Prop}{H:Hp}(h:∀(o:Nat->AM) (S:Addr->Prop) (b:Addr),D4 ρ' o S b->D4 ρ o S b):Same (vw m (D4 ρ o S) H) (vw m (D4 ρ' o S) H):=by
 cases m with
 | false=>exact L2.Same.rf _
 | true=>exact D5 (L2.Same.rf _) λb z _=>h o S b z
theorem P5 {g:TG}{gs:TGs}(h:G K m g d ρ ρ1)(h':Gs K m gs ds ρ1 ρ'):Gs K m (Z3 g gs) (d::ds) ρ ρ':=⟨λo S b z=>h.1 o S b (h'.1 o S b z),λS B σ H o I vs r Q q=>by
 cases r with
 | cons a b=>exact⟨_,_,rfl,h.2 S B σ H o I _ a _ λy e=>h'.2 S B y H o e _ (b.mono (dC4 h.1)) _ q⟩⟩
theorem aY8 {gs:TGs}{n:Nat}(h:Gs K m gs ds ρ ρ')(e:ds.length=n:=by rfl):G K m (bR7 K n gs) (.tuple ds) ρ ρ':=⟨h.1,λS B σ H o I v r Q q=>by
 cases r with
 | tup s r=>exact⟨_,_,rfl,E5 aS6 s,by rw[r.length];exact e,h.2 S B σ H o I _ r _ q⟩⟩
theorem B1 {t u:TS}{R:AE}(h:W K t ρ {R with nx:=λρ'=>W K u ρ' R}):W K (cU6 t u) ρ R:=λS B D σ H o I s=>
 h S B {D with nx:=u D} σ H o I ⟨λρ' r e z y w=>w S B D r e z y s,s.rt,s.rl,s.bk,s.ct⟩
theorem O7 {R:AE}(h:R.nx ρ):W K dB4 ρ R:=λS B D σ H o I s=>s.nx ρ σ H o I h
theorem cZ3 {g:TG}{R:AE}(h:E K m t ρ d)(w:G K m g d ρ ρ')(z:R.nx ρ'):W K (aV3 t g) ρ R:=λS B D σ H o I s=>
 h S B σ H o I _ λv e k r=>w.2 S B σ e o (I.grow k) v r _ λj y=>s.nx _ j e o y z
theorem K7 {i:Nat}{R:AE}(h:E K true t ρ d)(e:R.nx (ρ.set i (.val d))):W K (aV3 t (G5 i)) ρ R:=cZ3 (ρ' := ρ.set i (.val d)) h C8 e
theorem S3 {R:AE}(h:E K true t ρ d)(y:R.rt d):W K (cC6 t) ρ R:=λS B D σ H o I s=>
 h S B σ H o I _ λv e w r=>s.rt v d e (L2.Same.tr I.base w) (r.mono (D5 (L2.Same.rf _) λb z _=>.inl z)) y
theorem aT7 {R:AE}(h:EF K t ρ ds)(w:R.rl ds):W K (cC6 t) ρ R:=λS B D σ H o I s=>
 h S B σ H o I _ λp xs y k n e r=>s.rl p xs ds y (L2.Same.tr I.base k) (S4 I.base n) e (r.mono (D5 (L2.Same.rf _) λb z _=>z.imp .inl id)) w
theorem cQ4 {i:Nat}{R:AE}(h:ρ[i]? = some (.own ds))(y:R.rl ds):W K (cC6 (E1 i)) ρ R:=λS B D σ H o I s=>by
 obtain⟨p,hp,a,xs,b,c⟩:=I.own i ds h;exact⟨_,a,s.rl _ xs ds H I.base (I.new i _ h rfl _ (by rw[hp];simp)) b (c.mono (D5 (L2.Same.rf _) λb z _=>z.elim .inl λe=>.inr ⟨i,_,h,rfl,by rw[hp,e];simp⟩)) y⟩
theorem aJ7 {c:TT}{t u:TS}{b:Bool}{R:AE}(h:T K c ρ b)(h1:b=true->W K t ρ R)(w:b=false->W K u ρ R):W K (cS5 c t u) ρ R:=λS B D σ H o I s=>h S B σ H o I _ λe y=>by
 cases b with
 | true=>exact h1 rfl S B D σ e o (I.grow y) s
 | false=>exact w rfl S B D σ e o (I.grow y) s
theorem W.weak {t:TS}{R R':AE}(h:W K t ρ R)(h1:∀ρ,R.nx ρ->R'.nx ρ)(j:∀d,R.rt d->R'.rt d)(q:∀d,R.rl d->R'.rl d)(Y:∀ρ,R.bk ρ->R'.bk ρ)(X:∀ρ,R.ct ρ->R'.ct ρ):W K t ρ R':=λS B D σ H o I s=>
 h S B D σ H o I ⟨λρ' k y r z w=>s.nx ρ' k y r z (h1 _ w),λv d y a b c=>s.rt v d y a b (j _ c),λp xs ds y a b c e w=>s.rl p xs ds y a b c e (q _ w),λρ' k y r z w=>s.bk ρ' k y r z (Y _ w),λρ' k y r z w=>s.ct ρ' k y r z (X _ w)⟩
def bD5 (o:Nat->AM)(i:Nat)(L:AM)(j:Nat):AM:=if j=i then L else o j
theorem S9 {o:Nat->AM}{i:Nat}{L:AM}:bD5 o i L i=L:=Ac rfl
theorem Q9 {o:Nat->AM}{i j:Nat}{L:AM}(h:i≠j):bD5 o i L j=o j:=Ab λz=>h z.symm
def Holds (K:Frag)(Z H:Hp)(v:V)(x:Sl)(L:AM):Prop:=
 (∃ds p xs,x=.own ds/\L=[p]/\v=.ref p/\H p=some (.lst xs)/\Reps K Z xs ds)\/∃t,x=.tr t/\L.Nodup/\Dp K Z H v t L
theorem Holds.os {Z H:Hp}{v:V}{x:Sl}{L:AM}(h:Holds K Z H v x L):x.os=true:=by
 rcases h with⟨ds,p,xs,rfl,_⟩ | ⟨t,rfl,_⟩ <;> rfl
def cF2 (ρ:List Sl)(o:Nat->AM)(i:Nat)(b:Addr):Prop:=∃y,ρ[i]? = some y/\y.os=true/\b∈o i
theorem Env.put {S:Addr->Prop}{B H H':Hp}{σ:St}{o:Nat->AM}{v:V}{x:Sl}{L:AM}(I:Env K S B H σ ρ o)(i:Nat)(hi:i<ρ.length)(D:Addr->Prop)(hD:∀b,D b->cF2 ρ o i b)
  (hH:∀b y,H b=some y->¬D b->H' b=some y) (hL:∀b∈L,cF2 ρ o i b\/H b=none) (hx:Holds K (hid (λb=>D4 ρ o S b\/b∈L) H') H' v x L)
  (nb:(∀b,¬D b)\/∀(j:Nat) (d:PyData),ρ[j]?≠some (Sl.bor d)):Env K S B H' (σ.set i (some v)) (ρ.set i x) (bD5 o i L):=by
 have hos:=hx.os
 have s:∀{j:Nat} {y:Sl},i≠j->(ρ.set i x)[j]? = some y->ρ[j]? = some y:=λ{j y} c h=>by rw[Ad0 c]at h;exact h
 have U:(ρ.set i x)[i]? = some x:=Av hi
 have P:∀b,D4 (ρ.set i x) (bD5 o i L) S b->D4 ρ o S b\/b∈L:=λb z=>by
  rcases z with z | ⟨j,y,h,X,e'⟩
  .exact .inl (.inl z)
  .by_cases c:i=j
   .subst c;rw[S9]at e';exact .inr e'
   .rw[Q9 c]at e';exact .inl (.inr ⟨j,y,s c h,X,e'⟩)
 have R:∀b,cF2 ρ o i b->D4 ρ o S b:=λb ⟨y,h1,J,M⟩=>.inr ⟨i,y,h1,J,M⟩
 have g:Same (hid (D4 ρ o S) H) (hid (D4 (ρ.set i x) (bD5 o i L) S) H'):=λb y q=>by
  obtain⟨a,q⟩:=hid_some.mp q;refine hid_some.mpr ⟨λz=>?_,hH b y q λz=>a (R b (hD b z))⟩
  rcases P b z with z | z
  .exact a z
  .rcases hL b z with z | z
   .exact a (R b z)
   .rw[z]at q;cases q
 have ht:∀a ys,Rd H a (.tup ys)->Rd H' a (.tup ys):=λa ys r=>by
  have n:¬D a:=λz=>by
   obtain⟨zs,e⟩:=I.lists a (R a (hD a z));rcases r with r | ⟨o,r⟩ <;> rw[e]at r <;> replace r:=Ab4 r
   .exact HM.nt r
   .exact HM.nf r
  rcases r with r | ⟨o,r⟩
  .exact .inl (hH _ _ r n)
  .exact .inr ⟨o,hH _ _ r n⟩
 have far:∀{j:Nat} {y:Sl},i≠j->ρ[j]? = some y->y.os=true->∀b∈o j,¬D b:=λ{j y} c h X b Y z=>by
  obtain⟨w,h1,J,M⟩:=hD b z;exact c (I.inj i j w y h1 h J X b M Y)
 have kept:∀{j:Nat} {y:Sl},i≠j->ρ[j]? = some y->y.os=true->∀b∈o j,H' b=H b:=λ{j y} c h X b Y=>by
  obtain⟨zs,e⟩:=I.lists b (.inr ⟨j,y,h,X,Y⟩);rw[e];exact hH _ _ e (far c h X b Y)
 have F:∀{j:Nat} {y:Sl},i≠j->ρ[j]? = some y->y.os=true->∀b∈o j,b∉L:=λ{j y} c h X b Y z=>by
  rcases hL b z with⟨w,h1,J,M⟩ | z
  .exact c (I.inj i j w y h1 h J X b M Y)
  .obtain⟨zs,e⟩:=I.lists b (.inr ⟨j,y,h,X,Y⟩);rw[z]at e;cases e
 have base:Same B H':=λb y q=>hH b y (I.base b y q) λz=>by
  obtain⟨w,h1,J,M⟩:=hD b z;rw[I.new i w h1 J b M]at q;cases q
 refine⟨by simp[I.len],base,I.sl,λj y h X b Y=>?_,λj k y z h h' X hz b Y N=>?_,λj es h=>?_,λj d' h=>?_,λj d' h=>?_,λj t h=>?_⟩
 .by_cases c:i=j
  .subst c;rw[S9]at Y;rcases hL b Y with⟨w,h1,J,M⟩ | z
   .exact I.new i w h1 J b M
   .exact S4 I.base z
  .rw[Q9 c]at Y;exact I.new j y (s c h) X b Y
 .by_cases c:i=j
  .subst c;by_cases Q:i=k
   .exact Q
   .rw[S9]at Y;rw[Q9 Q]at N;exact absurd Y (F Q (s Q h') hz b N)
  .by_cases Q:i=k
   .subst Q;rw[S9]at N;rw[Q9 c]at Y;exact absurd N (F c (s c h) X b Y)
   .rw[Q9 c]at Y;rw[Q9 Q]at N;exact I.inj j k y z (s c h) (s Q h') X hz b Y N
 .by_cases c:i=j
  .subst c;rw[U]at h;cases h;rw[S9];rcases hx with⟨ds,p,xs,e,J,M,h4,h5⟩ | ⟨t,e,_⟩
   .cases e
    exact⟨p,J,by rw[Av (by rw[I.len];exact hi),M],xs,h4,h5.mono (D5 (L2.Same.rf _) λb z _=>P b z)⟩
   .cases e
  .rw[Q9 c];obtain⟨p,o',a,ys,b,r'⟩:=I.own j es (s c h);exact⟨p,o',by rw[Ad0 c];exact a,ys,by rw[kept c (s c h) rfl p (by rw[o'];simp)];exact b,r'.mono g⟩
 .by_cases c:i=j
  .subst c;rw[U]at h;cases h;cases hos
  .obtain⟨u,a,b⟩:=I.val j d' (s c h);exact⟨u,by rw[Ad0 c];exact a,b.mono g⟩
 .by_cases c:i=j
  .subst c;rw[U]at h;cases h;cases hos
  .rcases nb with nb | nb
   .obtain⟨u,a,b⟩:=I.bor j d' (s c h);exact⟨u,by rw[Ad0 c];exact a,b.mono λb y q=>hH b y q (nb b)⟩
   .exact absurd (s c h) (nb j d')
 .by_cases c:i=j
  .subst c;rw[U]at h;cases h;rw[S9];rcases hx with⟨ds,p,xs,e,_⟩ | ⟨t',e,J,M⟩
   .cases e
   .cases e
    exact⟨J,v,Av (by rw[I.len];exact hi),M.mono (D5 (L2.Same.rf _) λb z _=>P b z) (L2.Same.rf _)⟩
  .rw[Q9 c];obtain⟨n,u,a,b⟩:=I.tr j t (s c h);exact⟨n,u,by rw[Ad0 c];exact a,aB0 g ht t (kept c (s c h) rfl) b⟩
theorem Env.setF {S:Addr->Prop}{B H H':Hp}{σ:St}{o:Nat->AM}{p:Addr}{xs:List V}(I:Env K S B H σ ρ o)(i:Nat)(s:Same H H')(n:H p=none)(e:H' p=some (.lst xs))(r:Reps K (hid (λb=>D4 ρ o S b\/b=p) H') xs ds)(hi:i<ρ.length) :
  Env K S B H' (σ.set i (some (.ref p))) (ρ.set i (.own ds)) (bD5 o i [p]):=
 I.put i hi (λ_=>False) (λ_ z=>z.elim) (λb y q _=>s b y q) (λb z=>.inr (by rw[Ad8.mp z];exact n)) (.inl ⟨ds,p,xs,rfl,rfl,rfl,e,r.mono (D5 (L2.Same.rf _) λb z _=>z.imp id λz=>Ad8.mp z)⟩) (.inl λ_ z=>z)
theorem bI7 {α:Type}{l:List α}{i:Nat}{a:α}(h:l[i]? = some a):l.set i a=l:=by
 obtain⟨h1,e⟩:=Ab0.mp h;rw[<- e];exact List.set_getElem_self h1
theorem G3 {i:Nat}{R:AE}(h:EF K t ρ ds)(w:R.nx (ρ.set i (.own ds)))(hi:i<ρ.length:=by first | decide | (simp;done) | (simp[LV.sl0];done)):W K (aV3 t (G5 i)) ρ R:=λS B D σ H o I s=>
 h S B σ H o I _ λp xs y z n e r=>s.nx _ _ y _ (I.setF i z n e r hi) w
theorem Env.upd {S:Addr->Prop}{B H:Hp}{σ:St}{o:Nat->AM}{i:Nat}{p:Addr}{xs:List V}(I:Env K S B H σ ρ o)(h:ρ[i]? = some (.own ds))(hp:o i=[p])(r:Reps K (hid (D4 ρ o S) H) xs es)(nb:∀(j:Nat) (d:PyData),ρ[j]?≠some (Sl.bor d)) :
  Env K S B (upd H p (.lst xs)) σ (ρ.set i (.own es)) (bD5 o i [p]):=by
 have hi:i<ρ.length:=(Ab0.mp h).1
 obtain⟨Y,e,a,X,b,c⟩:=I.own i ds h;rw[hp]at e;cases e;have w:cF2 ρ o i p:=⟨_,h,rfl,by rw[hp];simp⟩
 have os:D4 ρ o S p:=.inr ⟨i,_,h,rfl,by rw[hp];simp⟩
 have:=I.put (H':=L2.upd H p (.lst xs)) (v:=.ref p) (x:=.own es) (L:=[p]) i hi (λb=>b=p) (λb z=>by rw[z];exact w) (λb y q z=>by rw[B8 z];exact q) (λb z=>.inl (by rw[Ad8.mp z];exact w))
  (.inl ⟨es,p,xs,rfl,rfl,rfl,C2,r.mono λb y q=>by
   obtain⟨k,s⟩:=hid_some.mp q;refine hid_some.mpr ⟨λz=>k (z.elim id λz=>by rw[Ad8.mp z];exact os),?_⟩
   rw[B8 (λz=>k (by rw[z];exact os))];exact s⟩) (.inr nb)
 rw[bI7 a]at this;exact this
def S2:List Sl->Bool
 | []=>true
 | .bor _::_=>false
 | _::r=>S2 r
theorem L5:∀{ρ:List Sl},S2 ρ=true->∀(j:Nat) (d:PyData),ρ[j]?≠some (Sl.bor d)
 | [],_,j,d=>by simp
 | .bor _::_,h,_,_=>by cases h
 | .no::r,h,0,d=>by simp
 | .no::r,h,j+1,d=>by simpa using L5 (ρ:=r) h j d
 | .val _::r,h,0,d=>by simp
 | .val _::r,h,j+1,d=>by simpa using L5 (ρ:=r) h j d
 | .own _::r,h,0,d=>by simp
 | .own _::r,h,j+1,d=>by simpa using L5 (ρ:=r) h j d
 | .tr _::r,h,0,d=>by simp
 | .tr _::r,h,j+1,d=>by simpa using L5 (ρ:=r) h j d
theorem Q8 {i:Nat}{R:AE}(hi:ρ[i]? = some (.own ds))(h:E K true t ρ d)(y:ds.length<sizeLine)(w:R.nx (ρ.set i (.own (ds++[d]))))(nb:S2 ρ=true:=by rfl) :
  W K (aM4 (tBM K "list" aH6 (E1 i) (C0 t O1))) ρ R:=λS B D σ H o I s=>by
 obtain⟨p,hp,a,xs,b,c⟩:=I.own i ds hi;refine⟨_,a,.inl ⟨rfl,xs,SqL.of b⟩,?_⟩;refine h S B σ H o I _ λv z e r=>?_
 refine⟨_,xs,v,rfl,rfl,e _ _ b,by rw[c.length];exact y,?_⟩
 exact s.nx _ σ _ _ ((I.grow e).upd hi hp ((c.mono (K1 e)).append (.cons r .nil)) (L5 nb)) w
theorem bD9 {S:Addr->Prop}{H:Hp}{o:Nat->AM}{i:Nat}{p:Addr}{xs:List V}(hi:ρ[i]? = some (.own ds))(hp:o i=[p]):Same (hid (D4 ρ o S) H) (hid (D4 (ρ.set i (.own es)) (bD5 o i [p]) S) (L2.upd H p (.lst xs))):=λc x q=>by
 obtain⟨w,j⟩:=hid_some.mp q;refine hid_some.mpr ⟨λz=>w ?_,?_⟩
 .rcases z with z | ⟨k,y,e,r,e'⟩
  .exact .inl z
  .by_cases ck:i=k
   .subst ck;rw[S9,<- hp]at e';exact .inr ⟨i,_,hi,rfl,e'⟩
   .rw[Ad0 ck]at e;rw[Q9 ck]at e';exact .inr ⟨k,y,e,r,e'⟩
 .rw[B8 (λz=>w (.inr ⟨i,_,hi,rfl,by rw[hp,z];simp⟩))];exact j
theorem dL6 {i j:Nat}{R:AE}(hi:ρ[i]? = some (.own (ds++[d])))(k:R.nx ((ρ.set i (.own ds)).set j (.val d)))(nb:S2 ρ=true:=by rfl) :
  W K (aV3 (dF7 K "list" dD8 (E1 i)) (G5 j)) ρ R:=λS B D σ H o I s=>by
 obtain⟨p,hp,a,xs,b,c⟩:=I.own i _ hi;have r:=c.length;obtain⟨y,h1,z⟩:=c.get' (i:=ds.length) (d:=d) (by simp)
 refine⟨_,a,.inl ⟨rfl,xs,SqL.of b⟩,_,xs,y,rfl,rfl,b,?_,?_⟩
 .rw[r];simpa using h1
 .have e:=c.dropLast
  rw[List.dropLast_concat]at e;have w:=I.upd hi hp e (L5 nb);refine s.nx _ _ _ _ (Env.set (m:=true) w j (z.mono ?_)) k;exact bD9 hi hp
theorem U7 {wi:TI}{g:TG}{tb:TS}{R:AE}(hi:I K true wi ρ ds)(P:Nat->List Sl->Prop)(h0:P 0 ρ)
  (turn:∀i d ρ',ds[i]? = some d->P i ρ'->∃ρ'',G K true g d ρ' ρ''/\W K tb ρ'' {R with nx:=P (i+1),ct:=P (i+1),bk:=R.nx}) (hn:∀ρ',P ds.length ρ'->R.nx ρ'):W K (dO6 wi g tb) ρ R:=λS B D σ H o I0 s=>
 hi S B σ H o I0 _ λJ H1 s1 wk=>by
  obtain⟨I1,X⟩:=(I0.grow s1).rebase;generalize hB:hid (cM6 ρ o) H1=B' at I1 X;have sz:Same (hid (D4 ρ o S) H1) B':=λb x q=>by
   obtain⟨q1,q2⟩:=hid_some.mp q;rw[<- hB];exact hid_some.mpr ⟨λz=>q1 (.inr z),q2⟩
  refine⟨λi m σ' H'=>i<=ds.length/\m=ds.length-i/\∃ρ' M,Env K S B' H' σ' ρ' M/\P i ρ',⟨_,Cj _,rfl,ρ,o,I1,h0⟩,?_⟩
  rintro i k σ' H' ⟨hl,rfl,ρ',M,r,p⟩;have zH:=L2.Same.tr sz r.base;by_cases c:i=ds.length
  .subst c;exact .inl ⟨wk.stop _ _ zH (Aa7 _),s.nx ρ' σ' H' M ⟨r.len,L2.Same.tr X r.base,λb z=>(I0.sl b z),λi ds z hz b Q=>S4 X (r.new i ds z hz b Q),r.inj,r.own,r.val,r.bor,r.tr⟩ (hn ρ' p)⟩
  .have F:i<ds.length:=by lia
   have hd:ds[i]? = some ds[i]:=Aa2 F
   obtain⟨ρ'',hg,Q⟩:=turn i ds[i] ρ' hd p;refine .inr ⟨wk.go _ _ _ zH hd,λσ2 H2=>∃ρ2 o2,Env K S B' H2 σ2 ρ2 o2/\P (i+1) ρ2,λσ2 H2 ⟨ρ2,o2,I2,p2⟩=>⟨_,by lia,F,rfl,ρ2,o2,I2,p2⟩,λx N hy=>?_⟩
   obtain⟨s2,hx⟩:=wk.yld _ _ _ _ _ zH hd hy;have rx:=hx (D4 ρ' M S) λb z=>by
    obtain⟨ys,y⟩:=r.lists b z;refine⟨?_,by rw[y];simp⟩
    rcases z with z | ⟨j,es,h',hy,e'⟩
    .unfold vw hid;exact Ac (.inl z)
    .exact S4 sz (r.new j es h' hy b e')
   refine hg.2 S B' σ' N M (r.grow s2) x rx _ λσ2 I2=>Q S B' _ σ2 N M I2 ⟨λρ3 σ3 U o3 Y w=>⟨ρ3,o3,Y,w⟩,λv d U a b w=>s.rt v d U (L2.Same.tr X a) b w,λp xs es U a b c e w=>s.rl p xs es U (L2.Same.tr X a) (S4 X b) c e w,
    λρ3 σ3 U o3 Y w=>s.nx ρ3 σ3 U o3 ⟨Y.len,L2.Same.tr X Y.base,λb z=>(I0.sl b z),λi ds z hz b Q=>S4 X (Y.new i ds z hz b Q),Y.inj,Y.own,Y.val,Y.bor,Y.tr⟩ w,λρ3 σ3 U o3 Y w=>⟨ρ3,o3,Y,w⟩⟩
theorem bG8 {c:TT}{tb:TS}{R:AE}(P:Nat->List Sl->Prop)(h0:∃k,P k ρ)
  (turn:∀k ρ',P k ρ'->∃b,T K c ρ' b/\if b=true then W K tb ρ' {R with nx:=λρ2=>∃k',k'<k/\P k' ρ2,ct:=λρ2=>∃k',k'<k/\P k' ρ2,bk:=R.nx} else R.nx ρ'):W K (bR5 c tb) ρ R:=λS B D σ H o I0 s=>by
 obtain⟨k0,p0⟩:=h0;refine⟨λk r q=>∃ρ' y,Env K S B q r ρ' y/\P k ρ',⟨k0,ρ,o,I0,p0⟩,?_⟩
 rintro k r q ⟨ρ',y,Y,p⟩;obtain⟨b,hc,j⟩:=turn k ρ' p;refine hc S B r q y Y _ λH1 N=>?_
 cases b with
 | true=>
  rw[Ac rfl]at j ⊢;refine⟨λQ M=>∃k',k'<k/\∃ρ2 o2,Env K S B M Q ρ2 o2/\P k' ρ2,λQ M ⟨k',e,z⟩=>⟨k',e,z⟩,?_⟩
  exact j S B _ r H1 y (Y.grow N) ⟨λJ σ3 F U X ⟨k',e,w⟩=>⟨k',e,J,U,X,w⟩,s.rt,s.rl,s.nx,λJ σ3 F U X ⟨k',e,w⟩=>⟨k',e,J,U,X,w⟩⟩
 | false=>
  rw[Ab Ai]at j ⊢;exact s.nx ρ' r H1 y (Y.grow N) j
def cap:Sl->Sl
 | .own ds=>.bor (.list ds)
 | .tr t=>.bor t.data
 | x=>x
def slC (ρ:List Sl)(n:Nat)(is:AD):List Sl:=List.replicate n .no++is.map λi=>cap ((ρ[i]?).getD .no)
theorem bE5 {n:Nat}{is:AD}{j:Nat}{x:Sl}(h:(slC ρ n is)[j]? = some x)(w:x≠.no):n<=j/\∃i y,is[j-n]? = some i/\ρ[i]? = some y/\cap y=x:=by
 unfold slC at h;by_cases c:j<n
 .rw[Br (by simpa using c),Ca,Ac c]at h
  exact absurd (Ab4 h).symm w
 .rw[Bp (by simpa using c),Cn,Aa9]at h
  refine⟨by lia,?_⟩
  cases e:is[j-n]? with
  | none=>rw[e]at h;cases h
  | some i=>
   rw[e]at h;have h:cap ((ρ[i]?).getD .no)=x:=Ab4 h;cases e':ρ[i]? with
   | none=>rw[e']at h;exact absurd h.symm w
   | some y=>rw[e']at h;exact⟨i,y,rfl,e',h⟩
theorem cT6 {n:Nat}{is:AD}{j:Nat}{x:Sl}(h:(slC ρ n is)[j]? = some x):x.os=false:=by
 cases x with
 | own ds=>
  obtain⟨_,i,y,_,_,e⟩:=bE5 h (by simp)
  cases y <;> simp[cap]at e
 | tr t=>
  obtain⟨_,i,y,_,_,e⟩:=bE5 h (by simp)
  cases y <;> simp[cap]at e
 | _=>rfl
theorem aK7 {n:Nat}{is:AD}{j:Nat}{x:Sl}{P:Prop}(h:(slC ρ n is)[j]? = some x)(e:x.os=true):P:=by rw[cT6 h]at e;cases e
theorem Env.comp {S:Addr->Prop}{B H:Hp}{σ:St}{o:Nat->AM}(I:Env K S B H σ ρ o)(n:Nat)(is:AD):Env K (D4 ρ o S) H H (stC n is σ) (slC ρ n is) o:=by
 have q:∀(j:Nat) (i:Nat) v,n<=j->is[j-n]? = some i->σ[i]? = some v->(stC n is σ)[j]? = some v:=λj i v w hi Y=>by
  unfold stC;rw[Bp (by simpa using w),Cn,Aa9,hi]
  simp[Y]
 have g:Same (hid (D4 ρ o S) H) (hid (D4 (slC ρ n is) o (D4 ρ o S)) H):=D5 (L2.Same.rf _) λb z _=>by
  rcases z with z | ⟨j,es,h,r,_⟩
  .exact z
  .exact aK7 h r
 refine⟨by simp[stC,slC],L2.Same.rf _,I.lists,λj es h s=>aK7 h s,λj k es fs h _ s=>aK7 h s,λj es h=>aK7 h rfl,λj d h=>?_,λj d h=>?_,λj t h=>aK7 h rfl⟩
 .obtain⟨w,i,y,hi,r,e⟩:=bE5 h (by simp)
  cases y with
  | val d'=>
   cases e
   obtain⟨v,a,b⟩:=I.val i d r;exact⟨v,q j i _ w hi a,b.mono g⟩
  | _=>simp[cap]at e
 .obtain⟨w,i,y,hi,r,e⟩:=bE5 h (by simp)
  cases y with
  | bor d'=>
   cases e
   obtain⟨v,a,b⟩:=I.bor i d r;exact⟨v,q j i _ w hi a,b⟩
  | own es=>
   cases e
   obtain⟨p,hp,a,xs,b,c⟩:=I.own i es r;exact⟨_,q j i _ w hi a,.lst (SqL.of b) (c.mono U5)⟩
  | tr t=>
   cases e
   obtain⟨_,v,a,b⟩:=I.tr i t r;exact⟨_,q j i _ w hi a,bC7 U5 (λ_ _ z=>z) U5 t (λ_ _=>rfl) b⟩
  | _=>simp[cap]at e
def cB7 (K:Frag)(m:Bool)(ρ:List Sl)(g:TG)(tt:TT)(te:TE)(d:PyData)(r:Option PyData):Prop:=
 ∃ρ',G K m g d ρ ρ'/\match r with
  | none=>T K tt ρ' false
  | some y=>T K tt ρ' true/\E K true te ρ' y
theorem K5 {wi:TI}{n:Nat}{is:AD}{g:TG}{tt:TT}{te:TE}(f:PyData->Option PyData)(hi:I K m wi ρ ds)(hl:ds.length<sizeLine)(body:∀d∈ds,cB7 K m (slC ρ n is) g tt te d (f d)):EF K (bY3 wi n is g tt te) ρ (ds.filterMap f):=λS B σ H o I0 Q q=>
 hi S B σ H o I0 _ λJ H1 R P=>by
  have IC:=(I0.grow R).comp n is
  generalize hS:D4 ρ o S=S' at IC P q;have lists:∀b,S' b->∃u:HM,H1 b=some u.ho:=by rw[<- hS];exact(I0.grow R).lists
  refine⟨λi k ys M=>i<=ds.length/\k=ds.length-i/\Same H1 M/\ys.length<=i/\Reps K (hid S' M) ys ((ds.take i).filterMap f),⟨_,Cj _,rfl,L2.Same.rf _,Aa7 _,by simpa using Reps.nil⟩,?_⟩
  rintro i k ys M ⟨hil,rfl,p,hy,r⟩;refine⟨by lia,?_⟩
  have zH:Same (vw m S' H1) M:=L2.Same.tr aS6 p
  by_cases c:i=ds.length
  .subst c;refine .inl ⟨P.stop _ _ zH (Aa7 _),λD hD=>?_⟩
   rw[De]at r;exact q D ys _ (L2.Same.tr (L2.Same.tr R p) (C9 hD)) (S4 (L2.Same.tr R p) hD) C2 (aW3 (λb z=>by obtain⟨xs,e⟩:=lists b z;exact⟨xs,p _ _ e⟩) hD r)
  .have w:i<ds.length:=by lia
   have hd:ds[i]? = some ds[i]:=Aa2 w
   have take:(ds.take (i+1)).filterMap f=(ds.take i).filterMap f++(f ds[i]).toList:=by
    rw[Bm w,List.filterMap_append];cases N:f ds[i] <;> simp[Bc,N]
   obtain⟨ρ',hg,Y⟩:=body ds[i] (Df w);refine .inr ⟨P.go _ _ _ zH hd,λx s hx=>?_⟩
   obtain⟨F,hr⟩:=P.yld _ _ _ _ _ zH hd hx;have I3:Env K S' H1 s (stC n is σ) (slC ρ n is) o:=IC.grow (L2.Same.tr p F);have eqS:∀b,D4 (slC ρ n is) o S' b->S' b:=λb z=>by
    rcases z with z | ⟨j,es,h,hy,_⟩
    .exact z
    .exact aK7 h hy
   have rx:Rep K (vw m (D4 (slC ρ n is) o S') s) x ds[i]:=by
    cases m with
    | false=>
     have:=hr (λ_=>False) λb z=>z.elim
     rw[cM1]at this;exact this
    | true=>
     refine hr _ λb z=>?_
     have z':=eqS b z
     obtain⟨xs,e⟩:=lists b z';exact⟨by unfold vw hid;exact Ac z',by rw[p _ _ e];simp⟩
   refine hg.2 S' H1 _ s o I3 x rx _ λσ4 I4=>?_
   cases N:f ds[i] with
   | none=>
    rw[N]at Y take;refine Y S' H1 σ4 s o I4 _ λH5 U=>?_
    rw[Ab Ai];refine⟨_,by lia,w,rfl,L2.Same.tr p (L2.Same.tr F U),by lia,?_⟩
    rw[take];simpa using r.mono (K1 (L2.Same.tr F U))
   | some y=>
    rw[N]at Y take;refine Y.1 S' H1 σ4 s o I4 _ λH5 U=>?_
    rw[Ac rfl];refine Y.2 S' H1 σ4 H5 o (I4.grow U) _ λv H6 s6 rv=>?_
    have X:=L2.Same.tr F (L2.Same.tr U s6)
    refine⟨_,by lia,w,rfl,L2.Same.tr p X,by simp;lia,?_⟩
    rw[take];refine(r.mono (K1 X)).append (.cons (rv.mono (D5 (L2.Same.rf _) λb z _=>.inl z)) .nil)
theorem Z1:T K aE1 ρ true:=λS B σ H o I Q q=>q H (L2.Same.rf _)
def sl0 (n:Nat)(ds:AG):List Sl:=ds.map .val++List.replicate (n-ds.length) .no
theorem env0 {S:Addr->Prop}{H:Hp}{N:AJ}{vs:List V}(s:∀b,S b->∃u:HM,H b=some u.ho)(r:Reps K (hid S H) vs ds):Env K S H H (L2.R5 N vs) (sl0 N.length ds) (λ_=>[]):=by
 have w:∀(j:Nat) (x:Sl),(sl0 N.length ds)[j]? = some x->x=.no\/∃d,ds[j]? = some d/\x=.val d:=λj x h=>by
  unfold sl0 at h;by_cases c:j<ds.length
  .rw[Br (by simpa using c),Aa9,Aa2 c]at h
   exact .inr ⟨_,Aa2 c,(Ab4 h).symm⟩
  .rw[Bp (by simpa using c),Ca]at h
   split at h
   .exact .inl (Ab4 h).symm
   .cases h
 have y:∀{P:Prop} (j:Nat) (x:Sl),(sl0 N.length ds)[j]? = some x->x.os=true->P:=λj x h p=>by
  rcases w j _ h with e | ⟨d,_,e⟩ <;> rw[e]at p <;> cases p
 have g:Same (hid S H) (hid (D4 (sl0 N.length ds) (λ_=>[]) S) H):=D5 (L2.Same.rf _) λb z _=>by
  rcases z with z | ⟨j,es,h,Y,_⟩
  .exact z
  .exact y j es h Y
 refine⟨?_,L2.Same.rf _,s,λj es h p=>y j es h p,λj k es fs h _ p=>y j es h p,λj es h=>y j _ h rfl,λj d h=>?_,λj d h=>?_,λj es h=>y j _ h rfl⟩
 .unfold L2.R5 sl0;simp[r.length]
 .rcases w j _ h with e | ⟨d',q,e⟩
  .cases e
  .cases e
   obtain⟨v,a,b⟩:=r.get' q;refine⟨v,?_,b.mono g⟩;unfold L2.R5
   have:=(Ab0.mp a).1
   rw[Br (by simpa using this),Aa9,a];rfl
 .rcases w j _ h with e | ⟨d',_,e⟩ <;> cases e
theorem O0 {t:TS}{N:AJ}{vs:List V}{S:Addr->Prop}{H:Hp}{Q:VK}(j:∀b,S b->∃u:HM,H b=some u.ho)(r:Reps K (hid S H) vs ds)(w:W K t (sl0 N.length ds) {nx:=λ_=>d=.none,rt:=λe=>e=d})
  (k:∀v H',Same H H'->Rep K (hid S H') v d->Q v H'):t {nx:=λ_ H'=>Q .non H',rt:=Q} (L2.R5 N vs) H:=
 w S H _ _ H _ (env0 j r) ⟨λρ' q H' p y z=>k _ H' y.base (by rw[z];exact .non),λv e H' s c z=>k v H' s (by rw[<- z];exact c),λ_ _ _ _ _ _ _ _ z=>z.elim,λ_ _ _ _ _ z=>z.elim,λ_ _ _ _ _ z=>z.elim⟩
theorem aR8 {t:TS}{N:AJ}{vs:List V}{S:Addr->Prop}{H:Hp}{Q:VK}(c:∀b,S b->∃u:HM,H b=some u.ho)(r:Reps K (hid S H) vs ds)(w:W K t (sl0 N.length ds) {nx:=λ_=>False,rl:=λe=>e=es})
  (k:∀p xs H',Same H H'->H p=none->H' p=some (.lst xs)->Reps K (hid (λb=>S b\/b=p) H') xs es->Q (.ref p) H'):t {nx:=λ_ H'=>Q .non H',rt:=Q} (L2.R5 N vs) H:=
 w S H _ _ H _ (env0 c r) ⟨λρ' X H' Y q z=>z.elim,λv e H' s y z=>z.elim,λp xs j H' s n e y z=>k p xs H' s n e (by rw[<- z];exact y),λ_ _ _ _ _ z=>z.elim,λ_ _ _ _ _ z=>z.elim⟩
end
end LV
namespace L2
open PySem PySem.Spec PyProof.Rows
section
variable {X:Cx}
def CMulB (i j:Int):Prop:=i.natAbs<2^512/\j.natAbs<2^512
theorem bU1 {k:Int}(h:k.natAbs<2^512):Builtin.Int.intBits k<=2^20:=by
 unfold Builtin.Int.intBits;split
 .exact Cj _
 .have:k.natAbs.log2<512:=by
   rcases Nat.eq_zero_or_pos k.natAbs with e | hp
   .rw[e];decide
   .exact(Nat.log2_lt (Nat.ne_of_gt hp)).mpr h
  lia
theorem CMulB.ok {i j:Int}(h:CMulB i j):IntMulOk i j:=.of_bits (bU1 h.1) (bU1 h.2)
theorem aH7:OpR X (binaryOp .Mult) (rI CMulB λi j=>.int (i*j)):=opI λ_ _ _ _ _ _ _ e q=>mul_int q e.ok
def bH4:List String:=["int", "bool", "str", "list", "tuple"]
def dF4 (K:Frag)(H:Hp)(T:String):V->Bool->Prop
 | .int _,b=>b=(T == "int")
 | .bl _,b=>b=(T == "int" || T == "bool")
 | .str _,b=>b=(T == "str")
 | .non,b=>b=false
 | .ref p,b=>(∃xs,SqL K H p xs/\b=(T == "list"))\/∃xs,SqT K H p xs/\b=(T == "tuple")
 | _,_=>False
theorem K2 {T:String}(h:T∈bH4):typeOf (.type T)=pure (.type "type"):=by
 simp only[bH4,Aa1,Ac2,or_false]at h;rcases h with rfl | rfl | rfl | rfl | rfl
 .exact meta_int
 .exact meta_bool
 .exact meta_str
 .exact meta_list
 .exact meta_tuple
theorem aJ5 {x:Value}{Tx T:String}{s:Shared}{A:Around}{P:Program}{w:World}{E:Dz}{Q:Dz}(h:T∈bH4)(y:s.TypeIs x Tx)(e:isSubtype (.type Tx) (.type T)=pure true)(q:Q (.bool true) s) :
  wpAny (model P w) A (call (.builtin "isinstance") [x,.type T]) Q E s:=Ax (isinstance_true (K2 h) e) ⟨y,q⟩
theorem aO5:U3 X (.builtin "isinstance") (λxs H Q=>∃x T b,xs=[x,.ty T]/\T∈bH4/\dF4 X.K H T x b/\Q (.bl b) H):=by
 intro M s σ H xs P Q I r h;obtain⟨x,T,b,rfl,y,Y,q⟩:=h;cases r with
 | cons U N=>
  cases N with
  | cons R D=>
   cases D;cases R
   have m:EP X M σ Q (.bool b) s:=⟨.bl b,H,I,rfl,q⟩
   have j:EP X M σ Q (.bool b) {s with toks:=s.toks+1}:=⟨.bl b,H,I.tok _,rfl,q⟩
   have w:=y
   simp only[bH4,Aa1,Ac2,or_false]at w;cases x with
   | int i=>
    obtain⟨t,rfl⟩:=U;cases Y;rcases w with rfl | rfl | rfl | rfl | rfl
    .exact aJ5 y (typeIs_int _ _ _) (by rw[Aq];kernel_rfl) m
    all_goals exact Ax (isinstance_false_int (by decide) (K2 y) (by rw[Aq];kernel_rfl)) j
   | bl k=>
    cases U
    cases Y
    rcases w with rfl | rfl | rfl | rfl | rfl
    .exact aJ5 y (PySem.typeIs_bool _ _) (by rw[Aq];kernel_rfl) m
    .exact aJ5 y (PySem.typeIs_bool _ _) (by rw[Aq];kernel_rfl) m
    all_goals exact Ax (isinstance_false_bool (by decide) (K2 y) (by rw[Aq];kernel_rfl)) j
   | str z=>
    obtain⟨t,rfl⟩:=U;cases Y;rcases w with rfl | rfl | rfl | rfl | rfl
    .exact Ax (isinstance_false_str (by decide) (K2 y) (by rw[Aq];kernel_rfl)) j
    .exact Ax (isinstance_false_str (by decide) (K2 y) (by rw[Aq];kernel_rfl)) j
    .exact aJ5 y (typeIs_str _ _ _) (by rw[Aq];kernel_rfl) m
    all_goals exact Ax (isinstance_false_str (by decide) (K2 y) (by rw[Aq];kernel_rfl)) j
   | non=>
    cases U
    cases Y
    rcases w with rfl | rfl | rfl | rfl | rfl
    all_goals exact Ax (isinstance_false_none (by decide) (K2 y) (by rw[Aq];kernel_rfl)) j
   | ref p=>
    cases U
    rcases Y with⟨B,J,rfl⟩ | ⟨B,J,rfl⟩
    .obtain⟨its,F,⟨o,n,e,c,_,_⟩,_⟩:=I.list J;rcases w with rfl | rfl | rfl | rfl | rfl
     .exact Ax (isinstance_false_list (by decide) (K2 y) (by rw[Aq];kernel_rfl)) ⟨⟨o,e,c⟩,j⟩
     .exact Ax (isinstance_false_list (by decide) (K2 y) (by rw[Aq];kernel_rfl)) ⟨⟨o,e,c⟩,j⟩
     .exact Ax (isinstance_false_list (by decide) (K2 y) (by rw[Aq];kernel_rfl)) ⟨⟨o,e,c⟩,j⟩
     .exact aJ5 y (⟨o,e,c⟩:s.TypeIs (.ref p) _) (by rw[Aq];kernel_rfl) m
     .exact Ax (isinstance_false_list (by decide) (K2 y) (by rw[Aq];kernel_rfl)) ⟨⟨o,e,c⟩,j⟩
    .obtain⟨its,F,⟨o,e,c,n,d⟩,_⟩:=I.tuple J;rcases w with rfl | rfl | rfl | rfl | rfl
     .exact Ax (isinstance_false_tuple (by decide) (K2 y) (by rw[Aq];kernel_rfl)) ⟨⟨o,e,c⟩,j⟩
     .exact Ax (isinstance_false_tuple (by decide) (K2 y) (by rw[Aq];kernel_rfl)) ⟨⟨o,e,c⟩,j⟩
     .exact Ax (isinstance_false_tuple (by decide) (K2 y) (by rw[Aq];kernel_rfl)) ⟨⟨o,e,c⟩,j⟩
     .exact Ax (isinstance_false_tuple (by decide) (K2 y) (by rw[Aq];kernel_rfl)) ⟨⟨o,e,c⟩,j⟩
     .exact aJ5 y (⟨o,e,c⟩:s.TypeIs (.ref p) _) (by rw[Aq];kernel_rfl) m
   | _=>exact Y.elim
end
theorem aL4 {X:Cx}{x:Str}{T:String}{pos:Pos}(y:Gl X x)(w:X.mg x=none)(r:bootBuiltins x=some (.type T))(z:x≠"__name__" := by decide)(e:(x==("__debug__" : Str))=false:=by decide):PE X (.Name x pos) (tC (.ty T)):=cU9 (v:=.ty T) y w r rfl z e
theorem bA6 {i:Nat}:∀v (σ:St) H Q Q',(∀σ' H',Q σ' H'->Q' σ' H')->G5 i v σ H Q->G5 i v σ H Q':=λ_ _ _ _ _ h q=>h _ _ q
theorem aY9:∀v (σ:St) H Q Q',(∀σ' H',Q σ' H'->Q' σ' H')->bE7 v σ H Q->bE7 v σ H Q':=λ_ _ _ _ _ h q=>⟨q.1,h _ _ q.2⟩
theorem bQ6 {t:TG}{u:TGs}(a:∀v (σ:St) H Q Q',(∀σ' H',Q σ' H'->Q' σ' H')->t v σ H Q->t v σ H Q')(b:∀v (σ:St) H Q Q',(∀σ' H',Q σ' H'->Q' σ' H')->u v σ H Q->u v σ H Q') :
  ∀v (σ:St) H Q Q',(∀σ' H',Q σ' H'->Q' σ' H')->Z3 t u v σ H Q->Z3 t u v σ H Q':=λ_ _ _ _ _ h ⟨v,r,e,q⟩=>⟨v,r,e,a _ _ _ _ _ (λ_ _ z=>b _ _ _ _ _ h z) q⟩
theorem dI2 {K:Frag}{i j k n:Nat}(h:i<n)(h':j<n):aO4 n (bR7 K k (Z3 (G5 i) (Z3 (G5 j) bE7))):=
 dD2 (bT6 bA6 (bQ6 bA6 aY9) (L6 h) (bT6 bA6 aY9 (L6 h') dK0))
def AllP {α:Type}(p:α->Prop):List α->Prop
 | []=>True
 | a::l=>p a/\AllP p l
theorem AllP.mem {α:Type}{p:α->Prop}:∀{l:List α},AllP p l->∀a∈l,p a
 | _::_,h,a,ha=>(Aa1.mp ha).elim (λe=>e▸h.1) λz=>AllP.mem h.2 a z
theorem W0 {β:Type}{x:Str}{v:β}:∀{l:List (Str×β)},l.lookup x=some v->(x,v)∈l
 | [],h=>by cases h
 | (y,u)::l,h=>by
  rw[List.lookup_cons]at h;by_cases e:x==y
  .rw[e]at h;have e':x=y:=eq_of_beq e;cases h;subst e';exact Am
  .have w:(x==y)=false:=by simpa using e
   rw[w]at h;exact Ad4 _ (W0 h)
theorem CScope.of {X:Cx}{scope:Scope}{cl:List (Str×Addr)}{T N':AJ}{is:AD}(clos:closureFor scope X.env=pure cl)(kind:scope.kind=.function)
  (z:scope.names.all (λy=>y.2 != .cell&&(y.2 != .local||scope.names.lookup y.1==some .local))=true) (j:AllP (λp=>X.env.cells.lookup p.1=some p.2) cl)
  (q:(relabel scope X.env).names.all (λy=>(y.2 != .cell&&y.2 != .free)||(cl.lookup y.1).isSome)=true) (s:N'=T++is.map λ(i:Nat)=>((X.N[i]?).getD Str.empty:Str))
  (m:is.all (λi=>decide (i<X.N.length))=true) (Y:AllP (λi=>∃x,X.N[i]? = some x/\((relabel scope X.env).names.lookup x=some .cell\/(relabel scope X.env).names.lookup x=some .free)/\(X.env.kindOf x=some .cell\/X.env.kindOf x=some .free)) is):CScope X scope cl T is N' where
 clos:=clos
 cell:=λy w e=>by
  have:=Ac9.mp z y w
  rw[e]at this;simp at this
 kind:=kind
 names:=λy w e=>by
  have:=Ac9.mp z y w
  rw[e]at this;simp at this;exact this
 cap:=λx c h=>j.mem (x,c) (W0 h)
 has:=λx h=>by
  have r:∀k,(relabel scope X.env).names.lookup x=some k->k=.cell\/k=.free->∃c,cl.lookup x=some c:=λk e J=>by
   have:=Ac9.mp q (x,k) (W0 e)
   rcases J with rfl | rfl <;> exact Option.isSome_iff_exists.mp this
  rcases h with h | h
  .exact r _ h (.inl rfl)
  .exact r _ h (.inr rfl)
 N:=s
 lt:=λi hi=>As (Ac9.mp m i hi)
 capt:=λi hi x e=>by
  obtain⟨y,e',h1,U⟩:=Y.mem i hi;rw[e]at e';cases e';exact⟨h1,U⟩
section
variable {X:Cx}
theorem ixK (K:Frag)(h:X.K=K:=by rfl):IxR X (rIx K):=h▸C4
theorem aD5 (K:Frag)(h:X.K=K:=by rfl):U3 X (.builtin "len") (λxs H Q=>∃p ys,xs=[.ref p]/\(SqL K H p ys\/SqT K H p ys)/\Q (.int ys.length) H):=h▸K8
theorem dF8 (K:Frag)(h:X.K=K:=by rfl):U3 X (.builtin "isinstance") (λxs H Q=>∃x T b,xs=[x,.ty T]/\T∈bH4/\dF4 K H T x b/\Q (.bl b) H):=h▸aO5
theorem dT5 (K:Frag)(h:X.K=K:=by rfl):SlR X (dD4 K):=h▸bB5
theorem dJ2 (K:Frag)(h:X.K=K:=by rfl):U3 X (.type "tuple") (λxs H Q=>∃p ys,xs=[.ref p]/\((SqL K H p ys/\∀l,H l=none->Q (.ref l) (upd H l (.tup ys)))\/(SqT K H p ys/\Q (.ref p) H))):=h▸P1
end
end L2
namespace LV
open PySem L2
section
variable {K:Frag}{ρ ρ' ρ1:List Sl}{m m':Bool}{t ta tb tc:TE}{d d':PyData}{ds es:AG}
theorem cY4 {i j:Int}(e:E K false ta ρ (.int i))(y:E K false tb ρ (.int j)):E K m (tOp rEq ta tb) ρ (.bool (decide (i=j))):=
 bL7 e y λH Q q=>⟨rfl,by
  have:decide (V.int i=V.int j)=decide (i=j):=by simp
  rw[this];exact q _ λ_=>.bl _⟩
theorem dO4 {i j:Int}(e:E K false ta ρ (.int i))(y:E K false tb ρ (.int j)):E K m (tOp rNe ta tb) ρ (.bool (!decide (i=j))):=
 bL7 e y λH Q q=>⟨rfl,by
  have:decide (V.int i=V.int j)=decide (i=j):=by simp
  rw[this];exact q _ λ_=>.bl _⟩
theorem aR9 {i:Int}(e:E K false ta ρ (.int i)):E K m (tUn (rU λi=>.int (-i)) ta) ρ (.int (-i)):=E.bor (E.imm (m:=false) λS B σ H o I Q q=>e S B σ H o I _ λv H1 y r=>by
 cases r
 exact⟨i,rfl,q _ H1 y (.int _)⟩)
theorem dJ3 {r:List V->Hp->VK->Prop}{t:TA}(e:A K false t ρ ds)(y:∀(H:Hp) (vs:List V) (Q:VK),Reps K H vs ds->(∀v,(∀H,Rep K H v d)->Q v H)->r vs H Q):E K m (tCB r t) ρ d:=λS B σ H o I Q q=>
 e S B σ H o I _ λvs H1 z rs=>y H1 vs Q rs λv w=>q v H1 z (w _)
theorem U2 {t:TA}(e:A K false t ρ [d])(h:sq d=some ds:=by rfl):E K m (tCB (λxs H Q=>∃p ys,xs=[.ref p]/\(SqL K H p ys\/SqT K H p ys)/\Q (.int ys.length) H) t) ρ (.int ds.length):=dJ3 e λH vs Q r q=>by
 cases r with
 | cons a b=>
  cases b
  cases a with
  | lst s r=>cases h;exact⟨_,_,rfl,.inl s,by rw[r.length];exact q _ λ_=>.int _⟩
  | tup s r=>cases h;exact⟨_,_,rfl,.inr s,by rw[r.length];exact q _ λ_=>.int _⟩
  | _=>cases h
def dL3 (T:String):PyData->Bool
 | .int _=>T == "int"
 | .bool _=>T == "int" || T == "bool"
 | .str _=>T == "str"
 | .list _=>T == "list"
 | .tuple _=>T == "tuple"
 | _=>false
def xNo:PyData->Bool
 | .dict _=>false
 | _=>true
theorem bK9 {T:String}(z:E K false ta ρ d)(w:T∈bH4:=by decide)(y:xNo d=true:=by first | rfl | assumption):E K m (tCB (λxs H Q=>∃x T b,xs=[x,.ty T]/\T∈bH4/\dF4 K H T x b/\Q (.bl b) H) (C0 ta (C0 (tC (.ty T)) O1))) ρ (.bool (dL3 T d)):=E.bor (E.imm (m:=false) λS B σ H o I Q q=>z S B σ H o I _ λv H1 k r=>by
 refine⟨v,T,dL3 T d,rfl,w,?_,q _ H1 k (.bl _)⟩;cases r with
 | lst s r=>exact .inl ⟨_,s,rfl⟩
 | tup s r=>exact .inr ⟨_,s,rfl⟩
 | exc e=>exact absurd y (by simp[xNo])
 | ptr=>exact absurd y (by simp[xNo])
 | adr=>exact absurd y (by simp[xNo])
 | ins _=>exact absurd y (by simp[xNo])
 | exd _ _ _=>exact absurd y (by simp[xNo])
 | dki _ _=>exact absurd y (by simp[xNo])
 | dic _ _ _=>exact absurd y (by simp[xNo])
 | _=>rfl)
theorem cV1 {r r':R2}{i j k:Int}{g g':Int->Int->Bool}(p:E K false ta ρ (.int i))(s:E K false tb ρ (.int j))(Y:E K false tc ρ (.int k)):E K m (cC3 (rI0 λi j=>.bl (g i j)) (rI0 λi j=>.bl (g' i j)) ta tb tc) ρ (.bool (g i j&&g' j k)):=
 E.bor (E.imm (m:=false) λS B σ H o I Q q=>p S B σ H o I _ λv H1 e X=>s S B σ H1 o (I.grow e) _ λu z y U=>by
  cases X;cases U
  refine⟨i,j,rfl,rfl,g i j,rfl,?_⟩;cases h:g i j with
  | false=>rw[Ab Ai];exact q _ z (L2.Same.tr e y) (by rw[h];exact .bl _)
  | true=>
   rw[Ac rfl];refine Y S B σ z o ((I.grow e).grow y) _ λw c M J=>?_
   cases J
   refine⟨j,k,rfl,rfl,q _ c (L2.Same.tr e (L2.Same.tr y M)) ?_⟩;rw[h,Bool.true_and];exact .bl _)
end
end LV
namespace LV
open PySem PySem.Spec PyProof.Rows L2
section
variable {X:Cx}{aA:Eb}{σ:L2.St}{H:Hp}{s:Shared}
mutual
theorem O5 (I:Inv X aA σ H s):∀(d:PyData) {v:V} {u:Value},d.canLay0=true->Rep X.K H v d->RelV v u->∃as,Reads s.heap u d as
 | .none,_,_,_,r,q=>by cases r;cases q;exact⟨_,.none⟩
 | .bool _,_,_,_,r,q=>by cases r;cases q;exact⟨_,.bool _⟩
 | .int _,_,_,_,r,q=>by cases r;obtain⟨t,rfl⟩:=q;exact⟨_,.int _ _⟩
 | .str _,_,_,_,r,q=>by cases r;obtain⟨t,rfl⟩:=q;exact⟨_,.str _ _⟩
 | .tuple ds,_,_,c,r,q=>by
  cases r with
  | tup sq rs=>
   cases q
   obtain⟨its,z,⟨o,e,y,n,d⟩,_⟩:=I.tuple sq;obtain⟨as,w⟩:=aD7 I ds (by simpa[PyData.canLay0]using c) rs z
   exact⟨_,.tuple e y d (by simpa using w)⟩
 | .list ds,_,_,c,r,q=>by
  cases r with
  | lst sq rs=>
   cases q
   obtain⟨its,z,⟨o,n,e,y,_,d⟩,_⟩:=I.list sq;obtain⟨as,w⟩:=aD7 I ds (by simpa[PyData.canLay0]using c) rs z
   exact⟨_,.list e y d (by simpa using w)⟩
 | .dict _,_,_,c,_,_=>by simp[PyData.canLay0]at c
theorem aD7 (I:Inv X aA σ H s):∀(ds:AG) {vs:List V} {us:AH},PyData.canLayAll0 ds=true->Reps X.K H vs ds->Vals vs us->∃as,ReadsAll s.heap us ds as
 | [],_,_,_,r,q=>by cases r;cases q;exact⟨_,.nil⟩
 | d::ds,_,_,c,r,q=>by
  have e:d.canLay0=true/\PyData.canLayAll0 ds=true:=by simpa[PyData.canLayAll0]using c
  cases r with
  | cons a b=>
   cases q with
   | cons y w=>
    obtain⟨as,h1⟩:=O5 I d e.1 a y;obtain⟨bs,z⟩:=aD7 I ds e.2 b w;exact⟨_,.cons h1 z⟩
end
def Fit (d:PyData):Prop:=d.canLay0=true/\d.depth<=32
def cX8 (K:Frag)(neg:Bool):R2:=λx y H Q=>∃d e,Rep K H x d/\Rep K H y e/\Fit d/\Fit e/\Q (.bl (if neg then !PyData.eqv d e else PyData.eqv d e)) H
def bQ8 (K:Frag)(neg:Bool):R2:=λx y H Q=>∃d e ds,Rep K H x d/\Rep K H y e/\sq e=some ds/\Fit d/\Fit e/\Q (.bl (if neg then !ds.any λz=>PyData.eqv z d else ds.any λz=>PyData.eqv z d)) H
theorem cD7 (K:Frag){k:Nat}(c:Room k X.A)(h:X.K=K:=by rfl):OpR X (compareOp .Eq) (cX8 K false):=by
 subst h;intro U s σ H x y v u Q I m Y ⟨d,e,r,j,w,z,q⟩;obtain⟨J,p⟩:=O5 I d w.1 r m;obtain⟨bs,rb⟩:=O5 I e z.1 j Y;exact SeqAt.compareEq_reads p rb w.1 z.1 (by have:=c.un;have:=w.2;lia) ⟨.bl _,H,I,rfl,q⟩
theorem dJ4 (K:Frag){k:Nat}(c:Room k X.A)(h:X.K=K:=by rfl):OpR X (compareOp .NotEq) (cX8 K true):=by
 subst h;intro U s σ H x y v u Q I m Y ⟨d,e,r,j,w,z,q⟩;obtain⟨J,p⟩:=O5 I d w.1 r m;obtain⟨bs,rb⟩:=O5 I e z.1 j Y;exact SeqAt.compareNe_reads p rb w.1 z.1 (by have:=c.un;have:=w.2;lia) ⟨.bl _,H,I,rfl,q⟩
theorem aN6 {ds:AG}(h:Fit (.list ds)\/Fit (.tuple ds)):PyData.canLayAll0 ds=true/\PyData.depthAll ds<=32:=by
 rcases h with⟨a,b⟩ | ⟨a,b⟩ <;> simp only[PyData.canLay0,PyData.depth]at a b <;> exact⟨a,by lia⟩
theorem cP1 (K:Frag){k:Nat}(p:Room k X.A)(h:X.K=K:=by rfl):OpR X (compareOp .In) (bQ8 K false):=by
 subst h;intro Y s σ H x y v u Q I N R ⟨d,e,ds,J,M,c,w,j,q⟩;obtain⟨D,m⟩:=O5 I d w.1 J N;obtain⟨bs,rb⟩:=O5 I e j.1 M R;have r:EP X Y σ Q (.bool (ds.any λz=>PyData.eqv z d)) s:=⟨.bl _,H,I,rfl,q⟩
 cases e with
 | list U=>
  cases c
  have:=aN6 (.inl j)
  exact SeqAt.in_list_reads rb m this.1 w.1 (by have:=p.un;have:=w.2;lia) r
 | tuple U=>
  cases c
  have:=aN6 (.inr j)
  exact SeqAt.in_tuple_reads rb m this.1 w.1 (by have:=p.un;have:=w.2;lia) r
 | _=>cases c
theorem aW5 (K:Frag){k:Nat}(p:Room k X.A)(h:X.K=K:=by rfl):OpR X (compareOp .NotIn) (bQ8 K true):=by
 subst h;intro Y s σ H x y v u Q I N R ⟨d,e,ds,J,M,c,w,j,q⟩;obtain⟨D,m⟩:=O5 I d w.1 J N;obtain⟨bs,rb⟩:=O5 I e j.1 M R;have r:EP X Y σ Q (.bool (!ds.any λz=>PyData.eqv z d)) s:=⟨.bl _,H,I,rfl,q⟩
 cases e with
 | list U=>
  cases c
  have:=aN6 (.inl j)
  exact SeqAt.notIn_list_reads rb m this.1 w.1 (by have:=p.un;have:=w.2;lia) r
 | tuple U=>
  cases c
  have:=aN6 (.inr j)
  exact SeqAt.notIn_tuple_reads rb m this.1 w.1 (by have:=p.un;have:=w.2;lia) r
 | _=>cases c
theorem Q4:∀{l:AF} {its:AH},Vals (l.map V.int) its->IntsAre its l
 | [],_,r=>by cases r;exact .nil
 | i::l,_,r=>by
  cases r with
  | cons a b=>
   obtain⟨t,rfl⟩:=a;exact .cons _ _ (Q4 b)
theorem bR3 {k:Int}:∀{l:AF} {m:Nat} (hm:m<l.length),m<l.idxOf k->l[m]≠k
 | [],m,hm,_=>by simp at hm
 | a::l,m,hm,h=>by
  rw[List.idxOf_cons]at h;by_cases e:a=k
  .subst e;simp at h
  .have y:(a==k)=false:=by simpa using e
   rw[y]at h;simp only[cond_false]at h;cases m with
   | zero=>simpa using e
   | succ m=>exact bR3 (l:=l) (m:=m) (by simpa using hm) (by lia)
theorem cK7 {A:Around}{P:Program}{w:World}{E:Dz}{l:Addr}{vs:AH}{ns:AF}{Q:Dz}(m:A.handled=none)(p:s.heap.IsList l vs.toArray)(hi:IntsAre vs ns)(z:0<ns.length)
  (h:∀h' M (t:Tok) tk,(∀b o,s.heap.get? b=some o->h'.get? b=some o)->M∈ns->(∀a,a∈ns->M<=a)->Q (.int M t) {s with heap:=h',toks:=tk}):wpAny (model P w) A (call (.builtin "min") [.ref l]) Q E s:=by
 obtain⟨xs,e⟩:=hi.allInts.items;have y:ns=xs.toList.map (·.1):=by rw[<- hi.numsOf,<- nums_intItems,<- e]
 have r:0<xs.size:=by
  have k:=z;rw[y,Aa3,Bl]at k;exact k
 rw[e]at p;refine min_intList m p r λv h' tk U X=>?_
 obtain⟨t,rfl⟩:=intItems_at U;obtain⟨h1,q⟩:=argBest_lt (numAt xs) (xs.size-1);refine h _ _ t tk X ?_ λa c=>?_
 .rw[y,numAt_eq];exact getD_mem (by rw[Aa3,Bl];lia)
 .rw[y]at c;obtain⟨j,Y,rfl⟩:=mem_getD c;rw[Aa3,Bl]at Y;rw[<- numAt_eq];exact q j (by lia)
theorem aW2 (K:Frag)(z:X.calm=true)(h:X.K=K:=by rfl):U3 X (.builtin "min") (λxs H Q=>∃(p:Addr) (l:AF),xs=[.ref p]/\SqL K H p (l.map V.int)/\l≠[]/\∀M,M∈l->(∀a∈l,M<=a)->Q (.int M) H):=by
 subst h;intro Y s σ H xs N Q I r ⟨p,l,e,j,y,q⟩;subst e;obtain⟨u,rfl,m⟩:=v5 r;cases m;obtain⟨its,c,pl,_⟩:=I.list j;exact cK7 (I.ok.hd z) pl.isList (Q4 c) (Cr.mpr y) λU M t J k h1 w=>⟨.int M,H,I.kept k,⟨_,rfl⟩,q M h1 w⟩
theorem cB5 (K:Frag)(h:X.K=K:=by rfl):MtR X "list.index" (λx xs H Q=>∃(p:Addr) (l:AF) (k:Int),x=.ref p/\xs=[.int k]/\SqL K H p (l.map V.int)/\k∈l/\Q (.int (l.idxOf k)) H):=by
 subst h;intro aA s σ H x xs v us Q I rx rv ⟨p,l,k,B,P,hq,hk,q⟩;subst B;subst P;cases rx;obtain⟨u,rfl,t,rfl⟩:=v5 rv;obtain⟨its,r,⟨o,n,e,c,R,d⟩,hz⟩:=I.list hq;obtain⟨oc,od,M,N⟩:=o;dsimp only at c R d;subst c;subst R;subst d;have U:=r.length;rw[Aa3]at U;have w:l.idxOf k<l.length:=Cs.mpr hk;have Y:∀(j:Nat) (w:j<its.toArray.size),∃t,its.toArray[j]=Value.int (l[j]'(by simpa[U]using w)) t:=λj w=>by
  have J:j<l.length:=by simpa[U]using w
  obtain⟨u,h1,t,rfl⟩:=r.get (i:=j) (x:=.int l[j]) (by rw[Aa9,Aa2 J];rfl)
  have:=(Ab0.mp h1).2
  exact⟨t,by simpa using this⟩
 have hz':=aK4
 rw[Aa3]at hz;refine call_meets F.slot_list_index ⟨_,e,rfl⟩ F.entry_list_index (F.args_list_index_2 _ _) (SeqAt.list_indexAt p its.toArray n none N (.int k t) (λy=>match y with | .int i _=>i==k | _=>false) (l.idxOf k) (by simpa[<- U]using w) (by lia) ?_ ?_) ⟨e,λy hy=>?_,?_⟩
 .obtain⟨D,e'⟩:=Y (l.idxOf k) (by simpa[<- U]using w)
  rw[e'];simp
 .intro m hm hlt;obtain⟨D,e'⟩:=Y m hm;rw[e']
  have:l[m]'(by simpa[U]using hm)≠k:=λz=>by
   have h1:m<l.length:=by simpa[U]using hm
   exact bR3 h1 hlt z
  simpa using this
 .obtain⟨j,w,rfl⟩:=Array.mem_iff_getElem.mp hy;obtain⟨D,e'⟩:=Y j w;rw[e'];exact SeqAt.EqAt.int_int _ _ _ _
 .exact⟨.int _,H,I.tok _,⟨_,rfl⟩,q⟩
end
theorem bF6:∀{vs:List V} {us:AH},vs.length=us.length->(∀(j:Nat) v u,vs[j]? = some v->us[j]? = some u->RelV v u)->Vals vs us
 | [],[],_,_=>.nil
 | v::vs,u::us,hl,h=>.cons (h 0 v u rfl rfl) (bF6 (by simpa using hl) λj v u e1 e2=>h (j+1) v u (by simpa using e1) (by simpa using e2))
 | [],_::_,hl,_=>by simp at hl
 | _::_,[],hl,_=>by simp at hl
section
variable {X:Cx}
def dA9 (ta:TA):TE:=λσ H Q=>ta σ H λvs H1=>∃i j:Int,vs=[.int i,.int j]/\∀p,H1 p=none->Q (.ref p) (upd H1 p (.rng i j))
theorem cW4 {a b:Expr}{ta:TA}{p pos:Pos}(m:Gl X "range")(Y:X.mg "range" = none)(c:PA X [a,b] ta)(U:starEach [a,b] X.env=[(false,eval a X.env),(false,eval b X.env)]:=by rfl)(y:starEach [b] X.env=[(false,eval b X.env)]:=by rfl) :
  PE X (.Call (.Name "range" p) [a,b] [] pos) (dA9 ta):=by
 refine⟨?_⟩;intro k s σ H Q I h;refine Call_ (z4 I m Y boot_range (Bn (thn (c pos k s σ H _ I h) λF R ⟨vs,H1,z,N,J⟩=>?_) (by rw[U,y]) (by rw[y];rfl)))
 obtain⟨i,j,e,q⟩:=J;subst e;cases N with
 | cons r rr=>
  cases rr with
  | cons M rr=>
   cases rr
   obtain⟨t,rfl⟩:=r;obtain⟨D,rfl⟩:=M;refine call_range_2 ?_;refine⟨.ref _,_,z.laid (λb o e=>Aa6 _ e) (Aa7 _) (show ObjOk X.prog X.w _ _ _ (.rng i j) from⟨_,_,_,Ac3 _ rfl⟩),rfl,q _ (z.hok.fresh (Aa7 _))⟩
def aD1 (lo:Int)(n:Nat):List V:=(List.range n).map λ(k:Nat)=>V.int (lo+(k:Int))
theorem aV0 (D:X.calm=true):U3 X (.type "list") (λxs H Q=>∃(r:Addr) (i j:Int),xs=[.ref r]/\H r=some (.rng i j)/\(-(2^62)<=i/\i<2^62 /\ -(2^62)<=j/\j<2^62/\j-i<=1000000)/\∀l,H l=none->Q (.ref l) (upd H l (.lst (aD1 i (j-i).toNat)))):=by
 intro aA s σ H xs us Q I r ⟨p,i,j,e,P,⟨h1,M,N,R,h5⟩,q⟩;subst e;obtain⟨u,rfl,rx⟩:=v5 r;cases rx;obtain⟨t,u,v,e⟩:=I.hok p _ P;have B:Builtin.Range.rangeSize i j 1=((j-i).toNat:Int):=by rw[rangeSize_one];split <;> lia
 refine call_list_range (I.ok.hd D) (show IsRange s.heap p i j 1 t u v from e) (small_one h1 M N R) B (by lia) λJ tk y m kp U it=>?_
 have rv:Vals (aD1 i (j-i).toNat) y.toList:=by
  obtain⟨hz,c⟩:=it;refine bF6 (by simp[aD1,hz]) λk v u z Y=>?_
  obtain⟨t,rfl⟩:=c k u (by simpa using Y)
  have F:k<(j-i).toNat:=by
   have:=(Ab0.mp z).1
   simpa[aD1]using this
  unfold aD1 at z;rw[Aa9,List.getElem?_range F]at z;cases z;exact⟨t,by simp⟩
 refine⟨.ref s.heap.objs.size,_,I.laid kp (Aa7 _) (show ObjOk X.prog X.w _ J _ (.lst _) from⟨?_,y.toList,m,rv,by simpa using U⟩),rfl,q _ (I.hok.fresh (Aa7 _))⟩
 simp[aD1];unfold sizeLine;lia
end
end LV
namespace PySem
open Sem (wp)
theorem bT1:typeLookup (.type "list_reverseiterator") "__len__" = pure none:=by rw[typeLookup_type,builtinLookup_eq_fast];kernel_rfl
theorem cP0:typeLookup (.type "list_reverseiterator") "__length_hint__" = pure (some (.builtin "list_reverseiterator.__length_hint__")):=by rw[typeLookup_type,builtinLookup_eq_fast];kernel_rfl
section
variable {prog:Program}{w:World}{A:Around}{E:Dz}{s:Shared}
theorem aK9 {R:Result->Shared->Prop}(D:A.handled=none){r l:Addr}{items:AK}(y:s.heap.IsRevIter r l ((items.size:Int)-1))(B:s.heap.IsList l items)(Y:l≠r)(S:Addr)(z:S≠r)(q:S≠l)(res:Value)(X:Nat)(N:s.heap.get? S=some {cls:=.type "list",data:=.seq #[] X})
  (M:∀h' tk acc' c',(∀b o,b≠S->b≠r->s.heap.get? b=some o->h'.get? b=some o)->h'.get? S=some {cls:=.type "list",dict:=none,data:=.seq acc' c',slots := #[]} ->
   ItemsOf (λi v=>items[items.size-1-i]? = some v) acc' items.size->R (.ok (.ret res)) {s with heap:=h',toks:=tk}) (P:items.size<=sizeLine) :
  wpAny (model prog w) A.in1 (Builtin.List.listExtendWith (.ref S) (.ref r) res)
   (λfin s'=>match fin with | .done f=>R (.ok f) s' | .again c'=>c'.quiet=true/\codeAny (model prog w) A c' R s') (λe s'=>R (.error e) s') s:=by
 have p:S∉[r,l]:=λj=>by simp at j;rcases j with h | h;exact z h;exact q h
 unfold Builtin.List.listExtendWith;refine Aa (wpAny_typeOf y.typeIs ?_);have h1:Builtin.List.listSameRef (.ref S) (.ref r)=false:=by simp[Builtin.List.listSameRef,z]
 have U:(Value.type "list_reverseiterator" == Value.type "list")=false:=by decide
 have J:(Value.type "list_reverseiterator" == Value.type "tuple")=false:=by decide
 simp only[h1,U,J,Bool.or_false,Bx,if_false];refine Aa (wpAny_pyIter_revIter y ?_);refine Aa (Bz ?_);unfold Builtin.List.listLengthHint;refine Aa (wpAny_specialOf y.typeIs bT1 ?_);show wpAny _ A.in1 (specialOf (Value.ref r) (Str.ofString "__length_hint__") >>= _) _ _ _;refine Aa (wpAny_specialOf y.typeIs cP0 ?_)
 wp_delta
 refine Aa (wpAny_isInstance (b:=true) y.typeIs (by rw[Aq];kernel_rfl) ?_)
 refine Ae ?_;rw[Ab (by decide)]
 refine Ae ⟨plainId_quiet F.plain_extend_loop _,codeAny_extend_loopS (Walks.listRev (A:=A.in1) D r l Y items).toS P S p res items.size 0 _ _ _ rfl (Cj _) ⟨Cj _,by simpa using y,B⟩ N (ItemsOf.nil _) λs' acc' c' j c k=>?_⟩
 rw[Moved.eq_with j]
 refine M s'.heap s'.toks acc' c' (λb ob Q m e=>j.heap b ob (λhmem=>?_) e) c k
 rcases Aa1.mp hmem with e' | hmem
 .exact Q e'
 .exact m (Ad8.mp hmem)
theorem aC6 {R:Result->Shared->Prop}(N:A.handled=none){r l:Addr}{items:AK}(X:s.heap.IsRevIter r l ((items.size:Int)-1))(D:s.heap.IsList l items)(U:l≠r)(S:Addr)(k:S≠r)(z:S≠l)(p:s.heap.get? S=some {cls:=.type "list",data:=.seq #[]})
  (M:∀h' tk acc' c',(∀b o,b≠S->b≠r->s.heap.get? b=some o->h'.get? b=some o)->h'.get? S=some {cls:=.type "list",dict:=none,data:=.seq acc' c',slots := #[]} ->
   ItemsOf (λi v=>items[items.size-1-i]? = some v) acc' items.size->R (.ok (.ret .none)) {s with heap:=h',toks:=tk}) (F:items.size<=sizeLine) :
  wpAny (model prog w) A.in1 (Builtin.«list.__init__» ⟨[.ref S,.ref r],[]⟩)
   (λfin s'=>match fin with | .done f=>R (.ok f) s' | .again c'=>c'.quiet=true/\codeAny (model prog w) A c' R s') (λe s'=>R (.error e) s') s:=by
 show wpAny _ _ (do let J <- Builtin.List.listItems (.ref S);Builtin.List.listUpdate (.ref S) (λ_ => #[]);letGo J.toList.reverse;Builtin.List.listExtendWith (.ref S) (.ref r) .none) _ _ s
 refine Aa ?_;unfold Builtin.List.listItems;refine Aa (wpAny_seqItems p rfl (Ae ?_));show wpAny _ _ (updateSeq S (λ_ => #[]) >>= λ_=>letGo (#[]:AK).toList.reverse >>= λ_=>Builtin.List.listExtendWith (.ref S) (.ref r) .none) _ _ s
 refine Aa (wpAny_updateSeq p rfl ?_);have m:=Dn (Obj.mapSeq (λ_=>(#[]:AK))) p rfl
 have y:∀b o,b≠S->s.heap.get? b=some o->(s.heap.update S (Obj.mapSeq (λ_=>(#[]:AK)))).get? b=some o:=
  λb o c e=>(Cz _ _ (Ne.symm c)).trans e
 refine Aa (wpAny_letGo ?_);refine aK9 N (s:={s with heap:=s.heap.update S (Obj.mapSeq (λ_=>(#[]:AK)))}) (X.at λo e=>y r o k.symm e) (D.at λo e=>y l o z.symm e) U S k z .none _ m (λh' tk acc' c' Q q j=>?_) F
 exact M h' tk acc' c' (λb o c Y e=>Q b o c Y (y b o c e)) q j
theorem aQ5 {Q:Dz}{r l:Addr}{items:AK}(U:A.handled=none)(z:s.heap.IsRevIter r l ((items.size:Int)-1))(q:s.heap.IsList l items)(c:l≠r)(M:items.size<=sizeLine)
  (Y:∀h' tk acc' c',(∀b o,b≠r->s.heap.get? b=some o->h'.get? b=some o) ->
   h'.get? s.heap.objs.size=some {cls:=.type "list",dict:=none,data:=.seq acc' c',slots := #[]}->ItemsOf (λi v=>items[items.size-1-i]? = some v) acc' items.size->Q (.ref s.heap.objs.size) {s with heap:=h',toks:=tk}) :
  wpAny (model prog w) A (call (.type "list") [.ref r]) Q E s:=by
 refine callType_codes (Q₁:=λk m=>k=.ref s.heap.objs.size/\m={s with heap:=s.heap.push {cls:=.type "list",data:=.seq #[]}}) F.called_list (F.typeCall_list_1 _) F.entry_list_init
  (code_list_new _ ⟨rfl,rfl⟩) λk m N=>?_
 obtain⟨rfl,rfl⟩:=N;have p:(s.heap.push {cls:=.type "list",data:=.seq #[]}).get? s.heap.objs.size=some {cls:=.type "list",data:=.seq #[]}:=Ac3 _ rfl;have D:s.heap.objs.size≠r:=by obtain⟨o,e,_⟩:=z;exact(Ab9 (Ab3 e)).symm
 have R:s.heap.objs.size≠l:=by obtain⟨o,e,_⟩:=q;exact(Ab9 (Ab3 e)).symm
 refine⟨⟨_,p,rfl⟩,F.args_list_init_2 _ _,aC6 (A:=A.in1) U (s:={s with heap:=s.heap.push {cls:=.type "list",data:=.seq #[]}}) (z.at λo e=>Aa6 _ e) (q.at λo e=>Aa6 _ e) c _ D R p (λh' tk acc' c' J j y=>?_) M⟩
 exact⟨rfl,Y h' tk acc' c' (λb o X e=>J b o (Ab9 (Ab3 e)) X (Aa6 _ e)) j y⟩
end
end PySem
namespace LV
open PySem PySem.Spec PyProof.Rows L2
section
variable {X:Cx}
def bU8 (K:Frag)(te:TE):TE:=λσ H Q=>te σ H λx H1=>∃p ys,x=.ref p/\SqL K H1 p ys/\∀l,H1 l=none->Q (.ref l) (upd H1 l (.lst ys.reverse))
theorem bH6 (K:Frag){e:Expr}{te:TE}{p1 p2 pos1 pos2:Pos}(hc:X.calm=true)(D:Gl X "list")(hm1:X.mg "list" = none)(F:Gl X "reversed")(hm2:X.mg "reversed" = none)(he:PE X e te)(hK:X.K=K:=by rfl)
  (Y:starEach [e] X.env=[(false,eval e X.env)]:=by rfl) (U:starEach [Expr.Call (.Name "reversed" p2) [e] [] pos2] X.env=[(false,eval (Expr.Call (.Name "reversed" p2) [e] [] pos2) X.env)]:=by rfl) :
  PE X (.Call (.Name "list" p1) [.Call (.Name "reversed" p2) [e] [] pos2] [] pos1) (bU8 K te):=by
 subst hK;refine⟨?_⟩;intro N s σ H Q I h;refine wpAny_Call_Name_kw (z4 I D hm1 boot_list ?_);refine Bn ?_ (by rw[U];rfl) rfl
 rw[U];show wpAny _ _ (spliced [(false,eval (Expr.Call (.Name "reversed" p2) [e] [] pos2) X.env)]) _ _ s;refine Calls.spliced_cons ?_;refine wpAny_Call_Name_kw (z4 I F hm2 boot_reversed ?_);refine Bn ?_ (by rw[Y];rfl) rfl
 rw[Y];show wpAny _ _ (spliced [(false,eval e X.env)]) _ _ s;refine Calls.spliced_cons (thn (he N s σ H _ I h) λu k ⟨x,H1,m,r1,p,ys,M,hq,q⟩=>?_)
 subst M;cases r1;refine Calls.spliced_nil ?_;obtain⟨its,rv,pl,c⟩:=m.list hq;have z:=rv.length;have P:p<k.heap.objs.size:=by obtain⟨o,n,e,_⟩:=pl;exact Ab3 e
 refine call_reversed_list pl.isList ?_;refine Calls.spliced_nil ?_;have I2:Inv X N σ H1 {k with heap:=k.heap.push (revObj p ((its.toArray.size:Int)-1))}:=m.kept (t':=k.toks) λb o e=>Aa6 _ e
 refine aQ5 (m.ok.hd hc) (r:=k.heap.objs.size) (items:=its.toArray) ⟨_,Ac3 _ rfl,rfl,rfl⟩ (pl.isList.at λo e=>Aa6 _ e) (Ab9 P) (by rw[Ab2];lia) λR tk y c' kp el it=>?_
 have rr:Vals ys.reverse y.toList:=by
  obtain⟨c,B⟩:=it;have c:y.size=its.length:=by simpa using c
  refine bF6 (by simp[c,z]) λj v u M e2=>?_
  have hj:j<its.length:=by
   have:=(Ab0.mp e2).1
   simpa[c]using this
  have hu:=B j u (by simpa using e2)
  rw[List.getElem?_reverse (by lia),z]at M
  obtain⟨u',h1,h2⟩:=rv.get M;simp only[Ab2]at hu;have J:its[its.length-1-j]? = some u:=by simpa using hu
  rw[h1]at J;cases J;exact h2
 have kp':∀b o,k.heap.get? b=some o->R.get? b=some o:=λb o e=>kp b o (Ab9 (Ab3 e)) (Aa6 _ e)
 have I3:Inv X N σ (upd H1 (k.heap.push (revObj p ((its.toArray.size:Int)-1))).objs.size (.lst ys.reverse)) {k with heap:=R,toks:=tk}:=
  m.laid kp' (by rw[Dq];exact Nat.le_succ _) (show ObjOk X.prog X.w _ R _ (.lst _) from⟨by rw[Ae2];exact c,y.toList,c',rr,by simpa using el⟩)
 exact⟨.ref _,_,I3,rfl,q _ (m.hok.fresh (by rw[Dq];exact Nat.le_succ _))⟩
theorem cU1 {s:Shared}{h':Heap}{o:Obj}(y:∀b x,b∉[s.heap.objs.size]->(s.heap.push o).get? b=some x->h'.get? b=some x):∀b x,s.heap.get? b=some x->h'.get? b=some x:=
 λb x e=>y b x (λw=>by rw[Ad8.mp w]at e;exact Ad9 _ (Ab3 e)) (Aa6 _ e)
theorem cS7 {bs:List Bool}{its:AH}(r:Vals (bs.map V.bl) its){i:Nat}{v:Value}(e:its[i]? = some v):∃b,bs[i]? = some b/\v=.bool b:=by
 have w:=r.length
 rw[Aa3]at w;have hi:i<bs.length:=by have:=(Ab0.mp e).1;lia
 obtain⟨u,h1,y⟩:=r.get (i:=i) (x:=.bl bs[i]) (by rw[Aa9,Aa2 hi];rfl)
 rw[e]at h1;cases h1;exact⟨_,Aa2 hi,y⟩
theorem aA8 (K:Frag)(c:X.calm=true)(h:X.K=K:=by rfl):U3 X (.builtin "all") (λxs H Q=>∃(p:Addr) (l:List Bool),xs=[.ref p]/\SqL K H p (l.map V.bl)/\Q (.bl (l.all id)) H):=by
 subst h;intro N s σ H xs B Q I r ⟨p,l,e,Y,q⟩;subst e;obtain⟨u,rfl,U⟩:=v5 r;cases U;obtain⟨its,k,pl,_⟩:=I.list Y;have y:=pl.isList;have w:p<s.heap.objs.size:=by obtain⟨_,e,_⟩:=y;exact Ab3 e
 refine call_all_walk (wpAny_pyIter_list y ?_);refine⟨s.heap.objs.size,[s.heap.objs.size,p],[s.heap.objs.size],its.toArray.size,_,_,λi=>(l[i]?).getD true,rfl,Walks.list (A:=X.A.in1) (I.ok.hd c) _ p (Ab9 w) its.toArray,
  ⟨⟨_,Ac3 _ rfl,rfl,rfl⟩,y.push _⟩,λi v D M J j z=>?_,λR F m=>?_⟩
 .obtain⟨b,e,rfl⟩:=cS7 k (i:=i) (v:=v) (by simpa using j)
  simp only[e,Option.getD_some]at z;exact wpAny_truthy_bool z
 .have e:((List.range its.toArray.size).all λi=>(l[i]?).getD true)=l.all id:=by
   have:=k.length
   rw[Aa3]at this;rw[Ab2,<- this];exact LSm.range_all l
  rw[e];exact⟨.bl _,H,I.kept (cU1 m),rfl,q⟩
end
end LV
namespace LS
open PySem PySem.W PyProof.Rows
def ev {α:Type}(lt:Nat->Nat->Bool):KasT α->α
 | .ret a=>a
 | .ask i j k=>ev lt (k (lt i j))
theorem X4 {α β:Type}(lt:Nat->Nat->Bool)(f:α->KasT β):∀t:KasT α,ev lt (t.bind f)=ev lt (f (ev lt t))
 | .ret _=>rfl
 | .ask i j k=>X4 lt f (k (lt i j))
def Q1 {α:Type}(lt:Nat->Nat->Bool)(P:Nat->Prop):KasT α->Prop
 | .ret _=>True
 | .ask i j k=>P i/\P j/\Q1 lt P (k (lt i j))
theorem Q5 {α β:Type}{lt:Nat->Nat->Bool}{P:Nat->Prop}{f:α->KasT β}:∀{t:KasT α},Q1 lt P t->Q1 lt P (f (ev lt t))->Q1 lt P (t.bind f)
 | .ret _,_,h=>h
 | .ask _ _ _,⟨h1,e,y⟩,h=>⟨h1,e,Q5 y h⟩
theorem bW4 {α:Type}{lt:Nat->Nat->Bool}{P:Nat->Prop}{cmp:Nat->Nat->(Bool->Shared->Prop)->Shared->Prop}{Q:α->Shared->Prop}{s:Shared}
  (e:∀i j C,P i->P j->C (lt i j) s->cmp i j C s):∀(t:KasT α),Q1 lt P t->Q (ev lt t) s->t.kasWp cmp Q s
 | .ret _,_,h=>h
 | .ask i j k,⟨h1,y,w⟩,h=>e i j _ h1 y (bW4 e (k (lt i j)) w h)
structure Ord (lt:Nat->Nat->Bool):Prop where
 asym:∀a b,lt a b=true->lt b a=false
 trans:∀a b c,lt b a=false->lt c b=false->lt c a=false
section
variable {lt:Nat->Nat->Bool}
def g (p:Array Nat)(i:Nat):Nat:=p.getD i 0
theorem aI4 {p:Array Nat}{i:Nat}:g p i=(p[i]?).getD 0:=by unfold g;simp[Array.getD_eq_getD_getElem?]
abbrev le (lt:Nat->Nat->Bool)(a b:Nat):Prop:=lt b a=false
theorem Ord.refl (O:Ord lt)(a:Nat):le lt a a:=by
 cases h:lt a a with
 | false=>exact h
 | true=>exact O.asym a a h
theorem Ord.of_lt (O:Ord lt){a b:Nat}(h:lt a b=true):le lt a b:=O.asym a b h
def Srt (lt:Nat->Nat->Bool)(p:Array Nat)(k:Nat):Prop:=∀i j,i<=j->j<k->le lt (g p i) (g p j)
def Dsc (lt:Nat->Nat->Bool)(p:Array Nat)(k:Nat):Prop:=∀i j,i<=j->j<k->le lt (g p j) (g p i)
theorem aV9 {p:Array Nat}{i j:Nat}(e:j<=p.size)(k:Nat):g (kas_rev p i j) k=if i<=k/\k<j then g p (i+j-1-k) else g p k:=by
 unfold kas_rev;rw[aI4,getElem?_mirror_all e,aI4,aI4];split <;> rfl
theorem dS1 {p:Array Nat}{k l:Nat}(e:k<p.size)(y:l<=k)(i:Nat):g (bubble p k (k-l)) i=if i=l then g p k else if l<i/\i<=k then g p (i-1) else g p i:=by
 rw[aI4,getElem?_bubble e _ (by lia),aI4,aI4,aI4,show k-(k-l)=l by lia]
 repeat' split
 all_goals rfl
theorem bG7 (O:Ord lt){p:Array Nat}{N:Nat}:∀(f n:Nat),1<=n->n+f<=N->Srt lt p n->∃m,ev lt (kas_asc p f n)=m/\n<=m/\m<=n+f/\Srt lt p m/\(m<n+f->lt (g p m) (g p (m-1))=true)/\Q1 lt (λi=>∃j,j<N/\i=g p j) (kas_asc p f n)
 | 0,n,h1,hN,h=>⟨n,rfl,Aa7 _,Aa7 _,h,λz=>absurd z (Ad9 _),trivial⟩
 | f+1,n,h1,hN,h=>by
  cases y:lt (g p n) (g p (n-1)) with
  | true=>
   refine⟨n,?_,Aa7 _,by lia,h,λ_=>y,⟨n,by lia,rfl⟩,⟨n-1,by lia,rfl⟩,?_⟩
   .show ev lt (if lt (g p n) (g p (n-1))=true then KasT.ret n else kas_asc p f (n+1))=n
    rw[y];rfl
   .show Q1 lt _ (if lt (g p n) (g p (n-1))=true then KasT.ret n else kas_asc p f (n+1))
    rw[y];exact trivial
  | false=>
   have s:Srt lt p (n+1):=λi j w U=>by
    by_cases e:j=n
    .subst e;by_cases q:i=j
     .subst q;exact O.refl _
     .exact O.trans _ _ _ (h i (j-1) (by lia) (by lia)) y
    .exact h i j w (by lia)
   obtain⟨m,e,Y,X,r,k,c⟩:=bG7 O (N:=N) f (n+1) (by lia) (by lia) s
   refine⟨m,?_,by lia,by lia,r,λz=>k (by lia),⟨n,by lia,rfl⟩,⟨n-1,by lia,rfl⟩,?_⟩
   .show ev lt (if lt (g p n) (g p (n-1))=true then KasT.ret n else kas_asc p f (n+1))=m
    rw[y];exact e
   .show Q1 lt _ (if lt (g p n) (g p (n-1))=true then KasT.ret n else kas_asc p f (n+1))
    rw[y];exact c
def Same (lt:Nat->Nat->Bool)(p:Array Nat)(n q:Nat):Prop:=q<n/\∀i j,n-1-q<=i->i<n->n-1-q<=j->j<n->le lt (g p i) (g p j)
theorem bU6 (O:Ord lt){p:Array Nat}{n q:Nat}(Y:n<=p.size)(h:Dsc lt p n)(y:Same lt p n q):Dsc lt (kas_rev p (n-(q+1)) n) n/\(∀k,n<=k->g (kas_rev p (n-(q+1)) n) k=g p k)/\Same lt (kas_rev p (n-(q+1)) n) n q:=by
 obtain⟨X,y⟩:=y;have e:∀k,g (kas_rev p (n-(q+1)) n) k=if n-(q+1)<=k/\k<n then g p (n-(q+1)+n-1-k) else g p k:=aV9 Y;have al:∀k,k<n->le lt (g (kas_rev p (n-(q+1)) n) k) (g p k)/\le lt (g p k) (g (kas_rev p (n-(q+1)) n) k):=λk m=>by
  rw[e];split
  .exact⟨y _ _ (by lia) (by lia) (by lia) (by lia),y _ _ (by lia) (by lia) (by lia) (by lia)⟩
  .exact⟨O.refl _,O.refl _⟩
 refine⟨λi j w c=>?_,λk m=>by rw[e,Ab (by lia)],X,λi j h1 z s r=>?_⟩
 .exact O.trans _ _ _ (al j c).1 (O.trans _ _ _ (h i j w c) (al i (by lia)).2)
 .exact O.trans _ _ _ (al i z).1 (O.trans _ _ _ (y i j h1 z s r) (al j r).2)
theorem z7 (O:Ord lt){p:Array Nat}{n:Nat}(h1:1<=n)(h:Dsc lt p n)(z:le lt (g p n) (g p (n-1))):Dsc lt p (n+1):=λi j y r=>by
 by_cases e:j=n
 .subst e;by_cases w:i=j
  .subst w;exact O.refl _
  .exact O.trans _ _ _ z (h i (j-1) (by lia) (by lia))
 .exact h i j y (by lia)
theorem aN8 (O:Ord lt){P:Nat->Prop}{N:Nat}:∀(f:Nat) (p:Array Nat) (n q:Nat),1<=n->n+f<=N->N<=p.size->(∀j,j<N->P (g p j))->Dsc lt p n->Same lt p n q ->
  ∃p' m q',ev lt (kas_desc f p n q)=(p',m,q')/\p'.Perm p/\n<=m/\m<=n+f/\Dsc lt p' m/\Same lt p' m q'/\(∀j,j<N->P (g p' j))/\Q1 lt P (kas_desc f p n q)
 | 0,p,n,q,h1,hN,hz,hP,h,y=>⟨p,n,q,rfl,Array.Perm.refl _,Aa7 _,Aa7 _,h,y,hP,trivial⟩
 | f+1,p,n,q,h1,hN,hz,hP,h,y=>by
  have sh:∀c:Bool,lt (g p n) (g p (n-1))=c->ev lt (kas_desc (f+1) p n q)=ev lt (if c=true then(if q>0 then kas_desc f (kas_rev p (n-(q+1)) n) (n+1) 0 else kas_desc f p (n+1) 0)
    else .ask (g p (n-1)) (g p n) λd=>if d=true then .ret (p,n,q) else kas_desc f p (n+1) (q+1)):=λc e=>by subst e;rfl
  have w:∀c:Bool,lt (g p n) (g p (n-1))=c->Q1 lt P (if c=true then(if q>0 then kas_desc f (kas_rev p (n-(q+1)) n) (n+1) 0 else kas_desc f p (n+1) 0)
    else .ask (g p (n-1)) (g p n) λd=>if d=true then .ret (p,n,q) else kas_desc f p (n+1) (q+1))->Q1 lt P (kas_desc (f+1) p n q):=λc e hh=>by subst e;exact⟨hP n (by lia),hP (n-1) (by lia),hh⟩
  cases z:lt (g p n) (g p (n-1)) with
  | true=>
   rw[sh true z,Ac rfl];have w:=w true z;rw[Ac rfl]at w;by_cases Q:q>0
   .rw[Ac Q]at w ⊢;obtain⟨d1,d2,d3⟩:=bU6 O (by lia) h y
    have hl:le lt (g (kas_rev p (n-(q+1)) n) n) (g (kas_rev p (n-(q+1)) n) (n-1)):=by
     rw[d2 n (Aa7 _),aV9 (by lia),Ac (by lia)]
     exact O.trans _ _ _ (O.of_lt z) (y.2 _ _ (by lia) (by lia) (by have:=y.1;lia) (by have:=y.1;lia))
    obtain⟨p',m,q',k,s,D,F,Y,X,U,J⟩:=aN8 O (P:=P) (N:=N) f (kas_rev p (n-(q+1)) n) (n+1) 0 (by lia) (by lia) (by unfold kas_rev;rw[mirror_size];exact hz) (λj hj=>by
     rw[aV9 (by lia)]
     split
     .exact hP _ (by have:=y.1;lia)
     .exact hP j hj) (z7 O h1 d1 hl) ⟨by lia,λi j B M b3 R=>by
      have:i=j:=by lia
      subst this;exact O.refl _⟩
    exact⟨p',m,q',k,s.trans (mirror_perm _ _ _ _),by lia,by lia,Y,X,U,w J⟩
   .rw[Ab Q]at w ⊢;obtain⟨p',m,q',k,s,D,F,Y,X,U,J⟩:=aN8 O (P:=P) (N:=N) f p (n+1) 0 (by lia) (by lia) hz hP (z7 O h1 h (O.of_lt z)) ⟨by lia,λi j B M b3 R=>by
      have:i=j:=by lia
      subst this;exact O.refl _⟩
    exact⟨p',m,q',k,s,by lia,by lia,Y,X,U,w J⟩
  | false=>
   rw[sh false z,Ab Ai];have w:=w false z;rw[Ab Ai]at w;cases r:lt (g p (n-1)) (g p n) with
   | true=>
    refine⟨p,n,q,?_,Array.Perm.refl _,Aa7 _,by lia,h,y,hP,w ⟨hP _ (by lia),hP _ (by lia),?_⟩⟩
    .show ev lt (if lt (g p (n-1)) (g p n)=true then _ else _)=_
     rw[r];rfl
    .show Q1 lt P (if lt (g p (n-1)) (g p n)=true then _ else _)
     rw[r];exact trivial
   | false=>
    obtain⟨Q,y⟩:=y;have s':Same lt p (n+1) (q+1):=⟨by lia,λi j B M b3 R=>by
     have up:∀i,n-1-q<=i->i<n+1->le lt (g p i) (g p (n-1))/\le lt (g p (n-1)) (g p i):=λi c1 c2=>by
      by_cases e:i=n
      .subst e;exact⟨r,z⟩
      .exact⟨y i (n-1) c1 (by lia) (by lia) (by lia),y (n-1) i (by lia) (by lia) c1 (by lia)⟩
     exact O.trans _ _ _ (up i (by lia) M).1 (up j (by lia) R).2⟩
    obtain⟨p',m,q',k,s,D,F,Y,X,U,J⟩:=aN8 O (P:=P) (N:=N) f p (n+1) (q+1) (by lia) (by lia) hz hP (z7 O h1 h r) s'
    refine⟨p',m,q',?_,s,by lia,by lia,Y,X,U,w ⟨hP _ (by lia),hP _ (by lia),?_⟩⟩
    .show ev lt (if lt (g p (n-1)) (g p n)=true then _ else _)=_
     rw[r];exact k
    .show Q1 lt P (if lt (g p (n-1)) (g p n)=true then _ else _)
     rw[r];exact J
theorem cY6 (O:Ord lt){P:Nat->Prop}{p:Array Nat}{N:Nat}(e:∀j,j<N->P (g p j)){f n:Nat}(h1:1<=n)(y:n+f<=N)(h:Srt lt p n):Q1 lt P (kas_asc p f n):=by
 obtain⟨_,_,_,_,_,_,a⟩:=bG7 O f n h1 y h;have q:∀{α:Type} (t:KasT α),Q1 lt (λi=>∃j,j<N/\i=g p j) t->Q1 lt P t:=λ{α} t=>by
  induction t with
  | ret _=>exact λz=>z
  | ask i j k c=>
   rintro⟨⟨a,w,rfl⟩,⟨b,r,rfl⟩,z⟩;exact⟨e a w,e b r,c _ z⟩
 exact q _ a
theorem bL1 (O:Ord lt){P:Nat->Prop}{p:Array Nat}{n N:Nat}(h1:1<=n)(U:n<=N)(J:N<=p.size)(w:∀j,j<N->P (g p j))(h:Dsc lt p n) :
  ∃m p',ev lt (kas_tail3 n N p)=(m,p')/\p'.Perm p/\1<=m/\m<=N/\Srt lt p' m/\(∀j,j<N->P (g p' j))/\Q1 lt P (kas_tail3 n N p):=by
 have e:∀k,g (kas_rev p 0 n) k=if 0<=k/\k<n then g p (0+n-1-k) else g p k:=aV9 (by lia)
 have s:Srt lt (kas_rev p 0 n) n:=λi j q z=>by
  rw[e,e,Ac (by lia),Ac (by lia)]
  exact h _ _ (by lia) (by lia)
 have y:∀j,j<N->P (g (kas_rev p 0 n) j):=λj z=>by
  rw[e];split
  .exact w _ (by lia)
  .exact w j z
 obtain⟨m,r,Y,X,c,_,_⟩:=bG7 O (p:=kas_rev p 0 n) (N:=N) (N-n) n h1 (by lia) s
 refine⟨m,kas_rev p 0 n,?_,mirror_perm _ _ _ _,by lia,by lia,c,y,Q5 (cY6 O y h1 (by lia) s) trivial⟩
 unfold kas_tail3;rw[X4,r];rfl
theorem aM2 (O:Ord lt){P:Nat->Prop}{p:Array Nat}{n N:Nat}(h1:1<=n)(hn:n+1<=N)(F:N<=p.size)(hP:∀j,j<N->P (g p j))(h:Dsc lt p (n+1)) :
  ∃m p',ev lt (kas_descPart n N p)=(m,p')/\p'.Perm p/\1<=m/\m<=N/\Srt lt p' m/\(∀j,j<N->P (g p' j))/\Q1 lt P (kas_descPart n N p):=by
 obtain⟨q,y,e,w,s,a2,a3,R,Q,Y,D⟩:=aN8 O (P:=P) (N:=N) (N-(n+1)) p (n+1) 0 (by lia) (by lia) F hP h ⟨by lia,λi j z r b3 k=>by
  have:i=j:=by lia
  subst this;exact O.refl _⟩
 have B:N<=q.size:=by rw[s.size_eq];exact F
 unfold kas_descPart;by_cases c:e>0
 .obtain⟨d1,d2,d3⟩:=bU6 O (by lia) R Q
  have M:∀j,j<N->P (g (kas_rev q (y-(e+1)) y) j):=λj hj=>by
   rw[aV9 (by lia)]
   split
   .exact Y _ (by have:=Q.1;lia)
   .exact Y j hj
  obtain⟨m,p',X,z,r,b3,k,U,J⟩:=bL1 O (P:=P) (p:=kas_rev q (y-(e+1)) y) (n:=y) (N:=N) (by lia) (by lia) (by unfold kas_rev;rw[mirror_size];exact B) M d1
  refine⟨m,p',?_,z.trans ((mirror_perm _ _ _ _).trans s),r,b3,k,U,Q5 D ?_⟩
  .rw[X4,w];show ev lt (if e>0 then _ else _)=_;rw[Ac c];exact X
  .rw[w];show Q1 lt P (if e>0 then _ else _);rw[Ac c];exact J
 .obtain⟨m,p',X,z,r,b3,k,U,J⟩:=bL1 O (P:=P) (p:=q) (n:=y) (N:=N) (by lia) (by lia) B Y R
  refine⟨m,p',?_,z.trans s,r,b3,k,U,Q5 D ?_⟩
  .rw[X4,w];show ev lt (if e>0 then _ else _)=_;rw[Ab c];exact X
  .rw[w];show Q1 lt P (if e>0 then _ else _);rw[Ab c];exact J
theorem cE2 (O:Ord lt){P:Nat->Prop}{p:Array Nat}{N:Nat}(h1:1<=N)(hz:N<=p.size)(y:∀j,j<N->P (g p j)) :
  ∃m p',ev lt (kas_count N p)=(m,p')/\p'.Perm p/\1<=m/\m<=N/\Srt lt p' m/\(∀j,j<N->P (g p' j))/\Q1 lt P (kas_count N p):=by
 have s1:Srt lt p 1:=λi j q w=>by
  have:i=j:=by lia
  subst this;exact O.refl _
 obtain⟨n,B,Y,a2,X,a4,_⟩:=bG7 O (p:=p) (N:=N) (N-1) 1 (by lia) (by lia) s1
 have aP:=cY6 O y (f:=N-1) (n:=1) (by lia) (by lia) s1
 unfold kas_count;have s:∀{t:KasT (Nat×Array Nat)},(if(n==N)=true then KasT.ret (n,p) else if n>1 then .ask (p.getD 0 0) (p.getD (n-1) 0) λc=>if c=true then .ret (n,p) else kas_descPart n N (kas_rev p 0 n) else kas_descPart n N p)=t ->
   (∃m p',ev lt t=(m,p')/\p'.Perm p/\1<=m/\m<=N/\Srt lt p' m/\(∀j,j<N->P (g p' j))/\Q1 lt P t) ->
   ∃m p',ev lt ((kas_asc p (N-1) 1).bind λn=>if(n==N)=true then .ret (n,p) else if n>1 then .ask (p.getD 0 0) (p.getD (n-1) 0) λc=>if c=true then .ret (n,p) else kas_descPart n N (kas_rev p 0 n) else kas_descPart n N p)=(m,p')/\p'.Perm p/\1<=m/\m<=N/\Srt lt p' m/\(∀j,j<N->P (g p' j)) /\
    Q1 lt P ((kas_asc p (N-1) 1).bind λn=>if(n==N)=true then .ret (n,p) else if n>1 then .ask (p.getD 0 0) (p.getD (n-1) 0) λc=>if c=true then .ret (n,p) else kas_descPart n N (kas_rev p 0 n) else kas_descPart n N p):=λ{t} e h=>by
  obtain⟨m,p',U,J,M,b3,R,Q,D⟩:=h;refine⟨m,p',?_,J,M,b3,R,Q,Q5 aP ?_⟩
  .rw[X4,B,e];exact U
  .rw[B,e];exact D
 refine s rfl ?_;by_cases e:n=N
 .rw[Ac (by simp[e])]
  exact⟨n,p,rfl,Array.Perm.refl _,Y,by lia,X,y,trivial⟩
 .rw[Ab (by simp[e])]
  have hd:=a4 (by lia)
  by_cases h2:n>1
  .rw[Ac h2];cases r:lt (g p 0) (g p (n-1)) with
   | true=>
    refine⟨n,p,?_,Array.Perm.refl _,Y,by lia,X,y,y 0 (by lia),y (n-1) (by lia),?_⟩
    .show ev lt (if lt (g p 0) (g p (n-1))=true then _ else _)=_
     rw[r];rfl
    .show Q1 lt P (if lt (g p 0) (g p (n-1))=true then _ else _)
     rw[r];exact trivial
   | false=>
    have al:∀i j,i<n->j<n->le lt (g p i) (g p j):=λi j hi w=>O.trans _ _ _ (X i (n-1) (by lia) (by lia)) (O.trans _ _ _ r (X 0 j (by lia) w))
    have z:∀k,g (kas_rev p 0 n) k=if 0<=k/\k<n then g p (0+n-1-k) else g p k:=aV9 (by lia)
    have ds:Dsc lt (kas_rev p 0 n) (n+1):=by
     refine z7 O Y (λi j q w=>?_) ?_
     .rw[z,z,Ac (by lia),Ac (by lia)]
      exact al _ _ (by lia) (by lia)
     .rw[z,z,Ab (by lia),Ac (by lia)]
      exact O.trans _ _ _ (O.of_lt hd) (al _ _ (by lia) (by lia))
    have F:∀j,j<N->P (g (kas_rev p 0 n) j):=λj w=>by
     rw[z];split
     .exact y _ (by lia)
     .exact y j w
    obtain⟨m,p',U,J,M,b3,R,Q,D⟩:=aM2 O (P:=P) (p:=kas_rev p 0 n) (n:=n) (N:=N) Y (by lia) (by unfold kas_rev;rw[mirror_size];exact hz) F ds
    refine⟨m,p',?_,J.trans (mirror_perm _ _ _ _),M,b3,R,Q,y 0 (by lia),y (n-1) (by lia),?_⟩
    .show ev lt (if lt (g p 0) (g p (n-1))=true then _ else _)=_
     rw[r];exact U
    .show Q1 lt P (if lt (g p 0) (g p (n-1))=true then _ else _)
     rw[r];exact D
  .rw[Ab h2];have n1:n=1:=by lia
   subst n1;exact aM2 O (Aa7 _) (by lia) hz y (z7 O (Aa7 _) (λi j q w=>by
    have:i=j:=by lia
    subst this;exact O.refl _) (O.of_lt hd))
theorem aP2 (O:Ord lt){P:Nat->Prop}{p:Array Nat}{k N:Nat}(c:k<N)(y:∀j,j<N->P (g p j))(q:Srt lt p k):∀(f l r:Nat),l<=r->r<=k->r-l<=f->(∀i,i<l->le lt (g p i) (g p k))->(∀i,r<=i->i<k->lt (g p k) (g p i)=true) ->
  ∃m,ev lt (kas_place p k f l r)=m/\m<=k/\(∀i,i<m->le lt (g p i) (g p k))/\(∀i,m<=i->i<k->lt (g p k) (g p i)=true)/\Q1 lt P (kas_place p k f l r)
 | 0,l,r,h1,h2,h3,h4,h5=>⟨l,rfl,by lia,h4,λi a b=>h5 i (by lia) b,trivial⟩
 | f+1,l,r,h1,h2,h3,h4,h5=>by
  unfold kas_place;by_cases z:l≥r
  .rw[Ac z];exact⟨l,rfl,by lia,h4,λi a b=>h5 i (by lia) b,trivial⟩
  .rw[Ab z];cases w:lt (g p k) (g p ((l+r) / 2)) with
   | true=>
    obtain⟨m,s,Y,X,U,J⟩:=aP2 O c y q f l ((l+r) / 2) (by lia) (by lia) (by lia) h4 (λi M R=>by
     cases e:lt (g p k) (g p i) with
     | true=>rfl
     | false=>
      have:lt (g p k) (g p ((l+r) / 2))=false:=O.trans _ _ _ (q _ _ M R) e
      rw[w]at this;cases this)
    refine⟨m,?_,Y,X,U,y k c,y _ (by lia),?_⟩
    .show ev lt (if lt (g p k) (g p ((l+r) / 2))=true then _ else _)=_
     rw[w];exact s
    .show Q1 lt P (if lt (g p k) (g p ((l+r) / 2))=true then _ else _)
     rw[w];exact J
   | false=>
    obtain⟨m,s,Y,X,U,J⟩:=aP2 O c y q f ((l+r) / 2+1) r (by lia) (by lia) (by lia) (λi M=>O.trans _ _ _ (q i ((l+r) / 2) (by lia) (by lia)) w) h5
    refine⟨m,?_,Y,X,U,y k c,y _ (by lia),?_⟩
    .show ev lt (if lt (g p k) (g p ((l+r) / 2))=true then _ else _)=_
     rw[w];exact s
    .show Q1 lt P (if lt (g p k) (g p ((l+r) / 2))=true then _ else _)
     rw[w];exact J
theorem cL1 (O:Ord lt){P:Nat->Prop}{N:Nat}:∀(f:Nat) (p:Array Nat) (k:Nat),k+f=N->N<=p.size->(∀j,j<N->P (g p j))->Srt lt p k ->
  ∃p',ev lt (kas_bin f p k)=p'/\p'.Perm p/\Srt lt p' N/\Q1 lt P (kas_bin f p k)
 | 0,p,k,hN,hz,hP,h=>⟨p,rfl,Array.Perm.refl _,(show k=N from hN)▸h,trivial⟩
 | f+1,p,k,hN,hz,hP,h=>by
  obtain⟨l,c,Y,X,U,J⟩:=aP2 O (k:=k) (N:=N) (by lia) hP h k 0 k (by lia) (by lia) (by lia) (λi z=>absurd z (Nat.not_lt_zero _)) (λi a b=>by lia)
  have e:∀i,g (bubble p k (k-l)) i=if i=l then g p k else if l<i/\i<=k then g p (i-1) else g p i:=dS1 (by lia) Y
  have F:Srt lt (bubble p k (k-l)) (k+1):=λi j r D=>by
   rw[e,e];by_cases m:i=l
   .rw[Ac m];by_cases y:j=l
    .rw[Ac y];exact O.refl _
    .rw[Ab y,Ac (by lia)]
     exact O.of_lt (U _ (by lia) (by lia))
   .rw[Ab m];by_cases y:j=l
    .rw[Ac y,Ab (by lia)]
     exact X i (by lia)
    .rw[Ab y];by_cases q:l<i/\i<=k
     .rw[Ac q,Ac (by lia)]
      exact h _ _ (by lia) (by lia)
     .rw[Ab q];by_cases s:l<j/\j<=k
      .rw[Ac s];exact h _ _ (by lia) (by lia)
      .rw[Ab s];exact h _ _ r (by lia)
  have w:∀j,j<N->P (g (bubble p k (k-l)) j):=λj D=>by
   rw[e]
   repeat' split
   all_goals exact hP _ (by lia)
  obtain⟨p',M,R,Q,b3⟩:=cL1 O (P:=P) (N:=N) f (bubble p k (k-l)) (k+1) (by lia) (by rw[bubble_size];exact hz) w F
  refine⟨p',?_,R.trans (bubble_perm _ _ _),Q,?_⟩
  .show ev lt ((kas_place p k k 0 k).bind λl=>kas_bin f (bubble p k (k-l)) (k+1))=p'
   rw[X4,c];exact M
  .show Q1 lt P ((kas_place p k k 0 k).bind λl=>kas_bin f (bubble p k (k-l)) (k+1))
   exact Q5 J (by rw[c];exact b3)
theorem bA8 (O:Ord lt){N:Nat}(h1:1<=N):∃p',ev lt (kas_sort N)=p'/\p'.Perm (List.toArray (List.range N))/\Srt lt p' N/\Q1 lt (λi=>i<N) (kas_sort N):=by
 have U:∀j,j<N->g (List.toArray (List.range N)) j<N:=λj J=>by
  rw[aI4];simp[J]
 obtain⟨m,z,e,w,R,Q,r,q,k⟩:=cE2 O (P:=λi=>i<N) (p:=List.toArray (List.range N)) (N:=N) h1 (by simp) U
 have M:N<=z.size:=by rw[w.size_eq];simp
 unfold kas_sort;by_cases y:m<N
 .have c:max m 1=m:=by lia
  obtain⟨p',s,Y,X,b3⟩:=cL1 O (P:=λi=>i<N) (N:=N) (N-m) z m (by lia) M q r
  refine⟨p',?_,Y.trans w,X,Q5 k ?_⟩
  .rw[X4,e];dsimp only;rw[Ac y,c];exact s
  .rw[e];dsimp only;rw[Ac y,c];exact b3
 .have:m=N:=by lia
  refine⟨z,?_,w,this▸r,Q5 k ?_⟩
  .rw[X4,e];dsimp only;rw[Ab y];rfl
  .rw[e];dsimp only;rw[Ab y];exact trivial
end
end LS
namespace LV
open PySem PySem.Spec PyProof.Rows L2 PySem.W Att
section
variable {P:Program}{w:World}{A:Around}{s:Shared}{Q:Bool->Shared->Prop}
theorem aI0 (a b:Int)(e bs:AF):HT.M7 (a::e) (b::bs)=if a=b then HT.M7 e bs else decide (a<b):=rfl
theorem y9:∀{xs ys:AH} {as bs:AF} (i:Nat),IntsAre xs as->IntsAre ys bs->Q (HT.M7 as bs) s->KatLex P w A true (decide (as.length<bs.length)) Q (xs.zip ys) i s
 | _,_,_,_,i,.nil,.nil,h=>h
 | _,_,_,_,i,.nil,@IntsAre.cons n t vs ns r,h=>by
  have e:decide (([]:AF).length<(n::ns).length)=true:=by simp
  show Q (decide (([]:AF).length<(n::ns).length)) s
  rw[e];exact h
 | _,_,_,_,i,@IntsAre.cons n t vs ns r,.nil,h=>by
  have e:decide ((n::ns).length<([]:AF).length)=false:=by simp
  show Q (decide ((n::ns).length<([]:AF).length)) s
  rw[e];exact h
 | _,_,_,_,i,@IntsAre.cons a t xs as ra,@IntsAre.cons b u ys bs rb,h=>by
  rw[aI0]at h;refine kat_cons ?_;refine SeqAt.EqAt.int_int a t b u P w _ _ ?_;by_cases e:a=b
  .subst e;rw[Ac rfl]at h
   have:(a==a)=true:=by simp
   rw[this];refine kat_yes ?_;have e2:decide ((a::as).length<(a::bs).length)=decide (as.length<bs.length):=by simp
   rw[e2];exact y9 (i+1) ra rb h
  .rw[Ab e]at h
   have:(a==b)=false:=by simpa using e
   rw[this];refine kat_no ?_;cases hb:(true&&i==0) with
   | true=>exact oneLt_int h
   | false=>exact kat_one _ _ (lt_int h)
theorem aH9:∀a b:AF,HT.M7 a b=true->HT.M7 b a=false
 | [],[],h=>by cases h
 | [],_::_,_=>rfl
 | _::_,[],h=>by cases h
 | x::xs,y::ys,h=>by
  rw[aI0]at h ⊢;by_cases e:x=y
  .subst e;rw[Ac rfl]at h ⊢;exact aH9 xs ys h
  .rw[Ab e]at h;rw[Ab (λz=>e z.symm)]
   have:=As h
   exact Ao (by lia)
def F1 (a b:AF):Prop:=HT.M7 b a=false
theorem Z5:∀a b c:AF,F1 a b->F1 b c->F1 a c
 | [],_,[],_,_=>rfl
 | [],_,_::_,_,_=>rfl
 | _::_,[],_,h,_=>by cases h
 | _::_,_::_,[],_,h=>by cases h
 | x::xs,y::ys,z::zs,h1,e=>by
  unfold F1 at *;rw[aI0]at *;by_cases k:y=x
  .subst k;rw[Ac rfl]at h1;by_cases r:z=y
   .subst r;rw[Ac rfl]at e ⊢;exact Z5 xs ys zs h1 e
   .rw[Ab r]at e ⊢;exact e
  .rw[Ab k]at h1;have h1:=Ay h1;by_cases r:z=y
   .subst r;rw[Ab k];exact Ao h1
   .rw[Ab r]at e;have e:=Ay e;rw[Ab (by lia)]
    exact Ao (by lia)
theorem W7:∀a b:AF,F1 a b->F1 b a->a=b
 | [],[],_,_=>rfl
 | [],_::_,_,h=>by cases h
 | _::_,[],h,_=>by cases h
 | x::xs,y::ys,h1,r=>by
  unfold F1 at *;rw[aI0]at *;by_cases e:x=y
  .subst e;rw[Ac rfl]at h1 r;rw[W7 xs ys h1 r]
  .rw[Ab (λz=>e z.symm)]at h1
   rw[Ab e]at r;have h1:=Ay h1;have r:=Ay r
   lia
theorem aW6 (a b:AF):F1 a b\/F1 b a:=by
 unfold F1;cases h:HT.M7 b a with
 | false=>exact .inl rfl
 | true=>exact .inr (aH9 b a h)
theorem bX1 (ts:Nat->AF):LS.Ord λi j=>HT.M7 (ts i) (ts j):=
 ⟨λa b h=>aH9 _ _ h,λa b c h1 e=>Z5 _ _ _ h1 e⟩
def TupsAt (h:Heap):AH->AC->Prop
 | [],[]=>True
 | v::vs,t::ts=>(∃a its,v=.ref a/\IsTup h a its/\IntsAre its.toList t/\t≠[])/\TupsAt h vs ts
 | _,_=>False
theorem TupsAt.length {h:Heap}:∀{vs:AH} {ts:AC},TupsAt h vs ts->vs.length=ts.length
 | [],[],_=>rfl
 | _::_,_::_,r=>by simp[TupsAt.length r.2]
 | [],_::_,r=>r.elim
 | _::_,[],r=>r.elim
theorem TupsAt.get {h:Heap}:∀{vs:AH} {ts:AC} {i:Nat},TupsAt h vs ts->i<ts.length->∃a its,vs.getD i .none=.ref a/\IsTup h a its/\IntsAre its.toList (ts.getD i [])
 | v::vs,t::ts,0,⟨⟨a,its,e,h1,h2,_⟩,_⟩,_=>⟨a,its,e,h1,h2⟩
 | v::vs,t::ts,i+1,⟨_,r⟩,hi=>TupsAt.get (i:=i) r (by simpa using hi)
 | [],[],_,_,hi=>by simp at hi
 | [],_::_,_,r,_=>r.elim
 | _::_,[],_,r,_=>r.elim
theorem TupsAt.keep {h h':Heap}:∀{vs:AH} {ts:AC},TupsAt h vs ts->(∀a its,Value.ref a∈vs->IsTup h a its->IsTup h' a its)->TupsAt h' vs ts
 | [],[],_,_=>trivial
 | v::vs,t::ts,⟨⟨a,its,e,h1,h2,h3⟩,r⟩,k=>⟨⟨a,its,e,k a its (by rw[e];simp) h1,h2,h3⟩,r.keep λa its y=>k a its (Ad4 _ y)⟩
 | [],_::_,r,_=>r.elim
 | _::_,[],r,_=>r.elim
theorem TupsAt.kat {h:Heap}:∀{vs:AH} {ts:AC},TupsAt h vs ts->∃fs,KatTups h vs fs/\fs.length=vs.length/\∀f∈fs,∃i t,f=Value.int i t
 | [],[],_=>⟨[],.nil,rfl,by simp⟩
 | v::vs,t::ts,⟨⟨a,its,e,⟨o,ho,hc,n,hd⟩,h2,h3⟩,r⟩=>by
  obtain⟨fs,y,z,k⟩:=r.kat;subst e;obtain⟨l⟩:=its;cases h2 with
  | nil=>exact absurd rfl h3
  | cons i u j=>
   refine⟨.int i u::fs,.cons ho hc hd (by simp) y,by simp[z],λf hf=>?_⟩
   rcases Aa1.mp hf with rfl | hf
   .exact⟨_,_,rfl⟩
   .exact k f hf
 | [],_::_,r=>r.elim
 | _::_,[],r=>r.elim
end
section
variable {P:Program}{w:World}{A:Around}{s:Shared}{E:Dz}
theorem bJ8 {L l:Addr}{m:Str->Option Value}{vs:AH}{ts:AC}{Q:Dz}(hL:s.heap.Ns L m)(hl:s.heap.IsList l vs.toArray)(ht:TupsAt s.heap vs ts)(X:∀a,Value.ref a∈vs->a≠L)(h2:2<=vs.length)(h64:vs.length<64)
  (h:∀h' D (p:AD) c,h'.Ns L m->(∀b o,b≠L->s.heap.get? b=some o->h'.get? b=some o)->s.heap.get? D=none->h'.get? D=some {cls:=.type "list",data:=.seq (p.map λi=>vs.getD i .none).toArray c}->p.Perm (List.range vs.length)->(p.map λi=>ts.getD i []).Pairwise F1->Q (.ref D) {s with heap:=h'}) :
  wpAny (model P w) A (call (.builtin "sorted") [.ref l]) Q E s:=by
 have hlen:=ht.length
 refine kat_sorted (bR9 hL) aR0 hl h2 h64 λD e1 h' F' B hD=>?_
 have kp:∀b o,b≠L->s.heap.get? b=some o->h'.get? b=some o:=λb o hb e=>(B (b,o) (Ad4 _ (L4 hb (L7 _ _) e))).1
 have DL:D≠L:=(B _ Am).2.1
 have hDs:s.heap.get? D=none:=by
  cases e:s.heap.get? D with
  | none=>rfl
  | some o=>exact absurd (hD (D,o) (L4 DL (L7 _ _) e)) (Ad9 _)
 have y:TupsAt h' vs ts:=ht.keep λa its ha ⟨o,e,r⟩=>⟨o,kp a o (X a ha) e,r⟩
 obtain⟨fs,k1,k2,k3⟩:=y.kat;refine kat_kind (s:={s with heap:=h'}) k1 (by lia) (T:=.type "int") (λv hv=>?_) (by decide) ?_
 .obtain⟨i,t,rfl⟩:=k3 v hv;exact λA Q E s _ q=>wpAny_of_eq (show typeOf (Value.int i t)=pure (.type "int") from rfl) q
 have et:(Value.type "int" != Value.type "tuple")=true:=by decide
 rw[et];obtain⟨M,e0,hp,hs,ha⟩:=LS.bA8 (bX1 λi=>ts.getD i []) (N:=vs.length) (by lia)
 refine LS.bW4 (P:=λi=>i<vs.length) (lt:=λi j=>HT.M7 (ts.getD i []) (ts.getD j [])) (λi j C hi hj hC=>?_) _ ha ?_
 .obtain⟨a,its,e,⟨o,h1,c1,n1,d1⟩,r1⟩:=y.get (i:=i) (by lia)
  obtain⟨a',J,e',⟨o',h1',c1',n1',d1'⟩,R⟩:=y.get (i:=j) (by lia)
  unfold kas_ask;rw[e,e'];refine kat_lt (s:={s with heap:=h'}) h1 d1 h1' d1' ?_
  have el:decide (its.size<J.size)=decide ((ts.getD i []).length<(ts.getD j []).length):=by
   have a1:=r1.length;have a2:=R.length
   simp only[Bl]at a1 a2;rw[a1,a2]
  rw[el];exact y9 0 r1 R hC
 .rw[e0];refine KasFin.intro F' B (.head λp hp z=>?_) λY c F k=>?_
  .have:=hD p hp
   rw[z]at this;exact absurd this (Ad9 _)
  .have kp2:∀b o,b≠L->s.heap.get? b=some o->Y.get? b=some o:=λb o hb e=>(k (b,o) (Ad4 _ (L4 hb (L7 _ _) e))).1
   have U:M.toList.Perm (List.range vs.length):=by simpa using(Array.perm_iff_toList_perm.mp hp)
   refine h Y D M.toList c F.ns kp2 hDs (k _ Am).1 U ?_;rw[Ae0,List.pairwise_iff_getElem];intro i j hi hj hij;have hz:M.toList.length=vs.length:=by rw[U.length_eq];simp
   have:=hs i j (Bw hij) (by lia)
   unfold LS.le at this;rw[LS.aI4,LS.aI4]at this;have hi':i<M.size:=by simpa using hi
   have hj':j<M.size:=by simpa using hj
   simp only[Bd hi',Bd hj',Option.getD_some]at this;unfold F1;simpa using this
theorem aM9 {a:Addr}{vs:AH}{n:Nat}{P':PySem.Fin->Shared->Prop}(ho:s.heap.get? a=some (seqObj "list" vs.toArray n))(c:vs.length<2)
  (h:P' (.done (.ret .none)) {s with heap:=sortedHeap s.heap a vs vs.toArray}):wpAny (model P w) A (Builtin.«list.sort» ⟨[.ref a],[]⟩) P' E s:=by
 rw[list_sort_plain];have p:a<s.heap.objs.size:=Ab3 ho;refine Aa (listItems_at ho rfl ?_);refine Aa (listUpdate_at ho rfl ?_);obtain⟨k,y⟩:∃k,(s.heap.update a (Obj.mapSeq λ_ => #[])).get? a=some (seqObj "list" #[] k):=⟨_,get?_update_seq ho (λ_ => #[])⟩
 refine Aa (seqEpoch_at y rfl ?_);refine Aa (wpAny_newTuple ?_);refine Aa (wpAny_newList ?_);refine Bz ?_;have z:(((s.heap.update a (Obj.mapSeq λ_ => #[])).push (seqObj "tuple" vs.toArray 0)).push (seqObj "list" #[] 0)).get? a=some (seqObj "list" #[] k):=by
  rw[Heap.get?_push_ne _ _ _ (by rw[size_push',Heap.size_update];exact Ab9 (Du p)),Heap.get?_push_ne _ _ _ (by rw[Heap.size_update];exact Ab9 p)]
  exact y
 show wpAny (model P w) A _ P' E {s with heap:=((s.heap.update a (Obj.mapSeq λ_ => #[])).push (seqObj "tuple" vs.toArray 0)).push (seqObj "list" #[] 0)}
 dsimp only
 have r:vs.toArray.size<2:=by simpa using c
 rw[Ac r,Ac r];refine Aa (Ae ?_);rw[StateT.run_pure];refine Aa (Ae ?_);dsimp only;refine Aa (seqEpoch_at z rfl ?_);refine Aa (listUpdate_at z rfl ?_ (hsz2:=by rw[Array.size_map];show(pairsOf vs).size<=_;rw[pairsOf_size,Cp];lia))
 simp only[bne_self_eq_false,Bx,if_false];refine Ae ?_;have e:(arrOf (SortSt.mk' general' (vs.toArray.zip vs.toArray) #[] 7 none)).map (·.2)=vs.toArray:=by
  show(vs.toArray.zip vs.toArray).map (·.2)=vs.toArray
  refine Array.ext (by simp) λi h1 c=>by simp
 have j:=h
 unfold sortedHeap at j;rw[e];exact j
theorem aF8 {l:Addr}{vs:AH}{Q:Dz}(r:s.heap.IsList l vs.toArray)(z:vs.length<2)
  (h:Q (.ref (s.heap.objs.size+1)) {s with heap:=sortedAll s.heap vs vs.toArray}):wpAny (model P w) A (call (.builtin "sorted") [.ref l]) Q E s:=by
 refine Calls.call_function_entry kind_sorted plain_sorted entry_sorted (args_sorted1 _) ?_;unfold Builtin.«sorted»;refine Aa (m:=checkCount "sorted" 1 1 _) (Ae ?_);refine Aa (collect_list r ?_ (by rw[Cp];lia))
 refine Aa (wpAny_newList ?_ (by rw[Cp];lia))
 have y:((s.heap.push (seqObj "list" #[] 0)).update s.heap.objs.size (Obj.mapSeq (· ++ vs.toArray))).objs.size=s.heap.objs.size+1:=by
  rw[Heap.size_update,size_push']
 have e:(((s.heap.push (seqObj "list" #[] 0)).update s.heap.objs.size (Obj.mapSeq (· ++ vs.toArray))).push (seqObj "list" vs.toArray 0)).get? (s.heap.objs.size+1)=some (seqObj "list" vs.toArray 0):=by
  rw[<- y];exact Ac3 _ rfl
 show wpAny _ _ _ _ _ {s with heap:=((s.heap.push (seqObj "list" #[] 0)).update s.heap.objs.size (Obj.mapSeq (· ++ vs.toArray))).push (seqObj "list" vs.toArray 0)}
 rw[y];refine Aa (Bz (Cq slot_list_sort ⟨_,e,rfl⟩ entry_list_sort (aM9 e z ⟨_,rfl,?_⟩) (args_list_sort _)));exact Ae ⟨_,rfl,h⟩
end
section
variable {X:Cx}
theorem Y3 {P:Program}{w:World}{H:Hp}{h:Heap}{a:Addr}:∀(o:HO),ObjOk P w H h a o->∃u,h.get? a=some u
 | .lst _,⟨_,its,n,_,e⟩=>⟨_,e⟩
 | .tup _,⟨_,its,_,o,e,_⟩=>⟨_,e⟩
 | .dK _,⟨_,_,vs,_,o,z,n,e,_⟩=>⟨_,e⟩
 | .dT _,⟨_,_,xs,_,o,z,r,e,_⟩=>⟨_,e⟩
 | .set _ _,⟨o,z,r,t,e,_⟩=>⟨_,e⟩
 | .ins _ _ _,⟨_,_,_,e,_⟩=>⟨_,e⟩
 | .own _,e=>e
 | .xd _,⟨k,⟨o,h1⟩,_⟩=>by
  first
  | exact⟨_,h1.1⟩
  | (obtain⟨_,_,y,_⟩:=h1;exact⟨_,y⟩)
  | (obtain⟨_,y,_⟩:=h1;exact⟨_,y⟩)
 | .met _ _,e=>⟨_,e⟩
 | .rng _ _,⟨_,_,_,e⟩=>⟨_,e⟩
 | .frz _ _,⟨e,_⟩=>⟨_,e⟩
 | .tbl _,e=>⟨_,e⟩
 | .ext _,⟨_,e,_⟩=>e
theorem u5 {aA:Eb}{σ:L2.St}{H:Hp}{s:Shared}{h':Heap}{m:Str->Option Value}{D:Addr}{ys:List V}{its:AH}{c:Nat}(I:Inv X aA σ H s)(R:s.heap.Ns X.env.locals m)(k:h'.Ns X.env.locals m)(p:∀b o,b≠X.env.locals->s.heap.get? b=some o->h'.get? b=some o)
  (M:s.heap.get? D=none) (e:h'.get? D=some {cls:=.type "list",data:=.seq its.toArray c}) (P:Vals ys its) (F:ys.length<=sizeLine):H D=none/\Inv X aA σ (upd H D (.lst ys)) {s with heap:=h'}:=by
 have J:H D=none:=by
  cases q:H D with
  | none=>rfl
  | some o=>obtain⟨u,N⟩:=Y3 o (I.hok D o q);rw[M]at N;cases N
 have nD:∀b o,s.heap.get? b=some o->b≠D:=λb o q z=>by rw[z,M]at q;cases q
 have j:∀b o,H b=some o->b≠D:=λb o q z=>by rw[z,J]at q;cases q
 refine⟨J,?_⟩;refine I.step (g':=s.gens) (d':=s.drawn) (t':=s.toks) (ch:=[]) (by simp) (λb o y _ _ q _=>p b o y q) (λb o y _ _ q _=>⟨o.slots,p b o y q⟩) (λb o _ q n=>by rw[B8 (nD b o q)];exact n) (λb o _ q=>?_)
  (λb xs q=>by rw[B8 (j b _ q)];exact q) (λb o u q=>by rw[B8 (j b _ q)];exact q) (λb ps q=>⟨#[],by rw[B8 (j b _ q)];simpa using q⟩) (λm' Y=>?_) (λb o q=>?_) I.bare
 .by_cases y:b=X.env.locals
  .subst y;obtain⟨B,_,_,U,_⟩:=k;exact⟨B,U⟩
  .exact⟨o,p b o y q⟩
 .rw[Y.eq_nsMap,<- R.eq_nsMap];exact k
 .by_cases y:b=D
  .subst y;rw[C2]at q;cases q;exact⟨F,its,c,P,e⟩
  .rw[B8 y]at q;refine(I.hok b o q).stay (λr v Q w=>p r v ?_ w) (λr w=>by rw[B8 (j r _ w)];exact w) λr xs w=>by rw[B8 (j r _ w)];exact w
   rcases Q with z | z
   .rw[z];exact D8 q I.free
   .exact D8 z I.free
end
def TupsV (K:Frag)(H:Hp):List V->AC->Prop
 | [],[]=>True
 | v::vs,t::ts=>(∃a,v=.ref a/\SqT K H a (t.map V.int)/\t≠[])/\TupsV K H vs ts
 | _,_=>False
theorem TupsV.length {K:Frag}{H:Hp}:∀{vs:List V} {ts:AC},TupsV K H vs ts->vs.length=ts.length
 | [],[],_=>rfl
 | _::_,_::_,r=>by simp[TupsV.length r.2]
 | [],_::_,r=>r.elim
 | _::_,[],r=>r.elim
section
variable {X:Cx}{aA:Eb}{σ:L2.St}{H:Hp}{s:Shared}
theorem cR1 (I:Inv X aA σ H s){a:Addr}{xs:List V}(h:SqT X.K H a xs):a≠X.env.locals:=by
 rcases h with (h | ⟨o,h⟩) | ⟨o,its,n,e,_⟩
 .exact D8 h I.free
 .exact D8 h I.free
 .have:=Ab3 (I.mod.kin a o e)
  exact Ab9 (Ab8 this (An I.ok.bsz I.ok.above))
theorem aO0 (I:Inv X aA σ H s):∀{vs:List V} {ts:AC} {us:AH},TupsV X.K H vs ts->Vals vs us->TupsAt s.heap us ts/\∀a,Value.ref a∈us->a≠X.env.locals
 | [],[],_,_,r=>by cases r;exact⟨trivial,λa h=>by simp at h⟩
 | v::vs,t::ts,_,⟨⟨a,e,sq,ne⟩,h⟩,r=>by
  subst e;cases r with
  | cons w z=>
   cases w
   obtain⟨h1,y⟩:=aO0 I h z;obtain⟨its,k,p,_⟩:=I.tuple sq;refine⟨⟨⟨a,its.toArray,rfl,p,by simpa using Q4 k,ne⟩,h1⟩,λb hb=>?_⟩
   rcases Aa1.mp hb with e | hb
   .cases e;exact cR1 I sq
   .exact y b hb
 | [],_::_,_,h,_=>h.elim
 | _::_,[],_,h,_=>h.elim
theorem aC4 {vs:List V}{us:AH}(r:Vals vs us):∀{q:AD},(∀i∈q,i<vs.length)->Vals (q.map λi=>vs.getD i .non) (q.map λi=>us.getD i .none)
 | [],_=>.nil
 | i::q,h=>by
  have hi:=h i (by simp)
  obtain⟨u,h1,w⟩:=r.get (i:=i) (x:=vs[i]) (Aa2 hi);refine .cons ?_ (aC4 r λj z=>h j (by simp[z]))
  have e:vs.getD i .non=vs[i]:=by simp[List.getD,hi]
  have y:us.getD i .none=u:=by simp[List.getD,h1]
  show RelV (vs.getD i .non) (us.getD i .none)
  rw[e,y];exact w
end
section
variable {X:Cx}
theorem t5 (K:Frag)(h:X.K=K:=by rfl):U3 X (.builtin "sorted") (λxs H Q=>∃(p:Addr) (ys:List V) (ts:AC),xs=[.ref p]/\SqL K H p ys/\TupsV K H ys ts/\ys.length<64 /\
  ∀a (q:AD),H a=none->q.Perm (List.range ys.length)->(q.map λi=>ts.getD i []).Pairwise F1->Q (.ref a) (upd H a (.lst (q.map λi=>ys.getD i .non)))):=by
 subst h;intro aA s σ H xs us Q I r ⟨p,ys,ts,e,hq,R,h64,q⟩;subst e;obtain⟨u,rfl,rx⟩:=v5 r;cases rx;obtain⟨its,j,pl,hz⟩:=I.list hq;have y:=j.length;have htl:=R.length;by_cases k:its.length<2
 .refine aF8 pl.isList k ?_;obtain⟨e,he⟩:=sortedAll_at s.heap its its.toArray;have z:=q (s.heap.objs.size+1) (List.range ys.length) (I.hok.fresh (Nat.le_succ _)) (.refl _) (by
   rw[y]
   match its.length,k with
   | 0,_=>simp
   | 1,_=>simp[Bq])
  have Y:((List.range ys.length).map λi=>ys.getD i .non)=ys:=by
   refine List.ext_getElem (by simp) λi h1 k=>?_
   simp[List.getD,k]
  rw[Y]at z;exact⟨.ref _,_,I.laid (t':=s.toks) (λb o e=>sortedAll_old e) (Nat.le_succ _) (show ObjOk X.prog X.w _ _ _ (.lst ys) from⟨hz,its,e,j,he⟩),rfl,z⟩
 .obtain⟨m,N,_⟩:=I.loc;obtain⟨ta,tl⟩:=aO0 I R j;refine bJ8 N pl.isList ta tl (by lia) (by lia) λh' D F c U kp hD Y hp hs=>?_
  have J:∀i∈F,i<ys.length:=λi hi=>by have:=Ab5.mp (hp.mem_iff.mp hi);lia
  have M:=aC4 j J
  obtain⟨B,P⟩:=u5 I N U kp hD Y M (by rw[Aa3,hp.length_eq,Bo];lia)
  exact⟨.ref D,_,P,rfl,q D F B (by rw[y];exact hp) hs⟩
end
end LV
namespace LV
open PySem L2
section
variable {K:Frag}{ρ ρ' ρ1:List Sl}{m m':Bool}{t ta tb tc:TE}{d d':PyData}{ds es:AG}
abbrev lI (l:AF):PyData:=.list (l.map .int)
abbrev tI (l:AF):PyData:=.tuple (l.map .int)
theorem aJ3:∀l:AF,K0 (l.map .int)=true
 | []=>rfl
 | _::l=>by simp[K0,imm,aJ3 l]
theorem W8 {α:Type}{f:α->PyData}(h:∀a,imm (f a)=true):∀l:List α,K0 (l.map f)=true
 | []=>rfl
 | a::l=>by simp[K0,h a,W8 h l]
theorem bD7 (l:AF):imm (tI l)=true:=by simp[imm,aJ3 l]
theorem bE6:∀{l:AG},(∀d∈l,imm d=true)->K0 l=true
 | [],_=>rfl
 | a::l,h=>by simp[K0,h a (by simp),bE6 (l:=l) λd hd=>h d (by simp[hd])]
theorem cW0 (i:Int):Fit (.int i):=⟨rfl,by simp[PyData.depth]⟩
def FitN (n:Nat)(d:PyData):Prop:=d.canLay0=true/\d.depth<=n
theorem cH1 (n:Nat)(i:Int):FitN n (.int i):=⟨rfl,by simp[PyData.depth]⟩
theorem aS3 {n:Nat}:∀{l:AG},(∀d∈l,FitN n d)->PyData.canLayAll0 l=true/\PyData.depthAll l<=n
 | [],_=>⟨rfl,by simp[PyData.depthAll]⟩
 | a::l,h=>by
  obtain⟨h1,w⟩:=h a (by simp)
  obtain⟨e,z⟩:=aS3 (l:=l) λd y=>h d (by simp[y])
  exact⟨by simp[PyData.canLayAll0,h1,e],by simp only[PyData.depthAll];lia⟩
theorem aH4 {n:Nat}{l:AG}(h:∀d∈l,FitN n d):FitN (n+1) (.tuple l):=by
 obtain⟨a,b⟩:=aS3 h;exact⟨by simpa[PyData.canLay0]using a,by simp only[PyData.depth];lia⟩
theorem aP1 {n:Nat}{l:AG}(h:∀d∈l,FitN n d):FitN (n+1) (.list l):=by
 obtain⟨a,b⟩:=aS3 h;exact⟨by simpa[PyData.canLay0]using a,by simp only[PyData.depth];lia⟩
theorem FitN.fit {n:Nat}(h:FitN n d)(e:n<=32:=by decide):Fit d:=⟨h.1,An h.2 e⟩
theorem bH2 (l:AF):∀d∈l.map PyData.int,FitN 0 d:=λd e=>by
 obtain⟨i,_,rfl⟩:=Aa8.mp e;exact cH1 0 i
theorem dL1 (l:AF):FitN 1 (lI l):=aP1 (bH2 l)
theorem aZ7 (l:AF):FitN 1 (tI l):=aH4 (bH2 l)
theorem dA0 (w:E K false ta ρ d)(z:E K false tb ρ d')(h1:Fit d)(e:Fit d'):E K m (tOp (cX8 K false) ta tb) ρ (.bool (PyData.eqv d d')):=
 cA5 false false w z λS H x y Q _ r k q=>⟨d,d',r,k,h1,e,q _ H (L2.Same.rf _) (.bl _)⟩
theorem dP3 (w:E K false ta ρ d)(z:E K false tb ρ d')(h1:Fit d)(e:Fit d'):E K m (tOp (cX8 K true) ta tb) ρ (.bool (!PyData.eqv d d')):=
 cA5 false false w z λS H x y Q _ r k q=>⟨d,d',r,k,h1,e,q _ H (L2.Same.rf _) (.bl _)⟩
theorem dB6 (w:E K false ta ρ d)(r:E K false tb ρ d')(k:sq d'=some ds)(h1:Fit d)(e:Fit d'):E K m (tOp (bQ8 K false) ta tb) ρ (.bool (ds.any λz=>PyData.eqv z d)):=
 cA5 false false w r λS H x y Q _ j c q=>⟨d,d',ds,j,c,k,h1,e,q _ H (L2.Same.rf _) (.bl _)⟩
theorem bM9 (w:E K false ta ρ d)(r:E K false tb ρ d')(k:sq d'=some ds)(h1:Fit d)(e:Fit d'):E K m (tOp (bQ8 K true) ta tb) ρ (.bool (!ds.any λz=>PyData.eqv z d)):=
 cA5 false false w r λS H x y Q _ j c q=>⟨d,d',ds,j,c,k,h1,e,q _ H (L2.Same.rf _) (.bl _)⟩
theorem j9 {α:Type}[DecidableEq α]{f:α->PyData}(h:∀a b,PyData.eqv (f a) (f b)=decide (a=b)):∀l l':List α,PyData.eqvAll (l.map f) (l'.map f)=decide (l=l')
 | [],[]=>by simp[PyData.eqvAll]
 | [],_::_=>by simp[PyData.eqvAll]
 | _::_,[]=>by simp[PyData.eqvAll]
 | a::l,b::l'=>by
  simp only[Ac7,PyData.eqvAll,h,j9 h l l',Cb];by_cases e:a=b <;> simp[e]
theorem bG0 (a b:Int):PyData.eqv (.int a) (.int b)=decide (a=b):=by
 simp only[PyData.eqv];by_cases h:a=b <;> simp[h]
theorem cQ5 (l l':AF):PyData.eqv (tI l) (tI l')=decide (l=l'):=by
 simp only[PyData.eqv];exact j9 bG0 l l'
theorem bW3 {H:Hp}{p:V}{l:AF}(r:Rep K H p (lI l)):∃a,p=.ref a/\SqL K H a (l.map V.int):=by
 cases r with
 | lst s r=>rw[<- r.ints];exact⟨_,rfl,s⟩
theorem dA7 {t:TA}{l:AF}{M:Int}(z:A K false t ρ [lI l])(e:M∈l/\∀a∈l,M<=a):E K m (tCB (λxs H Q=>∃(p:Addr) (l:AF),xs=[.ref p]/\SqL K H p (l.map V.int)/\l≠[]/\∀M,M∈l->(∀a∈l,M<=a)->Q (.int M) H) t) ρ (.int M):=dJ3 z λH vs Q r q=>by
 cases r with
 | cons a b=>
  cases b
  obtain⟨p,rfl,s⟩:=bW3 a;refine⟨p,l,rfl,s,List.ne_nil_of_mem e.1,λy h1 w=>?_⟩
  have:y=M:=Int.le_antisymm (w M e.1) (e.2 y h1)
  rw[this];exact q _ λ_=>.int _
abbrev lB (l:List Bool):PyData:=.list (l.map .bool)
theorem Reps.bools {H:Hp}:∀{l:List Bool} {vs:List V},Reps K H vs (l.map PyData.bool)->vs=l.map V.bl
 | [],_,r=>by cases r;rfl
 | i::l,_,r=>by
  cases r with
  | cons a b=>cases a;rw[Reps.bools b];rfl
theorem bU7 {t:TA}{l:List Bool}(e:A K false t ρ [lB l]):E K m (tCB (λxs H Q=>∃(p:Addr) (l:List Bool),xs=[.ref p]/\SqL K H p (l.map V.bl)/\Q (.bl (l.all id)) H) t) ρ (.bool (l.all id)):=dJ3 e λH vs Q r q=>by
 cases r with
 | cons a b=>
  cases b
  cases a with
  | lst s r=>rw[r.bools]at s;exact⟨_,l,rfl,s,q _ λ_=>.bl _⟩
theorem cO5 {l:AF}{k:Int}(z:E K false ta ρ (lI l))(j:E K false tb ρ (.int k))(c:k∈l) :
  E K m (tBM K "list" (λx xs H Q=>∃(p:Addr) (l:AF) (k:Int),x=.ref p/\xs=[.int k]/\SqL K H p (l.map V.int)/\k∈l/\Q (.int (l.idxOf k)) H) ta (C0 tb O1)) ρ (.int (l.idxOf k)):=E.bor (E.imm (m:=false) λS B σ H o I Q q=>z S B σ H o I _ λv H1 e r=>by
 obtain⟨p,rfl,s⟩:=bW3 r;refine⟨.inl ⟨rfl,_,s⟩,?_⟩;refine j S B σ H1 o (I.grow e) _ λu w y Y=>?_
 cases Y
 exact⟨p,l,k,rfl,rfl,R9 y s,c,q _ w (L2.Same.tr e y) (.int _)⟩)
theorem v9 {S:Addr->Prop}{H1:Hp}{p:Addr}{xs:List V}(y:∀b,S b->∃u:HM,H1 b=some u.ho)(hp:H1 p=none)(r:Reps K H1 xs ds)(hi:K0 ds=true):Reps K (hid (λb=>S b\/b=p) (upd H1 p (.lst xs))) xs ds:=
 aR2 (λa j q=>i7 (λb z=>by
  rcases z with z | z
  .obtain⟨k,e⟩:=y b z;exact⟨k,by rw[B8 (λw=>by rw[w,hp]at e;cases e)];exact e⟩
  .exact⟨.l xs,by rw[z];exact C2⟩) (Y4 (C9 hp) q)) ds hi r
theorem cE4 {r:List V->Hp->VK->Prop}{t:TA}(y:A K false t ρ ds)(hi:K0 es=true)(w:∀(H:Hp) (vs:List V) (Q:VK),Reps K H vs ds->(∀p xs,H p=none->Reps K H xs es->Q (.ref p) (upd H p (.lst xs)))->r vs H Q):EF K (tCB r t) ρ es:=λS B σ H o I Q q=>
 y S B σ H o I _ λvs H1 e rs=>w H1 vs Q rs λp xs hp z=>q p xs _ (L2.Same.tr e (C9 hp)) (S4 e hp) C2 (v9 (I.grow e).lists hp z hi)
theorem j8 {t:TA}(y:A K false t ρ [.list ds])(hi:K0 ds=true):E K m (tCB (λxs H Q=>∃p ys,xs=[.ref p]/\((SqL K H p ys/\∀l,H l=none->Q (.ref l) (upd H l (.tup ys)))\/(SqT K H p ys/\Q (.ref p) H))) t) ρ (.tuple ds):=E.bor (E.imm (m:=false) (λS B σ H o I Q q=>y S B σ H o I _ λvs H1 w r=>by
 cases r with
 | cons a b=>
  cases b
  cases a with
  | lst s r=>exact⟨_,_,rfl,.inl ⟨s,λl e=>q _ _ (L2.Same.tr w (C9 e)) (.tup (SqT.of C2) (r.mono (C9 e)))⟩⟩) (by simp[imm,hi]))
theorem dE1 {t:TA}{i j:Int}(Y:A K false t ρ [.int i,.int j])(X : -(2^62)<=i/\i<2^62 /\ -(2^62)<=j/\j<2^62/\j-i<=1000000) :
  EF K (tCB (λxs H Q=>∃(r:Addr) (i j:Int),xs=[.ref r]/\H r=some (.rng i j)/\(-(2^62)<=i/\i<2^62 /\ -(2^62)<=j/\j<2^62/\j-i<=1000000)/\∀l,H l=none->Q (.ref l) (upd H l (.lst (aD1 i (j-i).toNat)))) (C0 (dA9 t) O1)) ρ (R8 i (j-i).toNat):=λS B σ H o I Q q=>
 Y S B σ H o I _ λvs H1 w r=>by
  cases r with
  | cons a b=>
   cases a
   cases b with
   | cons a b=>
    cases a;cases b
    refine⟨i,j,rfl,λp hp=>⟨p,i,j,rfl,C2,X,λl y=>?_⟩⟩
    have e:=C9 (o:=.rng i j) hp
    have s:=C9 (o:=.lst (aD1 i (j-i).toNat)) y
    refine q l _ _ (L2.Same.tr w (L2.Same.tr e s)) (S4 (L2.Same.tr w e) y) C2 ?_;have z:aD1 i (j-i).toNat=((List.range (j-i).toNat).map λ(k:Nat)=>i+(k:Int)).map V.int:=by simp[aD1]
    have c:R8 i (j-i).toNat=((List.range (j-i).toNat).map λ(k:Nat)=>i+(k:Int)).map PyData.int:=by simp[R8]
    rw[z,c];exact aK1 _
theorem dG0 (k:E K false ta ρ (.list ds))(hi:K0 ds=true):EF K (bU8 K ta) ρ ds.reverse:=λS B σ H o I Q q=>
 k S B σ H o I _ λv H1 w r=>by
  cases r with
  | lst s r=>
   refine⟨_,_,rfl,s,λl y=>q l _ _ (L2.Same.tr w (C9 y)) (S4 w y) C2 (v9 (I.grow w).lists y r.reverse ?_)⟩
   refine bE6 λd e=>?_
   have:∀{l:AG},K0 l=true->∀d∈l,imm d=true:=λ{l}=>by
    induction l with
    | nil=>simp
    | cons a l j=>intro h d e;simp[K0]at h;rcases Aa1.mp e with rfl | z;exact h.1;exact j h.2 d z
   exact this hi d (Dv.mp e)
end
def OT.kids:OT->List OT
 | .leaf _ | .dic _=>[]
 | .tup ts=>ts
 | .lst ts=>ts
def OT.at:AD->OT->Option OT
 | [],t=>some t
 | k::π,t=>(t.kids[k]?).bind (OT.at π)
def OT.put (t:OT)(π:AD)(u:OT):OT:=match π with
 | []=>u
 | k::π=>match t with
  | .lst ts=>.lst (ts.modify k λt=>OT.put t π u)
  | .tup ts=>.tup (ts.modify k λt=>OT.put t π u)
  | .leaf d=>.leaf d
  | .dic d=>.dic d
theorem OT.put_nil {t u:OT}:t.put [] u=u:=by rw[OT.put]
theorem OT.put_lst {ts:List OT}{k:Nat}{π:AD}{u:OT}:(OT.lst ts).put (k::π) u=.lst (ts.modify k λt=>OT.put t π u):=by rw[OT.put]
theorem OT.put_tup {ts:List OT}{k:Nat}{π:AD}{u:OT}:(OT.tup ts).put (k::π) u=.tup (ts.modify k λt=>OT.put t π u):=by rw[OT.put]
section
variable {K:Frag}{Z Z' H H':Hp}
theorem Q6 {α:Type}{f:α->α}:∀{l:List α} {k:Nat} {a:α},l[k]? = some a->l.modify k f=l.set k (f a)
 | [],k,a,h=>by simp at h
 | b::l,0,a,h=>by simp at h;subst h;rfl
 | b::l,k+1,a,h=>by
  have:=Q6 (f:=f) (l:=l) (k:=k) (a:=a) (by simpa using h)
  simpa using this
theorem bN7:∀{ts:List OT} {xs:List V} {L:AM} {k:Nat} {t:OT},Dps K Z H xs ts L->ts[k]? = some t->∃v L1 L2 L3,xs[k]? = some v/\Dp K Z H v t L2/\L=L1++L2++L3 /\
  ∀(Z' H':Hp) (t':OT) (L2':AM),Same Z Z'->(∀a xs,Rd H a (.tup xs)->Rd H' a (.tup xs))->(∀b,b∈L1\/b∈L3->H' b=H b)->Dp K Z' H' v t' L2'->Dps K Z' H' xs (ts.set k t') (L1++L2'++L3)
 | [],_,_,_,_,r,h=>by simp at h
 | t::ts,_,_,0,_,r,h=>by
  simp at h;subst h
  cases r with
  | @cons v _ vs _ La Lb a b=>
   refine⟨v,[],La,Lb,rfl,a,rfl,λZ' H' t' L2' hz ht hl r=>?_⟩
   simpa using Dps.cons r (a9 hz ht ts (λb hb=>hl b (.inr hb)) b)
 | t::ts,_,_,k+1,t1,r,h=>by
  cases r with
  | @cons v _ vs _ La Lb a b=>
   obtain⟨w,L1,L2,L3,h1,h2,h3,h4⟩:=bN7 (k:=k) (t:=t1) b (by simpa using h)
   refine⟨w,La++L1,L2,L3,by simpa using h1,h2,by rw[h3];simp,λZ' H' t' L2' hz ht hl r=>?_⟩
   have:=Dps.cons (aB0 hz ht t (λb hb=>hl b (.inl (by simp[hb]))) a) (h4 Z' H' t' L2' hz ht (λb hb=>hl b (by rcases hb with hb | hb <;> simp[hb])) r)
   simpa using this
theorem cW1 {t:OT}{v:V}{L:AM}{k:Nat}{t1:OT}(r:Dp K Z H v t L)(h:t.kids[k]? = some t1):(∃a xs ts M,v=.ref a/\t=.tup ts/\SqT K H a xs/\Dps K Z H xs ts L/\ts[k]? = some t1/\M=L)\/∃a xs ts M,v=.ref a/\t=.lst ts/\H a=some (.lst xs)/\Dps K Z H xs ts M/\ts[k]? = some t1/\L=a::M:=by
 cases r with
 | leaf r=>simp[OT.kids]at h
 | dic _ _ _ _=>simp[OT.kids]at h
 | tup s r=>exact .inl ⟨_,_,_,_,rfl,rfl,s,r,h,rfl⟩
 | lst s r=>exact .inr ⟨_,_,_,_,rfl,rfl,s,r,h,rfl⟩
def Foc (K:Frag)(Z H:Hp)(v0:V)(t0:OT)(L0:AM)(π:AD)(v:V)(t:OT):Prop:=
 ∃L A C,Dp K Z H v t L/\L0=A++L++C/\∀(Z' H':Hp) (t':OT) (L':AM),Same Z Z'->(∀a xs,Rd H a (.tup xs)->Rd H' a (.tup xs))->(∀b,b∈A\/b∈C->H' b=H b)->Dp K Z' H' v t' L'->Dp K Z' H' v0 (t0.put π t') (A++L'++C)
theorem Foc.root {v0:V}{t0:OT}{L0:AM}(r:Dp K Z H v0 t0 L0):Foc K Z H v0 t0 L0 [] v0 t0:=
 ⟨L0,[],[],r,by simp,λZ' H' y L' _ _ _ e=>by rw[OT.put_nil];simpa using e⟩
theorem Foc.mono {v0 v:V}{t0 t:OT}{L0:AM}{π:AD}(f:Foc K Z H v0 t0 L0 π v t)(c:Same Z Z')(j:∀a xs,Rd H a (.tup xs)->Rd H' a (.tup xs))(k:∀b∈L0,H' b=H b):Foc K Z' H' v0 t0 L0 π v t:=by
 obtain⟨L,A,C,h1,e,s⟩:=f;refine⟨L,A,C,aB0 c j t (λb hb=>k b (by rw[e];simp[hb])) h1,e,λq p Y L' r w y m=>s q p Y L' (L2.Same.tr c r) (λa xs z=>w a xs (j a xs z)) (λb hb=>?_) m⟩
 rw[y b hb];exact k b (by rw[e];rcases hb with hb | hb <;> simp[hb])
theorem aG7 {u t1:OT}{k:Nat}:∀{π:AD} {t0 t:OT},t0.at π=some t->t0.put π (t.put [k] u)=t0.put (π++[k]) u
 | [],t0,t,h=>by cases h;rw[OT.put_nil];rfl
 | j::π,t0,t,h=>by
  unfold OT.at at h;cases e:t0.kids[j]? with
  | none=>rw[e]at h;cases h
  | some t1=>
   rw[e]at h;have h:t1.at π=some t:=h;cases t0 with
   | leaf d=>simp[OT.kids]at e
   | dic d=>simp[OT.kids]at e
   | lst ts=>
    have e:ts[j]? = some t1:=e
    rw[Ab6,OT.put_lst,OT.put_lst,Q6 e,Q6 e,aG7 (t1:=t1) h]
   | tup ts=>
    have e:ts[j]? = some t1:=e
    rw[Ab6,OT.put_tup,OT.put_tup,Q6 e,Q6 e,aG7 (t1:=t1) h]
theorem aH3 {k:Nat}:∀{π:AD} {t0 t:OT},t0.at π=some t->t0.at (π++[k])=t.kids[k]?
 | [],t0,t,h=>by
  cases h
  show(t0.kids[k]?).bind (OT.at [])=_
  cases t0.kids[k]? <;> rfl
 | j::π,t0,t,h=>by
  unfold OT.at at h;rw[Ab6];show(t0.kids[j]?).bind (OT.at (π++[k]))=_;cases e:t0.kids[j]? with
  | none=>rw[e]at h;cases h
  | some y=>
   rw[e]at h;exact aH3 (π := π) (t0:=y) h
theorem Foc.down {v0 v:V}{t0 t t1:OT}{L0:AM}{π:AD}{k:Nat}(f:Foc K Z H v0 t0 L0 π v t)(Q:t0.at π=some t)(h:t.kids[k]? = some t1) :
  ∃a xs u,v=.ref a/\(SqL K H a xs\/SqT K H a xs)/\xs[k]? = some u/\Foc K Z H v0 t0 L0 (π++[k]) u t1:=by
 obtain⟨L,A,C,h1,N,R⟩:=f;rcases cW1 h1 h with⟨a,xs,J,M,rfl,rfl,s,X,e,rfl⟩ | ⟨a,xs,J,M,rfl,rfl,s,X,e,rfl⟩
 .obtain⟨u,r,L2,j,c,p,q,m⟩:=bN7 X e;refine⟨a,xs,u,rfl,.inr s,c,L2,A++r,j++C,p,by rw[N,q];simp,λZ' H' U L' z w y Y=>?_⟩
  have:=R Z' H' _ _ z w (λb hb=>y b (by rcases hb with hb | hb <;> simp[hb])) (Dp.tup (s.imp (w _ _) id) (m Z' H' U L' z w (λb hb=>y b (by rcases hb with hb | hb <;> simp[hb])) Y))
  rw[<- aG7 (t1:=t1) Q,OT.put_tup,Q6 e,OT.put_nil];simpa using this
 .obtain⟨u,r,L2,j,c,p,q,m⟩:=bN7 X e;refine⟨a,xs,u,rfl,.inl (SqL.of s),c,L2,A++a::r,j++C,p,by rw[N,q];simp,λZ' H' U L' z w y Y=>?_⟩
  have:=R Z' H' _ _ z w (λb hb=>y b (by rcases hb with hb | hb <;> simp[hb])) (Dp.lst (by rw[y a (by simp)];exact s) (m Z' H' U L' z w (λb hb=>y b (by rcases hb with hb | hb <;> simp[hb])) Y))
  rw[<- aG7 (t1:=t1) Q,OT.put_lst,Q6 e,OT.put_nil];simpa using this
end
section
variable {K:Frag}{ρ ρ' ρ1:List Sl}{m m':Bool}{t ta tb tc:TE}{d d':PyData}{ds es:AG}{u u0 u1:OT}{us:List OT}
def EFT (K:Frag)(t:TE)(ρ:List Sl)(u:OT):Prop:=
 ∀(S:Addr->Prop) (B:Hp) (σ:St) (H:Hp) (o:Nat->AM),Env K S B H σ ρ o->∀Q:VK,
  (∀v L H',Same H H'->(∀b∈L,H b=none)->L.Nodup->Dp K (hid (λb=>D4 ρ o S b\/b∈L) H') H' v u L->Q v H')->t σ H Q
def AFT (K:Frag)(t:TA)(ρ:List Sl)(us:List OT):Prop:=
 ∀(S:Addr->Prop) (B:Hp) (σ:St) (H:Hp) (o:Nat->AM),Env K S B H σ ρ o->∀Q:List V->Hp->Prop,
  (∀vs L H',Same H H'->(∀b∈L,H b=none)->L.Nodup->Dps K (hid (λb=>D4 ρ o S b\/b∈L) H') H' vs us L->Q vs H')->t σ H Q
theorem bB7 {S:Addr->Prop}{H:Hp}:Same (hid S H) (hid (λb=>S b\/b∈([]:AM)) H):=D5 (L2.Same.rf _) λb z _=>z.elim id λz=>nomatch z
theorem aY7 (h:E K true t ρ d):EFT K t ρ (.leaf d):=λS B σ H o I Q q=>h S B σ H o I _ λv e s r=>
 q v [] e s (λ_ z=>nomatch z) .nil (.leaf (r.mono bB7))
theorem aO2 {Z H:Hp}:∀{us:List OT} {vs:List V} {L:AM},Dps K Z H vs us L->vs.length=us.length
 | [],_,_,r=>by cases r;rfl
 | u::us,_,_,r=>by cases r with | cons a b=>simp[aO2 b]
theorem G8:AFT K O1 ρ []:=λS B σ H o I Q q=>q [] [] H (L2.Same.rf _) (λ_ z=>nomatch z) .nil .nil
theorem Dps.mono {Z Z' H H':Hp}{vs:List V}{L:AM}(r:Dps K Z H vs us L)(w:Same Z Z')(h:Same H H'):Dps K Z' H' vs us L:=
 a9 w (λ_ _=>Y4 h) us (λb y=>by obtain⟨xs,e⟩:=Y9 us r b y;rw[e];exact h _ _ e) r
theorem Env.hide {S:Addr->Prop}{B H H1:Hp}{σ:St}{o:Nat->AM}{L:AM}(I:Env K S B H σ ρ o)(s:Same H H1)(n:∀b∈L,H b=none)(l:∀b∈L,∃u:HM,H1 b=some u.ho) :
  Env K (λb=>S b\/b∈L) (hid (cM6 ρ o) H1) H1 σ ρ o:=by
 obtain⟨J,q⟩:=(I.grow s).rebase;have g:Same (hid (D4 ρ o S) H) (hid (D4 ρ o λb=>S b\/b∈L) H1):=D5 s λb z k=>by
  rcases z with (z | z) | z
  .exact .inl z
  .exact absurd (n b z) k
  .exact .inr z
 refine⟨I.len,U5,λb z=>?_,J.new,I.inj,λi ds h=>?_,λi d h=>?_,λi d h=>?_,λi t h=>?_⟩
 .rcases z with z | z
  .exact J.sl b z
  .obtain⟨xs,e⟩:=l b z;refine⟨xs,hid_some.mpr ⟨λ⟨i,x,h,c,j⟩=>?_,e⟩⟩
   obtain⟨Y,e'⟩:=I.lists b (.inr ⟨i,x,h,c,j⟩);rw[n b z]at e';cases e'
 .obtain⟨p,h1,y,xs,w,r⟩:=I.own i ds h;exact⟨p,h1,y,xs,s _ _ w,r.mono g⟩
 .obtain⟨v,h1,y⟩:=I.val i d h;exact⟨v,h1,y.mono g⟩
 .obtain⟨v,h1,y⟩:=I.bor i d h;exact⟨v,h1,y.mono s⟩
 .obtain⟨nd,v,h1,y⟩:=I.tr i t h;exact⟨nd,v,h1,y.mono g s⟩
theorem cR6 {o:Nat->AM}{S:Addr->Prop}{L:AM}{b:Addr}:D4 ρ o (λb=>S b\/b∈L) b↔D4 ρ o S b\/b∈L:=by
 constructor
 .rintro ((z | z) | z)
  .exact .inl (.inl z)
  .exact .inr z
  .exact .inl (.inr z)
 .rintro ((z | z) | z)
  .exact .inl (.inl z)
  .exact .inr z
  .exact .inl (.inr z)
theorem G1 {tr:TA}(y:EFT K ta ρ u)(M:AFT K tr ρ us):AFT K (C0 ta tr) ρ (u::us):=λS B σ H o I Q q=>
 y S B σ H o I _ λx Y H1 j p U r=>M _ _ σ H1 o (I.hide j p (aA4 u r)) _ λxs X s c w J R=>by
  have N:=aA4 u r
  refine q (x::xs) (Y++X) s (L2.Same.tr j c) (λb hb=>?_) ?_ (.cons (r.mono ?_ c) (R.mono ?_ (L2.Same.rf _)))
  .rcases Aa0.mp hb with hb | hb
   .exact p b hb
   .exact S4 j (w b hb)
  .refine Aa4.mpr ⟨U,J,λa y b hb e=>?_⟩
   subst e;obtain⟨xs,e⟩:=N a y;rw[w a hb]at e;cases e
  .refine D5 c λb z k=>?_
   rcases z with z | z
   .exact .inl z
   .rcases Aa0.mp z with z | z
    .exact .inr z
    .exact absurd (w b z) k
  .refine D5 (L2.Same.rf _) λb z _=>?_
   rw[cR6];rcases z with z | z
   .exact .inl (.inl z)
   .rcases Aa0.mp z with z | z
    .exact .inl (.inr z)
    .exact .inr z
theorem aN1 {t:TA}(h:AFT K t ρ us)(e:us.length<=sizeLine:=by first | decide | (unfold sizeLine;simp)):EFT K (aM6 t) ρ (.tup us):=λS B σ H o I Q q=>h S B σ H o I _ λxs L H1 y n d r=>
 ⟨by rw[aO2 r];exact e,λp hp=>by
  have g:=C9 (o:=.tup xs) hp
  exact q _ L _ (L2.Same.tr y g) n d (.tup (SqT.of C2) (r.mono (K1 g) g))⟩
theorem N0 {t:TA}(h:AFT K t ρ us)(w:us.length<=sizeLine:=by first | decide | (unfold sizeLine;simp)):EFT K (dJ7 t) ρ (.lst us):=λS B σ H o I Q q=>h S B σ H o I _ λxs L H1 y n d r=>
 ⟨by rw[aO2 r];exact w,λp hp=>by
  have g:=C9 (o:=.lst xs) hp
  refine q _ (p::L) _ (L2.Same.tr y g) (λb hb=>?_) (Aa5.mpr ⟨λz=>?_,d⟩) (.lst C2 (r.mono ?_ g))
  .rcases Aa1.mp hb with rfl | hb
   .exact S4 y hp
   .exact n b hb
  .obtain⟨j,e⟩:=Y9 us r p z;rw[hp]at e;cases e
  .refine D5 g λb z k=>?_
   rcases z with z | z
   .exact .inl z
   .rcases Aa1.mp z with rfl | z
    .exact absurd hp k
    .exact .inr z⟩
theorem cM3 {i:Nat}{R:AE}(h:EFT K t ρ u)(w:R.nx (ρ.set i (.tr u)))(hi:i<ρ.length:=by first | decide | (simp;done) | (simp[LV.sl0];done)):W K (aV3 t (G5 i)) ρ R:=λS B D σ H o I s=>
 h S B σ H o I _ λv L e k n d r=>s.nx _ _ e _ (I.put i hi (λ_=>False) (λ_ z=>z.elim) (λb y q _=>k b y q) (λb z=>.inr (n b z)) (.inr ⟨u,rfl,d,r⟩) (.inl λ_ z=>z)) w
def AtP (K:Frag)(t:TE)(ρ:List Sl)(i:Nat)(π:AD):Prop:=
 ∀(S:Addr->Prop) (B:Hp) (σ:St) (H:Hp) (o:Nat->AM),Env K S B H σ ρ o->∀(u0 u:OT),ρ[i]? = some (.tr u0)->u0.at π=some u->∀Q:VK,
  (∀v0 v H',Same H H'->σ[i]? = some (some v0)->Foc K (hid (D4 ρ o S) H') H' v0 u0 (o i) π v u->Q v H')->t σ H Q
theorem aE7 {i:Nat}:AtP K (E1 i) ρ i []:=λS B σ H o I u0 u h e Q q=>by
 cases e
 obtain⟨_,v,a,b⟩:=I.tr i u0 h;exact⟨v,a,q v v H (L2.Same.rf _) a (Foc.root b)⟩
theorem Foc.grow {Z Z' H H':Hp}{v0 v:V}{L0:AM}{π:AD}(f:Foc K Z H v0 u0 L0 π v u)(l:∀b∈L0,∃u:HM,H b=some u.ho)(w:Same Z Z')(h:Same H H'):Foc K Z' H' v0 u0 L0 π v u:=
 f.mono w (λ_ _=>Y4 h) λb y=>by obtain⟨xs,e⟩:=l b y;rw[e];exact h _ _ e
theorem Env.trL {S:Addr->Prop}{B H:Hp}{σ:St}{o:Nat->AM}{i:Nat}(I:Env K S B H σ ρ o)(h:ρ[i]? = some (.tr u0)):∀b∈o i,∃u:HM,H b=some u.ho:=λb e=>I.lists b (.inr ⟨i,_,h,rfl,e⟩)
theorem aI5 {i:Nat}{π:AD}{k:Int}(n:Nat)(hp:AtP K ta ρ i π)(X:E K false tb ρ (.int k))(J:k=n)(U:∀u0,ρ[i]? = some (.tr u0)->∃u,u0.at π=some u):AtP K (tOp (rIx K) ta tb) ρ i (π++[n]):=λS B σ H o I u0 u1 h s Q q=>by
 obtain⟨u,y⟩:=U u0 h;rw[aH3 y]at s;refine hp S B σ H o I u0 u h y _ λY v H1 z a f=>?_
 refine X S B σ H1 o (I.grow z) _ λw c j r=>?_
 cases r
 have f2:=f.grow ((I.grow z).trL h) (K1 j) j
 obtain⟨p,xs,x,rfl,hs,M,f3⟩:=f2.down y s;have e:=M6 n J M;rcases hs with hs | hs
 .exact .inl ⟨p,xs,k,x,rfl,rfl,hs,e,q Y x c (L2.Same.tr z j) a f3⟩
 .exact .inr (.inl ⟨p,xs,k,x,rfl,rfl,hs,e,q Y x c (L2.Same.tr z j) a f3⟩)
end
section
variable {K:Frag}{ρ ρ' ρ1:List Sl}{m m':Bool}{t ta tb tc:TE}{d d':PyData}{ds es:AG}{u u0 u1:OT}{us us':List OT}
theorem aP3 {S:Addr->Prop}{B H H2:Hp}{σ:St}{o:Nat->AM}{i:Nat}{π:AD}{v0:V}{p:Addr}{x:V}{Lx:AM}(I:Env K S B H σ ρ o)(hi:ρ[i]? = some (.tr u0))(hv:σ[i]? = some (some v0))
  (f:Foc K (hid (D4 ρ o S) H) H v0 u0 (o i) π (.ref p) (.lst us)) (s:Same H H2) (Q:∀b∈Lx,H b=none) (dx:Lx.Nodup) (rx:Dp K (hid (λb=>D4 ρ o S b\/b∈Lx) H2) H2 x u Lx)
  (nb:∀(j:Nat) (d:PyData),ρ[j]?≠some (Sl.bor d)) (c:List V->List V) (us':List OT)
  (hc:∀(xs:List V) (M:AM) (Z' H':Hp),Dps K Z' H' xs us M->Dp K Z' H' x u Lx->∃M',Dps K Z' H' (c xs) us' M'/\((M++Lx).Nodup->M'.Nodup)/\∀b∈M',b∈M++Lx) :
  ∃xs,H2 p=some (.lst xs)/\xs.length=us.length/\∃o',Env K S B (upd H2 p (.lst (c xs))) σ (ρ.set i (.tr (u0.put π (.lst us')))) o':=by
 obtain⟨nd,v0',hv',r0⟩:=I.tr i u0 hi;obtain⟨L,A,C,h1,R,h3⟩:=f;cases h1 with
 | @lst _ xs _ M hp r=>
 have P:i<ρ.length:=(Ab0.mp hi).1
 have oi:∀b∈o i,cF2 ρ o i b:=λb hb=>⟨_,hi,rfl,hb⟩
 have os:∀b∈o i,D4 ρ o S b:=λb hb=>.inr ⟨i,_,hi,rfl,hb⟩
 have X:p∈o i:=by rw[R];simp
 have w:∀b,(b∈A\/b∈M\/b∈C)->b∈o i/\b≠p:=λb hb=>by
  rw[R]at nd ⊢;refine⟨by rcases hb with hb | hb | hb <;> simp[hb],λe=>?_⟩
  subst e;simp only[Aa4,Aa5,Ab6,Aa0,Aa1,Ad7]at nd;grind
 have lst:=I.trL hi
 have up:∀b,b∈o i->b≠p->upd H2 p (.lst (c xs)) b=H b:=λb hb hne=>by
  rw[B8 hne];obtain⟨k,e⟩:=lst b hb;rw[e];exact s _ _ e
 have tk:∀a k,Rd H2 a (.tup k)->Rd (upd H2 p (.lst (c xs))) a (.tup k):=λa k q=>by
  have n:a≠p:=λe=>by
   subst e
   have:=s _ _ hp
   rcases q with q | ⟨o,q⟩ <;> rw[this]at q <;> cases q
  rcases q with q | ⟨o,q⟩
  .exact .inl (by rw[B8 n];exact q)
  .exact .inr ⟨o,by rw[B8 n];exact q⟩
 have z1:Same (hid (D4 ρ o S) H) (hid (λb=>D4 ρ o S b\/b∈Lx) (upd H2 p (.lst (c xs)))):=λb y q=>by
  obtain⟨J,N⟩:=hid_some.mp q;refine hid_some.mpr ⟨λz=>z.elim J λz=>(by rw[Q b z]at N;cases N),?_⟩
  rw[B8 (λe=>J (os b (by rw[e];exact X)))]
  exact s _ _ N
 have z2:Same (hid (λb=>D4 ρ o S b\/b∈Lx) H2) (hid (λb=>D4 ρ o S b\/b∈Lx) (upd H2 p (.lst (c xs)))):=λb y q=>by
  obtain⟨J,N⟩:=hid_some.mp q;refine hid_some.mpr ⟨J,?_⟩;rw[B8 (λe=>J (.inl (os b (by rw[e];exact X))))]
  exact N
 have pN:p∉Lx:=λz=>by rw[Q p z]at hp;cases hp
 obtain⟨M',c1,c2,c3⟩:=hc xs M _ _ (a9 z1 (λa k q=>tk a k (Y4 s q)) us (λb hb=>up b (w b (.inr (.inl hb))).1 (w b (.inr (.inl hb))).2) r)
  (aB0 z2 tk u (λb hb=>by rw[B8 (λe=>pN (by rw[<- e];exact hb))]) rx)
 have D:=h3 _ _ (.lst us') (p::M') z1 (λa k q=>tk a k (Y4 s q)) (λb hb=>up b (w b (by rcases hb with hb | hb <;> simp[hb])).1 (w b (by rcases hb with hb | hb <;> simp[hb])).2) (.lst C2 c1)
 have U:∀b∈Lx,b∉o i:=λb hb F=>by
  obtain⟨k,e⟩:=lst b F;rw[Q b hb]at e;cases e
 have mem:∀b∈A++p::M'++C,b∈o i\/b∈Lx:=λb hb=>by
  rw[R]
  have:=c3 b
  simp only[Aa0,Aa1]at hb this ⊢;grind
 have Y:(A++p::M'++C).Nodup:=by
  rw[R]at nd U;simp only[Aa4,Aa5,Ab6,Aa0,Aa1,Ad7]at nd U c2 c3 ⊢;grind
 refine⟨xs,s _ _ hp,aO2 r,bD5 o i (A++p::M'++C),?_⟩
 have:=I.put (H':=upd H2 p (.lst (c xs))) (v:=v0) (x:=.tr (u0.put π (.lst us'))) (L:=A++p::M'++C) i P (λb=>b=p) (λb z=>by rw[z];exact oi p X) (λb y q z=>by rw[B8 z];exact s _ _ q)
  (λb hb=>(mem b hb).imp (oi b) (Q b))
  (.inr ⟨_,rfl,Y,D.mono (D5 (L2.Same.rf _) λb z _=>z.elim .inl λz=>(mem b z).elim (λz=>.inl (os b z)) .inr) (L2.Same.rf _)⟩) (.inr nb)
 rw[bI7 hv]at this;exact this
theorem aS1 {Z H:Hp}{x:V}{Lx:AM}:∀{us:List OT} {xs:List V} {M:AM},Dps K Z H xs us M->Dp K Z H x u Lx->Dps K Z H (xs++[x]) (us++[u]) (M++Lx)
 | [],_,_,r,h=>by cases r;simpa using Dps.cons h .nil
 | a::us,_,_,r,h=>by
  cases r with
  | @cons v _ vs _ La Lb r1 r2=>
   have:=Dps.cons r1 (aS1 r2 h)
   simpa using this
theorem Z6 {i:Nat}{π:AD}{R:AE}(hp:AtP K ta ρ i π)(hi:ρ[i]? = some (.tr u0))(Y:u0.at π=some (.lst us))(j:EFT K tb ρ u)(c:us.length<sizeLine)(q:R.nx (ρ.set i (.tr (u0.put π (.lst (us++[u]))))))(nb:S2 ρ=true:=by rfl) :
  W K (aM4 (tBM K "list" aH6 ta (C0 tb O1))) ρ R:=λS B D σ H o I s=>by
 refine hp S B σ H o I u0 _ hi Y _ λv0 v H1 e a f=>?_
 have ⟨L,A,C,f1,f2,f3⟩:=f
 cases f1 with
 | @lst p xs _ M hpp r=>
 refine⟨.inl ⟨rfl,_,SqL.of hpp⟩,?_⟩;refine j S B σ H1 o (I.grow e) _ λx y H2 F n d Q=>?_
 obtain⟨P,w,z,X,J⟩:=aP3 (I.grow e) hi a f F n d Q (L5 nb) (λxs=>xs++[x]) (us++[u]) λxs M Z' H' U N=>⟨M++y,aS1 U N,λh=>h,λb k=>k⟩
 exact⟨p,P,x,rfl,rfl,w,by rw[z];exact c,s.nx _ σ _ X J q⟩
theorem bX0 {Z H:Hp}{x:V}:∀{us:List OT} {xs:List V} {M:AM} {n:Nat},Dps K Z H xs us M->Dp K Z H x u []->∃M',Dps K Z H (xs.set n x) (us.set n u) M'/\(M.Nodup->M'.Nodup)/\∀b∈M',b∈M
 | [],_,_,n,r,h=>by cases r;exact⟨[],.nil,id,λ_ z=>z⟩
 | a::us,_,_,0,r,h=>by
  cases r with
  | @cons v _ vs _ La Lb r1 r2=>exact⟨Lb,by simpa using Dps.cons h r2,λz=>(Aa4.mp z).2.1,λb hb=>by simp[hb]⟩
 | a::us,_,_,n+1,r,h=>by
  cases r with
  | @cons v _ vs _ La Lb r1 r2=>
   obtain⟨M',h1,y,e⟩:=bX0 (n:=n) r2 h;refine⟨La++M',Dps.cons r1 h1,λz=>?_,λb hb=>?_⟩
   .obtain⟨k,j,c⟩:=Aa4.mp z;exact Aa4.mpr ⟨k,y j,λa w b hb=>c a w b (e b hb)⟩
   .rcases Aa0.mp hb with hb | hb
    .simp[hb]
    .simp[e b hb]
theorem dD5 {i:Nat}{π:AD}{k:Int}{R:AE}(n:Nat)(he:E K true t ρ d)(hp:AtP K ta ρ i π)(hk:E K false tb ρ (.int k))(e:k=n)(hn':n<us.length)(hi:ρ[i]? = some (.tr u0))(hu:u0.at π=some (.lst us))(hn:R.nx (ρ.set i (.tr (u0.put π (.lst (us.set n (.leaf d)))))))(nb:S2 ρ=true:=by rfl) :
  W K (aV3 t (dE9 ta tb cQ7)) ρ R:=λS B D σ H o I s=>by
 refine he S B σ H o I _ λx Y j rx=>?_
 refine hp S B σ Y o (I.grow j) u0 _ hi hu _ λv0 v H1 c a f=>?_
 have ⟨L,A,C,f1,f2,f3⟩:=f
 cases f1 with
 | @lst p xs _ M hpp r=>
 refine hk S B σ H1 o ((I.grow j).grow c) _ λw H2 q y=>?_
 cases y
 obtain⟨ys,U,e2,o',J⟩:=aP3 (x:=x) (u:=.leaf d) (Lx:=[]) ((I.grow j).grow c) hi a f q (λb z=>nomatch z) .nil (.leaf (rx.mono (L2.Same.tr (K1 (L2.Same.tr c q)) bB7))) (L5 nb) (λxs=>xs.set n x) (us.set n (.leaf d)) λxs M Z' H' r1 r2=>by
  obtain⟨X,N,Q,F⟩:=bX0 (n:=n) r1 r2;exact⟨X,N,λh=>Q (by simpa using h),λb P=>by simpa using F b P⟩
 exact⟨p,ys,k,n,rfl,rfl,U,by unfold ixN;rw[Ac (by lia),Ac (by lia)];simp[e],s.nx _ σ _ o' J hn⟩
def EX (K:Frag)(t:TE)(ρ:List Sl)(j:Nat)(d:PyData)(ρ':List Sl):Prop:=
 ∀(S:Addr->Prop) (B:Hp) (σ:St) (H:Hp) (o:Nat->AM),Env K S B H σ ρ o->∀Q:VK,(∀v H' o',Env K S B H' σ ρ' o'->(∀k,k≠j->o' k=o k)->(∀b y,H b=some y->b∉o j->H' b=some y)->(∀b∈o j,∃u:HM,H b=some u.ho) ->
  Same (hid (D4 ρ o S) H) (hid (D4 ρ' o' S) H')->Rep K (hid (D4 ρ' o' S) H') v d->Q v H')->t σ H Q
theorem bO5 {j:Nat}(w:ρ[j]? = some (.own (ds++[d])))(nb:S2 ρ=true:=by rfl):EX K (dF7 K "list" dD8 (E1 j)) ρ j d (ρ.set j (.own ds)):=λS B σ H o I Q q=>by
 obtain⟨p,hp,a,xs,b,c⟩:=I.own j _ w;have M:=c.length;obtain⟨y,h1,X⟩:=c.get' (i:=ds.length) (d:=d) (by simp)
 refine⟨_,a,.inl ⟨rfl,xs,SqL.of b⟩,_,xs,y,rfl,rfl,b,by rw[M];simpa using h1,?_⟩
 have s:=c.dropLast
 rw[List.dropLast_concat]at s;have Y:=I.upd w hp s (L5 nb);have g:=bD9 (S:=S) (H:=H) (xs:=xs.dropLast) (es:=ds) w hp;exact q y _ _ Y (λk J=>Q9 (Ne.symm J)) (λr x e n=>by rw[B8 (λz=>n (by rw[hp,z];simp))];exact e) (λr U=>I.lists r (.inr ⟨j,_,w,rfl,U⟩)) g (X.mono g)
theorem cH7 {j:Nat}{k:Int}(n:Nat)(X:ρ[j]? = some (.own ds))(U:E K false tb ρ (.int k))(J:k=n)(hn:ds[n]? = some d)(R:n<2^63)(nb:S2 ρ=true:=by rfl):EX K (tBM K "list" cQ2 (E1 j) (C0 tb O1)) ρ j d (ρ.set j (.own (ds.eraseIdx n))):=λS B σ D o Y Q q=>by
 obtain⟨p,hp,a,xs,N,P⟩:=Y.own j _ X;refine⟨_,a,.inl ⟨rfl,xs,SqL.of N⟩,?_⟩;refine U S B σ D o Y _ λw H s r=>?_
 cases r
 have I:=Y.grow s
 have b:=s _ _ N
 have c:=P.mono (K1 s)
 obtain⟨y,h1,h2⟩:=c.get' hn;have hl:=(Ab0.mp h1).1;refine⟨_,xs,k,n,y,rfl,rfl,b,by lia,by lia,(bB0 (by unfold ixN;rw[Ac (by lia),Ac (by lia)];simp[J])).1,h1,?_⟩
 have F:=I.upd X hp (c.eraseIdx n) (L5 nb)
 have g:=bD9 (S:=S) (H:=H) (xs:=xs.eraseIdx n) (es:=ds.eraseIdx n) X hp
 exact q y _ _ F (λk U=>Q9 (Ne.symm U)) (λM x e m=>by rw[B8 (λz=>m (by rw[hp,z];simp))];exact s _ _ e) (λM R=>Y.lists M (.inr ⟨j,_,X,rfl,R⟩)) (L2.Same.tr (K1 s) g) (h2.mono g)
theorem aK8 {i j:Nat}{R:AE}(J:EX K t ρ j d ρ')(hi:ρ[i]? = some (.own ds))(e:ρ'[i]? = some (.own ds))(X:ds.length<sizeLine)(U:R.nx (ρ'.set i (.own (ds++[d]))))(nb:S2 ρ'=true:=by rfl) :
  W K (aM4 (tBM K "list" aH6 (E1 i) (C0 t O1))) ρ R:=λS B D σ H o I s=>by
 obtain⟨p,hp,a,xs,b,c⟩:=I.own i ds hi;refine⟨_,a,.inl ⟨rfl,xs,SqL.of b⟩,?_⟩;refine J S B σ H o I _ λv M N z _ _ _ _ r=>?_
 obtain⟨Q,y,k,w,Y,q⟩:=z.own i ds e;rw[a]at k;cases k;refine⟨_,w,v,rfl,rfl,Y,by rw[q.length];exact X,?_⟩
 exact s.nx _ σ _ _ (z.upd e y (q.append (.cons r .nil)) (L5 nb)) U
theorem bO6 {i j:Nat}{π:AD}{R:AE}(hp:AtP K ta ρ i π)(hx:EX K t ρ j d ρ')(w:i≠j)(hj:∃x,ρ[j]? = some x/\x.os=true)(hi:ρ[i]? = some (.tr u0))(c:ρ'[i]? = some (.tr u0))(hu:u0.at π=some (.lst us))(hl:us.length<sizeLine)(hn:R.nx (ρ'.set i (.tr (u0.put π (.lst (us++[.leaf d]))))))(nb:S2 ρ'=true:=by rfl) :
  W K (aM4 (tBM K "list" aH6 ta (C0 t O1))) ρ R:=λS B D σ H o I s=>by
 refine hp S B σ H o I u0 _ hi hu _ λv0 v H1 F a f=>?_
 have ⟨L,A,C,f1,f2,f3⟩:=f
 cases f1 with
 | @lst p xs _ M hpp r=>
 refine⟨.inl ⟨rfl,_,SqL.of hpp⟩,?_⟩;refine hx S B σ H1 o (I.grow F) _ λx H2 o' I' ho Y X hz rx=>?_
 obtain⟨y,U,N⟩:=hj;have Q:=f.mono hz (H':=H2) (λa P q=>by
  have n:a∉o j:=λz=>by
   obtain⟨zs,e⟩:=X a z;rcases q with q | ⟨o,q⟩ <;> rw[e]at q <;> replace q:=Ab4 q
   .exact HM.nt q
   .exact HM.nf q
  rcases q with q | ⟨o,q⟩
  .exact .inl (Y _ _ q n)
  .exact .inr ⟨o,Y _ _ q n⟩) λb k=>by
   obtain⟨zs,e⟩:=(I.grow F).trL hi b k;rw[e];exact Y _ _ e λz=>w (I.inj i j _ y hi U rfl N b k z)
 rw[<- ho i w]at Q;obtain⟨P,e1,e2,o2,J⟩:=aP3 (x:=x) (u:=.leaf d) (Lx:=[]) I' c a Q (L2.Same.rf _) (λb z=>nomatch z) .nil (.leaf (rx.mono bB7)) (L5 nb) (λxs=>xs++[x]) (us++[.leaf d]) λxs M Z' H' r1 r2=>⟨M++[],aS1 r1 r2,λh=>h,λb k=>k⟩
 exact⟨p,P,x,rfl,rfl,e1,by rw[e2];exact hl,s.nx _ σ _ o2 J hn⟩
theorem Env.frz {S:Addr->Prop}{B H:Hp}{σ:St}{o:Nat->AM}{i:Nat}{x:Sl}(I:Env K S B H σ ρ o)(hi:ρ[i]? = some x)(R:x=.own ds/\d=.list ds\/∃u,x=.tr u/\d=u.data):Env K S B H σ (ρ.set i (.val d)) o:=by
 have s:x.os=true:=by rcases R with⟨rfl,_⟩ | ⟨u,rfl,_⟩ <;> rfl
 have J:i<ρ.length:=(Ab0.mp hi).1
 have w:∀{j:Nat} {y:Sl},y≠.val d->(ρ.set i (.val d))[j]? = some y->i≠j/\ρ[j]? = some y:=λ{j y} r h=>by
  rw[List.getElem?_set]at h;by_cases c:i=j
  .rw[Ac c,Ac (by lia)]at h
   exact absurd (Ab4 h).symm r
  .rw[Ab c]at h;exact⟨c,h⟩
 have nd:∀{y:Sl},y.os=true->y≠.val d:=λ{y} h e=>by rw[e]at h;cases h
 have g:Same (hid (D4 ρ o S) H) (hid (D4 (ρ.set i (.val d)) o S) H):=D5 (L2.Same.rf _) λb z _=>aG1 rfl z
 have Y:∀b∈o i,hid (D4 (ρ.set i (.val d)) o S) H b=H b:=λb X=>by
  obtain⟨xs,e⟩:=I.lists b (.inr ⟨i,x,hi,s,X⟩);rw[e];refine hid_some.mpr ⟨λz=>?_,e⟩
  rcases z with z | ⟨j,y,h,r,U⟩
  .obtain⟨F,e'⟩:=I.sl b z;rw[I.new i x hi s b X]at e';cases e'
  .obtain⟨c,h⟩:=w (nd r) h;exact c (I.inj i j x y hi h s r b X U)
 have lists:∀b,D4 (ρ.set i (.val d)) o S b->∃u:HM,H b=some u.ho:=λb z=>I.lists b (aG1 rfl z)
 refine⟨by simp[I.len],I.base,I.sl,λj y h r=>I.new j y (w (nd r) h).2 r,λj k y z h D r Q=>I.inj j k y z (w (nd r) h).2 (w (nd Q) D).2 r Q,λj es h=>?_,λj d' h=>?_,λj d' h=>?_,λj t h=>?_⟩
 .obtain⟨c,h⟩:=w (nd rfl) h;obtain⟨p,M,a,xs,b,N⟩:=I.own j es h;exact⟨p,M,a,xs,b,N.mono g⟩
 .by_cases c:i=j
  .subst c;rw[Av J]at h;cases h;rcases R with⟨rfl,rfl⟩ | ⟨u,rfl,rfl⟩
   .obtain⟨p,M,a,xs,b,N⟩:=I.own i ds hi;exact⟨_,a,.lst (SqL.of (by rw[Y p (by rw[M];simp)];exact b)) (N.mono g)⟩
   .obtain⟨_,v,a,b⟩:=I.tr i u hi;exact⟨v,a,bC7 U5 (λ_ _ q=>i7 lists q) g u Y b⟩
  .rw[Ad0 c]at h;obtain⟨v,a,b⟩:=I.val j d' h;exact⟨v,a,b.mono g⟩
 .obtain⟨c,h⟩:=w (by simp) h
  exact I.bor j d' h
 .obtain⟨c,h⟩:=w (nd rfl) h;obtain⟨n,v,a,b⟩:=I.tr j t h;exact⟨n,v,a,b.mono g (L2.Same.rf _)⟩
theorem aV8 {i:Nat}{t:TS}{R:AE}(hi:ρ[i]? = some (.own ds))(h:W K t (ρ.set i (.val (.list ds))) R):W K t ρ R:=λS B D σ H o I s=>h S B D σ H o (I.frz hi (.inl ⟨rfl,rfl⟩)) s
theorem cG8 {i:Nat}{t:TS}{R:AE}(hi:ρ[i]? = some (.tr u))(h:W K t (ρ.set i (.val u.data)) R):W K t ρ R:=λS B D σ H o I s=>h S B D σ H o (I.frz (ds:=[]) hi (.inr ⟨u,rfl,rfl⟩)) s
theorem aA7 {α:Type}{f:α->OT}{g:α->PyData}(h:∀a,(f a).data=g a):∀l:List α,OT.datas (l.map f)=l.map g
 | []=>rfl
 | a::l=>by simp[OT.datas,h a,aA7 h l]
end
end LV
namespace LV
open PySem PySem.Spec PyProof.Rows L2
def cO0 (K:Frag):R2:=λx y H Q=>∃l b xs zs,x=.ref l/\y=.ref b/\SqL K H l xs/\SqL K H b zs/\xs.length+zs.length<=sizeLine/\∀p,H p=none->Q (.ref p) (upd H p (.lst (xs++zs)))
theorem N4 {X:Cx}(K:Frag)(h:X.K=K:=by rfl):OpR X (binaryOp .Add) (cO0 K):=by
 subst h;intro aA s σ H x y v u Q I rx ry h;obtain⟨l,b,xs,zs,rfl,rfl,P,B,hz,q⟩:=h;cases rx;cases ry;obtain⟨its,r,⟨⟨R,D,data,sl⟩,n,ho,U,hdd,J⟩,_⟩:=I.list P;obtain⟨w,N,⟨⟨Y,p,c,m⟩,n2,j,z,M,k⟩,_⟩:=I.list B;simp only at U J z k;subst U J z k;have e:its.toArray++w.toArray=(its++w).toArray:=by simp
 have hl:=r.length
 have hl2:=N.length
 refine concat_meets ⟨_,ho,rfl⟩ ⟨_,j,rfl⟩ noFill_list_add seq_list_add PySem.F.slot_list_add PySem.F.entry_list_add (PySem.F.args_list_add_2 _ _) (list_addW l b its.toArray w.toArray n n2 D p sl m (by simp;lia)) ⟨ho,j,?_⟩
 rw[e];exact⟨.ref _,_,I.lnew (t':=s.toks) (r.append N) (by rw[Ab7];lia),rfl,q _ I.fresh⟩
end LV
namespace LV
open PySem L2
section
variable {K:Frag}{ρ ρ' ρ1:List Sl}{m m':Bool}{t ta tb tc:TE}{d d':PyData}{ds es:AG}
theorem Z9:∀{l l':AG},K0 (l++l')=(K0 l&&K0 l')
 | [],l'=>by simp[K0]
 | a::l,l'=>by simp[K0,Z9 (l:=l),Bool.and_assoc]
theorem bK0:∀{l:AG},K0 l=true->∀d∈l,imm d=true
 | [],_,d,hd=>by simp at hd
 | a::l,h,d,hd=>by
  simp[K0]at h
  rcases Aa1.mp hd with rfl | z
  .exact h.1
  .exact bK0 h.2 d z
theorem bB1 (k:E K false ta ρ (.list ds))(j:E K false tb ρ (.list es))(hi:K0 ds=true)(z:K0 es=true)(c:ds.length+es.length<=sizeLine:=by first | decide | (unfold sizeLine;simp;done)):EF K (tOp (cO0 K) ta tb) ρ (ds++es):=λS B σ H o I Q q=>
 k S B σ H o I _ λx H1 w s=>j S B σ H1 o (I.grow w) _ λy X e Y=>by
  cases s with
  | @lst a xs _ sa ra=>
  cases Y with
  | @lst b ys _ sb rb=>
  have r:=ra.mono e
  refine⟨a,b,xs,ys,rfl,rfl,R9 e sa,sb,by rw[ra.length,rb.length];exact c,λp hp=>q p _ _ (L2.Same.tr w (L2.Same.tr e (C9 hp))) (S4 (L2.Same.tr w e) hp) C2 (v9 ((I.grow w).grow e).lists hp (r.append rb) ?_)⟩
  rw[Z9,hi,z];rfl
def O (K:Frag)(t:TO)(ρ:List Sl)(i:Option Int):Prop:=
 ∀(S:Addr->Prop) (B:Hp) (σ:St) (H:Hp) (o:Nat->AM),Env K S B H σ ρ o->∀Q,(∀H',Same H H'->Q i H')->t σ H Q
def y6 (xs:AG)(lo hi:Option Int):AG:=List.take (HT.sIx xs.length xs.length hi-HT.sIx xs.length 0 lo) (List.drop (HT.sIx xs.length 0 lo) xs)
theorem Reps.cut {H:Hp}{xs:List V}(r:Reps K H xs ds)(lo hi:Option Int):Reps K H (aZ6 xs lo hi) (y6 ds lo hi):=by
 unfold aZ6 y6;rw[r.length];exact(r.drop _).take _
theorem U0 (lo hi:Option Int)(h:K0 ds=true):K0 (y6 ds lo hi)=true:=by
 refine bE6 λd e=>?_
 have:d∈ds:=Cg (Be e)
 exact bK0 h d this
theorem aJ9:O K bY4 ρ none:=λS B σ H o I Q q=>q H (L2.Same.rf _)
theorem Y7 {i:Int}(h:E K false t ρ (.int i)):O K (cZ4 t) ρ (some i):=λS B σ H o I Q q=>h S B σ H o I _ λv e s r=>by
 cases r
 exact⟨i,rfl,q e s⟩
theorem aK2 {n:Nat}(h:n<=ds.length):y6 ds (some (n:Int)) none=ds.drop n:=by
 unfold y6 HT.sIx;simp only[];rw[Ab (by lia),Ac8,Nat.min_eq_left h]
 exact Dm (by simp)
theorem aQ0 {n:Nat}(h:n<=ds.length):y6 ds none (some (n:Int))=ds.take n:=by
 unfold y6 HT.sIx;simp only[];rw[Ab (by lia),Ac8,Nat.min_eq_left h]
 simp
theorem cJ4 {tl th:TO}{lo hi:Option Int}(k:E K false ta ρ (.list ds))(c:O K tl ρ lo)(j:O K th ρ hi)(w:K0 ds=true):EF K (tSl (dD4 K) ta tl th) ρ (y6 ds lo hi):=λS B σ H o I Q q=>
 k S B σ H o I _ λx H1 y s=>c S B σ H1 o (I.grow y) _ λr z=>j S B σ r o ((I.grow y).grow z) _ λX Y=>by
  cases s with
  | @lst a xs _ sa ra=>
  have e:=L2.Same.tr z Y
  exact⟨a,xs,rfl,R9 e sa,λp hp=>q p _ _ (L2.Same.tr y (L2.Same.tr e (C9 hp))) (S4 (L2.Same.tr y e) hp) C2 (v9 (I.grow (L2.Same.tr y e)).lists hp ((ra.mono e).cut lo hi) (U0 lo hi w))⟩
end
end LV
namespace L2
open PySem
def dK7:Expr->Bool
 | .Starred ..=>false
 | _=>true
theorem aP6 {e:Expr}{es:AN}{env:Env}(h:dK7 e=true):starEach (e::es) env=(false,eval e env)::starEach es env:=by
 cases e <;> first | rfl | cases h
theorem A1 {X:Cx}{e:Expr}{es:AN}{te:TE}{t:TA}(y:PE X e te)(w:PA X es t)(h:dK7 e=true:=by rfl):PA X (e::es) (C0 te t):=cR3 y w (aP6 h)
theorem aS2 {X:Cx}(K:Frag){e:Expr}{te:TE}{p1 p2 pos1 pos2:Pos}(j:X.calm=true)(y:Gl X "list")(z:X.mg "list" = none)(w:Gl X "reversed")(r:X.mg "reversed" = none)(c:PE X e te)(k:X.K=K:=by rfl)(h:dK7 e=true:=by rfl) :
  PE X (.Call (.Name "list" p1) [.Call (.Name "reversed" p2) [e] [] pos2] [] pos1) (LV.bU8 K te):=
 LV.bH6 K j y z w r c k (aP6 h) (aP6 rfl)
end L2
namespace TT
def lin:AD->Nat->Nat->Prop
 | c::d::l,a,b=>(a=c/\b=d)\/lin (d::l) a b
 | _,_,_=>False
theorem bW2 (a b:Nat):lin [] a b↔False:=Iff.rfl
theorem aC5 (c a b:Nat):lin [c] a b↔False:=Iff.rfl
theorem B6 (c d:Nat)(l:AD)(a b:Nat):lin (c::d::l) a b↔(a=c/\b=d)\/lin (d::l) a b:=Iff.rfl
theorem C1 (c:Nat)(w:AD)(a b:Nat):∀u:AD,lin (u++c::w) a b↔lin (u++[c]) a b\/lin (c::w) a b
 | []=>by simp[aC5]
 | [d]=>by simp[B6,aC5]
 | d::e::u=>by
  have y:=C1 c w a b (e::u)
  simp only[Ab6,B6]at y ⊢;rw[y];grind
theorem N1 {a b c:Nat}:∀{u:AD},lin (u++[c]) a b->a∈u
 | [],h=>h.elim
 | [d],h=>by
  rcases (B6 ..).mp h with⟨rfl,rfl⟩ | h
  .simp
  .exact h.elim
 | d::e::u,h=>by
  rcases (B6 ..).mp h with⟨rfl,rfl⟩ | h
  .simp
  .exact Ad4 _ (N1 (u:=e::u) h)
theorem O4 {a b c:Nat}{u:AD}(h:lin (c::u) a b):b∈u:=by
 induction u generalizing c with
 | nil=>exact h.elim
 | cons d u e=>
  rcases (B6 ..).mp h with⟨rfl,rfl⟩ | h
  .simp
  .exact Ad4 _ (e h)
theorem Y2 {l:AD}{a b:Nat}(h:lin l a b):a∈l/\b∈l:=by
 induction l with
 | nil=>exact h.elim
 | cons c l e=>
  refine⟨?_,Ad4 _ (O4 h)⟩;cases l with
  | nil=>exact h.elim
  | cons d l=>
   rcases (B6 ..).mp h with⟨rfl,rfl⟩ | h
   .simp
   .exact Ad4 _ (e h).1
def adj (l:AD)(a b:Nat):Prop:=lin (l++l.take 1) a b
structure Edit (row row':Nat->AD)(v x y:Nat)(L C R:AD):Prop where
 nd:∀q,(row q).Nodup
 self:∀q,q∉row q
 tri:∀q a b,adj (row q) a b->adj (row a) b q
 v2:v≠2
 fresh:∀q,v∉row q
 two:row 2=L++x::(C++y::R)
 newv:row' v=x::(C++[y,2])
 oldv:row v=[]
 new2:row' 2=L++x::v::y::R
 rx:∃u z w,row x=u++z::2::w/\row' x=u++z::v::2::w
 ry:∃u w,row y=u++2::w/\row' y=u++2::v::w
 rc:∀c∈C,∃u z w,row c=u++z::2::w/\row' c=u++z::v::w
 rest:∀q,q≠2->q≠v->q≠x->q≠y->q∉C->row' q=row q
section
variable {row row':Nat->AD}{v x y:Nat}{L C R:AD}
def EE (x y:Nat)(C:AD)(a b:Nat):Prop:=lin (x::(C++[y])) a b
def W (x y:Nat)(C:AD)(q a b:Nat):Prop:=(q=2/\EE x y C a b)\/(b=2/\EE x y C q a)\/(a=2/\EE x y C b q)
def W' (v x y:Nat)(C:AD)(q a b:Nat):Prop:=(q=v/\EE x y C a b)\/(b=v/\EE x y C q a)\/(a=v/\EE x y C b q) \/
 (q=2/\a=x/\b=v)\/(q=x/\a=v/\b=2)\/(q=v/\a=2/\b=x)\/(q=2/\a=v/\b=y)\/(q=v/\a=y/\b=2)\/(q=y/\a=2/\b=v)
theorem v7 {a b:Nat}(h:EE x y C a b):(a=x\/a∈C)/\(b∈C\/b=y):=by
 have h1:=N1 (u:=x::C) h
 have e:=O4 h
 exact⟨by simpa using h1,by simpa using e⟩
theorem Edit.facts (E:Edit row row' v x y L C R):(x≠y/\x≠2/\y≠2/\x≠v/\y≠v)/\(∀c∈C,c≠x/\c≠y/\c≠2/\c≠v)/\(L++x::(C++y::R)).Nodup:=by
 have h:=E.nd 2
 have e:=E.self 2
 have w:=E.fresh 2
 rw[E.two]at h e w;refine⟨?_,?_,h⟩
 .grind
 .intro c hc;grind
theorem dU0 (E:Edit row row' v x y L C R)(a b:Nat):adj (row' 2) a b↔(adj (row 2) a b/\¬W x y C 2 a b)\/W' v x y C 2 a b:=by
 obtain⟨⟨f1,f2,f3,D,F⟩,B,nd⟩:=E.facts;unfold adj;rw[E.two,E.new2];have M:(L++x::(C++y::R)).take 1=(L++[x]).take 1:=by cases L <;> simp
 have N:(L++x::v::y::R).take 1=(L++[x]).take 1:=by cases L <;> simp
 rw[M,N];generalize j:(L++[x]).take 1=t;have U:∀c∈t,c∈L++[x]:=λc k=>by rw[<- j]at k;exact Be k
 have s:L++x::(C++y::R)++t=L++x::(C++y::(R++t)):=by simp
 have m:L++x::v::y::R++t=L++x::v::y::(R++t):=by simp
 have Y:x::(C++y::(R++t))=(x::C)++y::(R++t):=by simp
 rw[s,m,C1 x (v::y::(R++t)) a b L,C1 x (C++y::(R++t)) a b L,Y,C1 y _ a b (x::C),B6 x v,B6 v y];have X:lin ((x::C)++[y]) a b↔EE x y C a b:=Iff.rfl;rw[X];have w := @v7 x y C;have P:lin (L++[x]) a b->¬EE x y C a b:=λh q=>by
  have:=(Y2 h).2
  have:=(w q).2
  grind
 have g2:lin (y::(R++t)) a b->¬EE x y C a b:=λh q=>by
  have h2:=(w q).1
  have h3:a∈y::R:=by
   match t,j with
   | [],_=>
    rcases Ac5 R with e | ⟨p,z,e⟩
    .subst e;exact h.elim
    .subst e
     have:=N1 (u:=y::p) (by simpa using h)
     simp at this ⊢;try grind
   | [z],_=>exact N1 (u:=y::R) h
   | z::z'::t',e=>
    have:=congrArg List.length e
    simp at this
  grind
 have Q:W x y C 2 a b↔EE x y C a b:=by
  unfold W;constructor
  .rintro (⟨_,h⟩ | ⟨_,h⟩ | ⟨_,h⟩)
   .exact h
   .have:=(w h).1;grind
   .have:=(w h).2;grind
  .exact λh=>.inl ⟨rfl,h⟩
 have r:W' v x y C 2 a b↔(a=x/\b=v)\/(a=v/\b=y):=by
  unfold W';have J:=E.v2;constructor
  .rintro (⟨h,_⟩ | ⟨_,h⟩ | ⟨_,h⟩ | h | h | h | h | h | h)
   .exact absurd h.symm J
   .have:=(w h).1;grind
   .have:=(w h).2;grind
   all_goals grind
  .grind
 rw[Q,r];grind
theorem tk1 {l:AD}(h:l≠[]):∃c,l.take 1=[c]/\c∈l:=by
 cases l with
 | nil=>exact absurd rfl h
 | cons c l=>exact⟨c,by simp,by simp⟩
theorem bD2 (E:Edit row row' v x y L C R)(a b:Nat):∃t,(∀c∈t,c∈L++[x])/\t.length=1/\(adj (row 2) a b↔lin (L++[x]) a b\/EE x y C a b\/lin (y::(R++t)) a b):=by
 refine⟨(L++[x]).take 1,λc z=>Be z,by simp,?_⟩
 unfold adj;rw[E.two];have r:(L++x::(C++y::R)).take 1=(L++[x]).take 1:=by cases L <;> simp
 rw[r];generalize (L++[x]).take 1=t;have e:L++x::(C++y::R)++t=L++x::(C++y::(R++t)):=by simp
 have w:x::(C++y::(R++t))=(x::C)++y::(R++t):=by simp
 rw[e,C1 x (C++y::(R++t)) a b L,w,C1 y _ a b (x::C)];exact Iff.rfl
theorem m9 (E:Edit row row' v x y L C R){a b:Nat}(h:EE x y C a b):adj (row 2) a b:=by
 obtain⟨t,_,_,e⟩:=bD2 E a b;exact e.mpr (.inr (.inl h))
theorem bY6 (E:Edit row row' v x y L C R){a b:Nat}(h:adj (row 2) a b)(r:a=x\/a∈C):EE x y C a b:=by
 obtain⟨_,_,nd⟩:=E.facts;obtain⟨t,k,w,e⟩:=bD2 E a b;rcases e.mp h with h | h | h
 .have:=N1 h;grind
 .exact h
 .obtain⟨z,rfl⟩:∃z,t=[z]:=List.length_eq_one_iff.mp w
  have:=N1 (u:=y::R) h
  grind
theorem bH7 (E:Edit row row' v x y L C R){a b:Nat}(h:adj (row 2) a b)(w:b∈C\/b=y):EE x y C a b:=by
 obtain⟨_,_,nd⟩:=E.facts;obtain⟨t,r,z,e⟩:=bD2 E a b;rcases e.mp h with h | h | h
 .have:=(Y2 h).2;grind
 .exact h
 .have:=O4 h
  grind
theorem dN6 (E:Edit row row' v x y L C R){a b:Nat}:adj (row 2) a b↔adj (row a) b 2:=⟨E.tri _ _ _,λh=>E.tri _ _ _ (E.tri _ _ _ h)⟩
theorem cV2 (E:Edit row row' v x y L C R){a b:Nat}:adj (row 2) a b↔adj (row b) 2 a:=⟨λh=>E.tri _ _ _ (E.tri _ _ _ h),λh=>E.tri _ _ _ h⟩
theorem dS8 (E:Edit row row' v x y L C R)(a b:Nat):adj (row' v) a b↔(adj (row v) a b/\¬W x y C v a b)\/W' v x y C v a b:=by
 obtain⟨⟨f1,f2,f3,k,j⟩,p,nd⟩:=E.facts;have q:=E.v2;unfold adj;rw[E.newv,E.oldv];have e:x::(C++[y,2])++(x::(C++[y,2])).take 1=(x::C)++y::[2,x]:=by simp
 rw[e,C1 y [2,x] a b (x::C),B6,B6];have z:lin ((x::C)++[y]) a b↔EE x y C a b:=Iff.rfl;rw[z];have w := @v7 x y C;have h1:∀c,¬EE x y C v c:=λc h=>by have:=(w h).1;grind
 have r:∀c,¬EE x y C c v:=λc h=>by have:=(w h).2;grind
 unfold W'
 simp[bW2,aC5,h1,r]
 grind
theorem dT2 (E:Edit row row' v x y L C R)(a b:Nat):adj (row' x) a b↔(adj (row x) a b/\¬W x y C x a b)\/W' v x y C x a b:=by
 obtain⟨⟨f1,f2,f3,s,F⟩,B,nd⟩:=E.facts;have P:=E.v2;obtain⟨u,z,w,o,n⟩:=E.rx;have k:=E.nd x;have r:∀c,EE x y C x c↔adj (row x) c 2:=λc=>⟨λh=>E.tri _ _ _ (m9 E h),λh=>bY6 E ((dN6 E).mpr h) (.inl rfl)⟩
 have Y := @v7 x y C
 have j:∀c,¬EE x y C c x:=λc h=>by have:=(Y h).2;grind
 have Q:W x y C x a b↔(b=2/\adj (row x) a 2):=by unfold W;simp[f2,j,r]
 have D:W' v x y C x a b↔(b=v/\adj (row x) a 2)\/(a=v/\b=2):=by unfold W';simp[f2,s,f1,j,r]
 rw[Q,D];unfold adj;rw[o]at k;rw[o,n];have M:(u++z::2::w).take 1=(u++[z]).take 1:=by cases u <;> simp
 have N:(u++z::v::2::w).take 1=(u++[z]).take 1:=by cases u <;> simp
 rw[M,N];have X:∀c∈(u++[z]).take 1,c∈u++[z]:=λc m=>Be m
 generalize (u++[z]).take 1=t at X;have p:u++z::2::w++t=u++z::2::(w++t):=by simp
 have q:u++z::v::2::w++t=u++z::v::2::(w++t):=by simp
 rw[p,q,C1 z (2::(w++t)) a b u,C1 z (v::2::(w++t)) a b u,C1 z (2::(w++t)) a 2 u,B6,B6,B6,B6];have U:¬lin (u++[z]) a 2:=λh=>by have:=(Y2 h).2;grind
 have J:¬lin (2::(w++t)) a 2:=λh=>by have:=O4 h;grind
 have n3:lin (u++[z]) a b->b≠2:=λh e=>U (e▸h)
 have n4:lin (2::(w++t)) a b->b≠2:=λh e=>J (e▸h)
 grind
theorem dT9 (E:Edit row row' v x y L C R)(a b:Nat):adj (row' y) a b↔(adj (row y) a b/\¬W x y C y a b)\/W' v x y C y a b:=by
 obtain⟨⟨f1,f2,f3,P,J⟩,fc,nd⟩:=E.facts;have hv:=E.v2;obtain⟨u,w,o,n⟩:=E.ry;have j:=E.nd y;have k:∀c,EE x y C c y↔adj (row y) 2 c:=λc=>⟨λh=>(cV2 E).mp (m9 E h),λh=>bH7 E ((cV2 E).mpr h) (.inr rfl)⟩
 have M := @v7 x y C
 have s:∀c,¬EE x y C y c:=λc h=>by have:=(M h).1;grind
 have F:W x y C y a b↔(a=2/\adj (row y) 2 b):=by unfold W;simp[f3,s,k]
 have B:W' v x y C y a b↔(a=v/\adj (row y) 2 b)\/(a=2/\b=v):=by unfold W';simp[f3,J,Ne.symm f1,s,k]
 rw[F,B];unfold adj;rw[o]at j;rw[o,n];have Q:(u++2::w).take 1=(u++[2]).take 1:=by cases u <;> simp
 have D:(u++2::v::w).take 1=(u++[2]).take 1:=by cases u <;> simp
 rw[Q,D];obtain⟨h,N,hh⟩:=tk1 (l:=u++[2]) (by simp)
 rw[N];have X:u++2::w++[h]=u++2::(w++[h]):=by simp
 have U:u++2::v::w++[h]=u++2::v::(w++[h]):=by simp
 rw[X,U];obtain⟨z,r,p⟩:∃z r,w++[h]=z::r:=by cases w with
  | nil=>exact⟨h,[],rfl⟩
  | cons c w=>exact⟨c,w++[h],rfl⟩
 have Y:∀b,¬lin (z::r) 2 b:=λb q=>by rw[<- p]at q;have:=N1 q;grind
 have m:∀b,¬lin (u++[2]) 2 b:=λb q=>by have:=N1 q;grind
 rw[p,C1 2 (z::r) a b u,C1 2 (v::z::r) a b u,C1 2 (z::r) 2 b u,B6,B6,B6,B6];have n3:lin (u++[2]) a b->a≠2:=λh e=>m b (e▸h)
 have n4:lin (z::r) a b->a≠2:=λh e=>Y b (e▸h)
 have:=m b
 have:=Y b
 grind
theorem dS7 (E:Edit row row' v x y L C R){c:Nat}(m:c∈C)(a b:Nat):adj (row' c) a b↔(adj (row c) a b/\¬W x y C c a b)\/W' v x y C c a b:=by
 obtain⟨⟨f1,f2,f3,f4,f5⟩,F,nd⟩:=E.facts;obtain⟨P,g2,M,g4⟩:=F c m;have hv:=E.v2;obtain⟨u,z,w,o,n⟩:=E.rc c m;have U:=E.nd c;have e:∀d,EE x y C c d↔adj (row c) d 2:=λd=>⟨λh=>E.tri _ _ _ (m9 E h),λh=>bY6 E ((dN6 E).mpr h) (.inr m)⟩
 have j:∀d,EE x y C d c↔adj (row c) 2 d:=λd=>⟨λh=>(cV2 E).mp (m9 E h),λh=>bH7 E ((cV2 E).mpr h) (.inl m)⟩
 have w1:W x y C c a b↔(b=2/\adj (row c) a 2)\/(a=2/\adj (row c) 2 b):=by unfold W;simp[M,e,j]
 have w2:W' v x y C c a b↔(b=v/\adj (row c) a 2)\/(a=v/\adj (row c) 2 b):=by unfold W';simp[P,g2,M,g4,e,j]
 rw[w1,w2];have B:v∉row c:=E.fresh c;unfold adj;rw[o]at U B;rw[o,n];have t1:(u++z::2::w).take 1=(u++[z]).take 1:=by cases u <;> simp
 have t2:(u++z::v::w).take 1=(u++[z]).take 1:=by cases u <;> simp
 rw[t1,t2];obtain⟨h,ht,hh⟩:=tk1 (l:=u++[z]) (by simp)
 rw[ht];have N:u++z::2::w++[h]=u++z::2::(w++[h]):=by simp
 have Q:u++z::v::w++[h]=u++z::v::(w++[h]):=by simp
 rw[N,Q];obtain⟨k,s,D⟩:∃k s,w++[h]=k::s:=by cases w with
  | nil=>exact⟨h,[],rfl⟩
  | cons c w=>exact⟨c,w++[h],rfl⟩
 have J:2∉w++[h]:=by grind
 rw[D]at J ⊢;have Y:∀p q,lin (u++[z]) p q->p≠2/\q≠2:=λp q h=>by have:=Y2 h;grind
 have X:∀p q,lin (k::s) p q->p≠2/\q≠2:=λp q h=>by have:=Y2 h;grind
 have fl:∀p q r,lin (u++z::r::k::s) p q↔lin (u++[z]) p q\/(p=z/\q=r)\/(p=r/\q=k)\/lin (k::s) p q:=λp q r=>by
  rw[C1 z (r::k::s) p q u,B6,B6]
 rw[fl,fl,fl,fl]
 have:=Y a b
 have:=X a b
 have:=Y a 2
 have:=X a 2
 have:=Y 2 b
 have:=X 2 b
 grind
theorem dU7 (E:Edit row row' v x y L C R){q:Nat}(e:q≠2)(z:q≠v)(r:q≠x)(k:q≠y)(s:q∉C)(a b:Nat):adj (row' q) a b↔(adj (row q) a b/\¬W x y C q a b)\/W' v x y C q a b:=by
 rw[E.rest q e z r k s];have w := @v7 x y C;have j:∀c,¬EE x y C q c:=λc h=>by have:=(w h).1;grind
 have p:∀c,¬EE x y C c q:=λc h=>by have:=(w h).2;grind
 unfold W W'
 simp[e,z,r,k,j,p]
theorem bS3 (E:Edit row row' v x y L C R)(q a b:Nat):adj (row' q) a b↔(adj (row q) a b/\¬W x y C q a b)\/W' v x y C q a b:=by
 by_cases e:q=2
 .subst e;exact dU0 E a b
 by_cases z:q=v
 .subst z;exact dS8 E a b
 by_cases r:q=x
 .subst r;exact dT2 E a b
 by_cases k:q=y
 .subst k;exact dT9 E a b
 by_cases w:q∈C
 .exact dS7 E w a b
 .exact dU7 E e z r k w a b
theorem Edit.tri' (E:Edit row row' v x y L C R)(q a b:Nat)(h:adj (row' q) a b):adj (row' a) b q:=by
 rw[bS3 E]at h ⊢;rcases h with⟨h,n⟩ | h
 .refine .inl ⟨E.tri _ _ _ h,?_⟩;unfold W at n ⊢;grind
 .right
  unfold W' at h ⊢;rcases h with h | h | h | h | h | h | h | h | h
  all_goals obtain⟨e,h⟩:=h
  all_goals simp[e,h]
theorem Edit.nd' (E:Edit row row' v x y L C R)(q:Nat):(row' q).Nodup:=by
 obtain⟨⟨f1,f2,f3,s,m⟩,Y,nd⟩:=E.facts;have X:=E.v2;by_cases r:q=2
 .subst r;rw[E.new2]
  have:=E.fresh 2
  rw[E.two]at this;grind
 by_cases j:q=v
 .subst j;rw[E.newv];grind
 by_cases c:q=x
 .subst c;obtain⟨u,z,w,o,n⟩:=E.rx;have h1:=E.nd q;have e:=E.fresh q;rw[o]at h1 e;rw[n];grind
 by_cases p:q=y
 .subst p;obtain⟨u,w,o,n⟩:=E.ry;have h1:=E.nd q;have e:=E.fresh q;rw[o]at h1 e;rw[n];grind
 by_cases k:q∈C
 .obtain⟨u,z,w,o,n⟩:=E.rc q k;have h1:=E.nd q;have e:=E.fresh q;rw[o]at h1 e;rw[n];grind
 .rw[E.rest q r j c p k];exact E.nd q
theorem Edit.self' (E:Edit row row' v x y L C R)(q:Nat):q∉row' q:=by
 obtain⟨⟨f1,f2,f3,s,m⟩,Y,nd⟩:=E.facts;have X:=E.v2;have e:=E.self q;by_cases r:q=2
 .subst r;rw[E.two]at e;rw[E.new2];grind
 by_cases j:q=v
 .subst j;rw[E.newv];grind
 by_cases c:q=x
 .subst c;obtain⟨u,z,w,o,n⟩:=E.rx;rw[o]at e;rw[n];grind
 by_cases p:q=y
 .subst p;obtain⟨u,w,o,n⟩:=E.ry;rw[o]at e;rw[n];grind
 by_cases k:q∈C
 .obtain⟨u,z,w,o,n⟩:=E.rc q k;rw[o]at e;rw[n];grind
 .rw[E.rest q r j c p k];exact e
end
structure S where
 k:Nat
 path:AD
 heap:AD
 i0:Nat->AD
 i1:Nat->AD
 i2:Nat->AD
 o0:Nat->Nat
 o1:Nat->Nat
 o2:Nat->Nat
def put {α:Type}(f:Nat->α)(a:Nat)(x:α):Nat->α:=λb=>if b=a then x else f b
theorem D6 {α:Type}{f:Nat->α}{a:Nat}{x:α}:put f a x a=x:=by simp[put]
theorem C3 {α:Type}{f:Nat->α}{a b:Nat}{x:α}(h:b≠a):put f a x b=f b:=by simp[put,h]
def S.row (s:S)(q:Nat):AD:=
 if q=0 then 1::(s.i0 0++[2]) else if q=1 then 2::((s.i1 1).reverse++[0]) else if q=2 then s.path.reverse++s.heap
 else if q<s.k+3 then s.o0 q::(s.i2 q++s.o1 q::(s.i0 q++s.o2 q::(s.i1 q).reverse)) else []
def S.first:S:={k:=0,path:=[0],heap:=[1],i0:=λ_=>[],i1:=λ_=>[],i2:=λ_=>[],o0:=λ_=>2,o1:=λ_=>2,o2:=λ_=>2}
def S.h1 (s:S)(a:Nat):AD:=(s.path.take a).reverse++s.heap
def S.step (s:S)(a b:Nat):S where
 k:=s.k+1
 path:=(s.k+3)::s.path.drop a
 heap:=(s.h1 a).drop b
 i0:=put s.i0 ((s.path.drop a).headD 0) (s.i0 ((s.path.drop a).headD 0)++[s.k+3])
 i1:=put s.i1 (((s.h1 a).drop b).headD 0) (s.i1 (((s.h1 a).drop b).headD 0)++[s.k+3])
 i2:=put s.i2 (s.k+3) ((s.h1 a).take b)
 o0:=put s.o0 (s.k+3) ((s.path.drop a).headD 0)
 o1:=put s.o1 (s.k+3) (((s.h1 a).drop b).headD 0)
 o2:=λq=>if q=s.k+3 then 2 else if q∈(s.h1 a).take b then s.k+3 else s.o2 q
structure bF0 (s:S):Prop where
 nd:∀q,(s.row q).Nodup
 self:∀q,q∉s.row q
 tri:∀q a b,adj (s.row q) a b->adj (s.row a) b q
 lt:∀q,∀p∈s.row q,p<s.k+3
 pe:∃p,s.path=p++[0]
 he:∃h,s.heap=h++[1]
 bd:∀q,(q∈s.path\/q∈s.heap)->q≠2/\(3<=q->s.o2 q=2)
 emp:∀q,s.k+3<=q->s.i0 q=[]/\s.i1 q=[]
theorem aR3 {s:S}{q:Nat}(h:s.k+3<=q):s.row q=[]:=by
 unfold S.row;rw[Ab (by lia),Ab (by lia),Ab (by lia),Ab (by lia)]
theorem P9 {s:S}{q:Nat}(h:3<=q)(h':q<s.k+3):s.row q=s.o0 q::(s.i2 q++s.o1 q::(s.i0 q++s.o2 q::(s.i1 q).reverse)):=by
 unfold S.row;rw[Ab (by lia),Ab (by lia),Ab (by lia),Ac h']
theorem aI2 {s:S}:s.row 2=s.path.reverse++s.heap:=by simp[S.row]
theorem aG9 {s:S}:s.row 0=1::(s.i0 0++[2]):=by simp[S.row]
theorem aQ8 {s:S}:s.row 1=2::((s.i1 1).reverse++[0]):=by simp[S.row]
theorem bS5:bF0 S.first where
 nd:=λq=>by
  unfold S.row S.first;dsimp only
  repeat' split
  all_goals simp
  lia
 self:=λq=>by
  unfold S.row S.first;dsimp only
  repeat' split
  all_goals simp
  all_goals lia
 tri:=λq a b h=>by
  have e:∀q a b,adj (S.first.row q) a b↔(q=0/\((a=1/\b=2)\/(a=2/\b=1)))\/(q=1/\((a=2/\b=0)\/(a=0/\b=2)))\/(q=2/\((a=0/\b=1)\/(a=1/\b=0))):=λq a b=>by
   unfold S.row S.first adj;dsimp only
   repeat' split
   all_goals (simp_all[lin])
   all_goals lia
  rw[e]at h ⊢;rcases h with⟨rfl,⟨rfl,rfl⟩ | ⟨rfl,rfl⟩⟩ | ⟨rfl,⟨rfl,rfl⟩ | ⟨rfl,rfl⟩⟩ | ⟨rfl,⟨rfl,rfl⟩ | ⟨rfl,rfl⟩⟩ <;> decide
 lt:=λq p=>by
  unfold S.row S.first;dsimp only
  repeat' split
  all_goals (simp <;> lia)
 pe:=⟨[],rfl⟩
 he:=⟨[],rfl⟩
 bd:=λq h=>by
  simp only[S.first,Ad8]at h
  lia
 emp:=λq _=>⟨rfl,rfl⟩
theorem bF9 {s:S}(I:bF0 s){a b:Nat}(ha:a<s.path.length)(hb:b<a+s.heap.length) :
  ∃x px y hy,s.path.drop a=x::px/\(s.h1 a).drop b=y::hy/\Edit s.row (s.step a b).row (s.k+3) x y px.reverse ((s.h1 a).take b) hy/\bF0 (s.step a b):=by
 obtain⟨p0,M⟩:=I.pe;obtain⟨h0,F⟩:=I.he;obtain⟨x,px,r⟩:∃x px,s.path.drop a=x::px:=by
  cases e:s.path.drop a with
  | nil=>have:=List.drop_eq_nil_iff.mp e;lia
  | cons x px=>exact⟨x,px,rfl⟩
 have hl:(s.h1 a).length=a+s.heap.length:=by
  unfold S.h1;simp;lia
 obtain⟨y,hy,j⟩:∃y hy,(s.h1 a).drop b=y::hy:=by
  cases e:(s.h1 a).drop b with
  | nil=>have:=List.drop_eq_nil_iff.mp e;lia
  | cons y hy=>exact⟨y,hy,rfl⟩
 have Y:s.row 2=px.reverse++x::((s.h1 a).take b++y::hy):=by
  rw[aI2,<- j,Ad3]
  have:s.path=s.path.take a++x::px:=by rw[<- r,Ad3]
  conv=>lhs;rw[this]
  unfold S.h1
  simp
 have nd2:=I.nd 2
 have N:=I.self 2
 have m:=I.lt 2
 rw[Y]at nd2 N m;have pl:∃p1,x::px=p1++[0]:=by
  rw[<- r,M];rw[M]at ha;simp at ha;rw[List.drop_append_of_le_length (by lia)]
  exact⟨_,rfl⟩
 have B:∃h1,y::hy=h1++[1]:=by
  rw[<- j];unfold S.h1;rw[F,<- Ad7]
  have:(p0.length:Nat)+1=s.path.length:=by rw[M];simp
  have l1:((s.path.take a).reverse++h0).length=a+h0.length:=by simp;lia
  have l2:s.heap.length=h0.length+1:=by rw[F];simp
  rw[List.drop_append_of_le_length (by lia)]
  exact⟨_,rfl⟩
 have one_mem:1∈y::hy:=by obtain⟨h1,e⟩:=B;rw[e];simp
 have Q:0∈x::px:=by obtain⟨h1,e⟩:=pl;rw[e];simp
 generalize R:(s.h1 a).take b=C at *;have D:∀c∈C,c≠0/\c≠1/\c≠2/\c<s.k+3:=by
  intro c U;refine⟨?_,?_,?_,m c (by simp[U])⟩
  .rintro rfl;grind
  .rintro rfl;grind
  .rintro rfl;grind
 have hx:x≠1/\x≠2/\x<s.k+3:=⟨by rintro rfl;grind,by rintro rfl;grind,m x (by simp)⟩
 have hyy:y≠0/\y≠2/\y<s.k+3:=⟨by rintro rfl;grind,by rintro rfl;grind,m y (by simp)⟩
 have J:∀q,q∈s.row 2->3<=q->s.o2 q=2:=λq X h3=>by
  rw[aI2]at X;simp at X;exact(I.bd q X).2 h3
 have P:3<=x->s.o2 x=2:=J x (by rw[Y];simp)
 have o2y:3<=y->s.o2 y=2:=J y (by rw[Y];simp)
 have o2c:∀c∈C,s.o2 c=2:=λc U=>by
  have:=D c U
  exact J c (by rw[Y];simp[U]) (by lia)
 have xy:x≠y:=by rintro rfl;grind
 have xC:x∉C:=by grind
 have yC:y∉C:=by grind
 have E:Edit s.row (s.step a b).row (s.k+3) x y px.reverse C hy:=by
  refine⟨I.nd,I.self,I.tri,by lia,λq X=>?_,Y,?_,aR3 (Aa7 _),?_,?_,?_,?_,?_⟩
  .have:=I.lt q _ X;lia
  .rw[P9 (by lia) (by simp[S.step])]
   have e1:=I.emp (s.k+3) (Aa7 _)
   simp only[S.step,r,j,R,Bi,D6,if_true];rw[C3 (by lia),C3 (by lia),e1.1,e1.2]
   simp
  .rw[aI2];simp only[S.step,r,j]
   simp
  .by_cases x0:x=0
   .subst x0;rcases Ac5 (1::s.i0 0) with e | ⟨u,z,e⟩
    .cases e
    .refine⟨u,z,[],?_,?_⟩
     .rw[aG9,<- Ab6,e];simp
     .rw[aG9];simp only[S.step,r,Bi,D6];rw[Ad7,<- Ab6,e];simp
   .have x3:3<=x:=by lia
    rcases Ac5 (s.o0 x::(s.i2 x++s.o1 x::s.i0 x)) with e | ⟨u,z,e⟩
    .cases e
    .refine⟨u,z,(s.i1 x).reverse,?_,?_⟩
     .rw[P9 x3 hx.2.2,P x3]
      have:s.o0 x::(s.i2 x++s.o1 x::(s.i0 x++2::(s.i1 x).reverse))=(s.o0 x::(s.i2 x++s.o1 x::s.i0 x))++2::(s.i1 x).reverse:=by simp
      rw[this,e];simp
     .rw[P9 x3 (by simp[S.step];lia)]
      simp only[S.step,r,j,R,Bi,D6];rw[C3 (by lia),C3 (by lia),C3 (by lia),C3 xy,Ab (by lia),Ab xC,P x3]
      have:s.o0 x::(s.i2 x++s.o1 x::(s.i0 x++[s.k+3]++2::(s.i1 x).reverse))=(s.o0 x::(s.i2 x++s.o1 x::s.i0 x))++(s.k+3)::2::(s.i1 x).reverse:=by simp
      rw[this,e];simp
  .by_cases y1:y=1
   .subst y1;refine⟨[],(s.i1 1).reverse++[0],?_,?_⟩
    .rw[aQ8];simp
    .rw[aQ8];simp only[S.step,j,Bi,D6]
     simp
   .have y3:3<=y:=by lia
    refine⟨s.o0 y::(s.i2 y++s.o1 y::s.i0 y),(s.i1 y).reverse,?_,?_⟩
    .rw[P9 y3 hyy.2.2,o2y y3];simp
    .rw[P9 y3 (by simp[S.step];lia)]
     simp only[S.step,r,j,R,Bi,D6];rw[C3 (by lia),C3 (by lia),C3 (by lia),C3 (Ne.symm xy),Ab (by lia),Ab yC,o2y y3]
     simp
  .intro c U;obtain⟨c0,c1,c2,ck⟩:=D c U;have c3:3<=c:=by lia
   have cx:c≠x:=λe=>xC (e▸U)
   have cy:c≠y:=λe=>yC (e▸U)
   rcases Ac5 (s.o0 c::(s.i2 c++s.o1 c::s.i0 c)) with e | ⟨u,z,e⟩
   .cases e
   .refine⟨u,z,(s.i1 c).reverse,?_,?_⟩
    .rw[P9 c3 ck,o2c c U]
     have:s.o0 c::(s.i2 c++s.o1 c::(s.i0 c++2::(s.i1 c).reverse))=(s.o0 c::(s.i2 c++s.o1 c::s.i0 c))++2::(s.i1 c).reverse:=by simp
     rw[this,e];simp
    .rw[P9 c3 (by simp[S.step];lia)]
     simp only[S.step,r,j,R,Bi];rw[C3 (by lia),C3 (by lia),C3 (by lia),C3 cx,C3 cy,Ab (by lia),Ac U]
     have:s.o0 c::(s.i2 c++s.o1 c::(s.i0 c++(s.k+3)::(s.i1 c).reverse))=(s.o0 c::(s.i2 c++s.o1 c::s.i0 c))++(s.k+3)::(s.i1 c).reverse:=by simp
     rw[this,e];simp
  .intro q q2 qv qx qy qC;by_cases q0:q=0
   .subst q0;rw[aG9,aG9];simp only[S.step,r,Bi];rw[C3 qx]
   by_cases q1:q=1
   .subst q1;rw[aQ8,aQ8];simp only[S.step,j,Bi];rw[C3 qy]
   by_cases qk:q<s.k+3
   .rw[P9 (by lia) qk,P9 (by lia) (by simp[S.step];lia)]
    simp only[S.step,r,j,R,Bi];rw[C3 qv,C3 qv,C3 qv,C3 qx,C3 qy,Ab qv,Ab qC]
   .rw[aR3 (s:=s.step a b) (by show s.k+1+3<=q;lia),aR3 (s:=s) (by lia)]
 refine⟨x,px,y,hy,r,j,E,⟨E.nd',E.self',E.tri',λq p hp=>?_,?_,?_,λq X=>?_,λq X=>?_⟩⟩
 .show p<s.k+1+3
  by_cases h2:q=2
  .subst h2;rw[E.new2]at hp
   have:=m p
   grind
  by_cases hv:q=s.k+3
  .subst hv;rw[E.newv]at hp
   have:=m p
   grind
  by_cases qx:q=x
  .subst qx;obtain⟨u,z,w,o,n⟩:=E.rx
   have:=I.lt q p
   rw[o]at this;rw[n]at hp;grind
  by_cases qy:q=y
  .subst qy;obtain⟨u,w,o,n⟩:=E.ry
   have:=I.lt q p
   rw[o]at this;rw[n]at hp;grind
  by_cases qC:q∈C
  .obtain⟨u,z,w,o,n⟩:=E.rc q qC
   have:=I.lt q p
   rw[o]at this;rw[n]at hp;grind
  .rw[E.rest q h2 hv qx qy qC]at hp
   have:=I.lt q p hp
   lia
 .obtain⟨p1,e⟩:=pl;exact⟨(s.k+3)::p1,by simp only[S.step,r,e];simp⟩
 .obtain⟨h1,e⟩:=B;exact⟨h1,by simp only[S.step,j,e]⟩
 .have hq':q=s.k+3\/q∈x::px\/q∈y::hy:=by
   simp only[S.step,r,j]at X;simp at X ⊢;grind
  rcases hq' with rfl | hq'
  .exact⟨by lia,λ_=>by simp[S.step]⟩
  .have hm:q∈s.row 2:=by rw[Y];grind
   have hnC:q∉C:=by grind
   refine⟨by rintro rfl;exact I.self 2 hm,λh3=>?_⟩
   simp only[S.step,R];rw[Ab (by have:=I.lt 2 q hm;lia),Ab hnC]
   exact J q hm h3
 .have X:s.k+1+3<=q:=X
  have:=I.emp q (by lia)
  simp only[S.step,r,j,Bi];rw[C3 (by lia),C3 (by lia)]
  exact this
theorem bK5 {f:Nat->Nat}(l:AD)(x y:Nat):lin (l.map f) x y↔∃a b,x=f a/\y=f b/\lin l a b:=by
 induction l with
 | nil=>simp[bW2]
 | cons c l e=>
  cases l with
  | nil=>simp[aC5]
  | cons d l=>
   simp only[Ac7,B6];simp only[Ac7]at e;rw[e];constructor
   .rintro (⟨rfl,rfl⟩ | ⟨a,b,e1,e2,h⟩)
    .exact⟨c,d,rfl,rfl,.inl ⟨rfl,rfl⟩⟩
    .exact⟨a,b,e1,e2,.inr h⟩
   .rintro⟨a,b,rfl,rfl,⟨rfl,rfl⟩ | h⟩
    .exact .inl ⟨rfl,rfl⟩
    .exact .inr ⟨a,b,rfl,rfl,h⟩
theorem bU4 {f:Nat->Nat}(l:AD)(x y:Nat):adj (l.map f) x y↔∃a b,x=f a/\y=f b/\adj l a b:=by
 unfold adj;rw[<- bK5]
 simp
theorem X8 (u w:AD)(x y:Nat):adj (w++u) x y↔adj (u++w) x y:=by
 cases u with
 | nil=>simp
 | cons a u=>
  cases w with
  | nil=>simp
  | cons b w=>
   unfold adj;have e:b::w++a::u++(b::w++a::u).take 1=(b::w)++a::(u++[b]):=by simp
   have z:a::u++b::w++(a::u++b::w).take 1=(a::u)++b::(w++[a]):=by simp
   rw[e,z,C1 a (u++[b]) x y (b::w),C1 b (w++[a]) x y (a::u)];simp only[Ab6];exact Or.comm
theorem D1 {l:AD}{a b:Nat}(h:adj l a b):a∈l/\b∈l:=by
 have:=Y2 h
 simp only[Aa0]at this;exact⟨this.1.elim id Be,this.2.elim id Be⟩
theorem aF6 {l:AD}{a:Nat}(h:a∈l):∃b,adj l a b:=by
 obtain⟨u,w,rfl⟩:=Ad5 h;obtain⟨b,r,e⟩:∃b r,(w++(u++[a]).take 1)=b::r:=by
  cases w with
  | nil=>cases u with
   | nil=>exact⟨a,[],rfl⟩
   | cons c u=>exact⟨c,[],rfl⟩
  | cons c w=>exact⟨c,_,rfl⟩
 refine⟨b,?_⟩;unfold adj;have t:(u++a::w).take 1=(u++[a]).take 1:=by cases u <;> simp
 rw[t,Ad7,Ab6,e,C1,B6];exact .inr (.inl ⟨rfl,rfl⟩)
theorem aS5 {l:AD}{b:Nat}(h:b∈l):∃a,adj l a b:=by
 obtain⟨u,w,rfl⟩:=Ad5 h;rw[show u++b::w=u++(b::w) from rfl]
 rcases Ac5 (b::w++u) with e | ⟨r,a,e⟩
 .cases e
 .refine⟨a,(X8 u (b::w) a b).mp ?_⟩;cases r with
  | nil=>
   have:b::w++u=[a]:=by simpa using e
   have y:b=a:=by simpa using congrArg List.head? this
   subst y;rw[this];exact .inl ⟨rfl,rfl⟩
  | cons c r=>
   have z:b=c:=by simpa using congrArg List.head? e
   subst z;rw[e];unfold adj
   have:((b::r).concat a)++((b::r).concat a).take 1=(b::r)++a::[b]:=by simp
   rw[this,C1,B6];exact .inr (.inl ⟨rfl,rfl⟩)
theorem T4 {l:AD}(nd:l.Nodup){a b c:Nat}(h1:adj l a b)(m:adj l a c):b=c:=by
 have Y:=(D1 h1).1
 obtain⟨u,w,rfl⟩:=Ad5 Y;have r:=(X8 u (a::w) a b).mpr h1;have k:=(X8 u (a::w) a c).mpr m;have nd':(a::w++u).Nodup:=by grind
 unfold adj at r k;generalize w++u=v at *;have e:a::w++u=a::(w++u):=rfl;cases j:w++u with
 | nil=>
  rw[e,j]at r k
  simp[lin]at r k
  lia
 | cons d y=>
  rw[e,j]at r k nd';have q:∀z,lin (a::d::y++List.take 1 (a::d::y)) a z->z=d:=λz p=>by
   have s:a::d::y++List.take 1 (a::d::y)=a::d::(y++[a]):=by simp
   rw[s,B6]at p;rcases p with h | h
   .exact h.2
   .have:=N1 (u:=d::y) (c:=a) (by simpa using h)
    grind
  rw[q b r,q c k]
theorem V8 {l:AD}(nd:l.Nodup){a b c:Nat}(h1:adj l a c)(m:adj l b c):a=b:=by
 have Y:=(D1 h1).2
 obtain⟨u,w,rfl⟩:=Ad5 Y;have r:=(X8 u (c::w) a c).mpr h1;have k:=(X8 u (c::w) b c).mpr m;have nd':(c::(w++u)).Nodup:=by grind
 have e:c::w++u=c::(w++u):=rfl
 rw[e]at r k;generalize w++u=v at *;unfold adj at r k;rcases Ac5 v with j | ⟨y,d,j⟩
 .subst j
  simp[lin]at r k
  lia
 .subst j;have q:∀z,lin (c::y.concat d++List.take 1 (c::y.concat d)) z c->z=d:=λz p=>by
   have s:c::y.concat d++List.take 1 (c::y.concat d)=(c::y)++d::[c]:=by simp
   rw[s,C1,B6]at p;rcases p with h | h | h
   .have:=O4 (c:=c) (u:=y++[d]) h
    simp at nd'
    grind
   .exact h.1
   .exact h.elim
  rw[q a r,q b k]
def mn (l:AD):Nat:=l.min?.getD 0
theorem bA0 {l:AD}(h:l≠[]):mn l∈l/\∀a∈l,mn l<=a:=by
 unfold mn;cases e:l.min? with
 | none=>exact absurd (List.min?_eq_none_iff.mp e) h
 | some m=>exact List.min?_eq_some_iff.mp e
def U1 (l:AD):AD:=l.drop (l.idxOf (mn l))++l.take (l.idxOf (mn l))
theorem p7 (l:AD):(U1 l).Perm l:=by
 unfold U1;exact(Dd).trans (by rw[Ad3])
theorem aW7 (l:AD)(a b:Nat):adj (U1 l) a b↔adj l a b:=by
 unfold U1;rw[X8,Ad3]
theorem bD8 (l:AD):(U1 l).length=l.length:=(p7 l).length_eq
theorem aX7 {l:AD}{a:Nat}:a∈U1 l↔a∈l:=(p7 l).mem_iff
theorem bI5 {l:AD}:(U1 l).Nodup↔l.Nodup:=(p7 l).nodup_iff
structure Good (n:Nat)(r:Nat->AD):Prop where
 nd:∀q,(r q).Nodup
 self:∀q,q∉r q
 tri:∀q a b,adj (r q) a b->adj (r a) b q
 lt:∀q,∀p∈r q,p<n
 hi:∀q,n<=q->r q=[]
 two:∀q,q<n->2<=(r q).length
 out:adj (r 2) 1 0
 conn:∀R:Nat->Prop,R 0->(∀a b,R a->b∈r a->R b)->∀q,q<n->R q
 sum:((List.range n).map λq=>(r q).length).sum+12=6*n
 three:3<=n
theorem Good.sym {n:Nat}{r:Nat->AD}(G:Good n r){p q:Nat}(h:q∈r p):p∈r q:=by
 obtain⟨b,e⟩:=aF6 h;exact(D1 (G.tri _ _ _ e)).2
structure bI0 (s:S):Prop where
 two:∀q,q<s.k+3->2<=(s.row q).length
 o0:∀q,3<=q->q<s.k+3->s.o0 q<q/\s.o0 q∈s.row q
 sum:((List.range (s.k+3)).map λq=>(s.row q).length).sum+12=6*(s.k+3)
theorem bS4:bI0 S.first where
 two:=λq h=>by
  have h:q<3:=h
  match q,h with
  | 0,_=>decide
  | 1,_=>decide
  | 2,_=>decide
 o0:=λq h e=>by
  have e:q<3:=e
  lia
 sum:=by decide
theorem bO1 {n:Nat}{f g:Nat->Nat}{l:AD}(nd:l.Nodup)(w:∀q∈l,q<n)(h:∀q,q<n->q∉l->f q=g q) :
  ((List.range n).map f).sum+(l.map g).sum=((List.range n).map g).sum+(l.map f).sum:=by
 induction l generalizing f with
 | nil=>
  have:(List.range n).map f=(List.range n).map g:=Al λq y=>h q (Ab5.mp y) (by simp)
  simp[this]
 | cons c l k=>
  have s:=w c (by simp)
  have nd':=Aa5.mp nd
  have r:∀(f:Nat->Nat) (x:Nat),((List.range n).map λq=>if q=c then x else f q).sum+f c=((List.range n).map f).sum+x:=by
   intro f x
   clear h k w nd nd'
   induction n with
   | zero=>lia
   | succ n z=>
    rw[Bq,Ad2,Ad2,List.sum_append,List.sum_append];by_cases e:c=n
    .subst e
     have:(List.range c).map (λq=>if q=c then x else f q)=(List.range c).map f:=Al λq y=>by
      have:=Ab5.mp y
      rw[Ab (by lia)]
     rw[this]
     simp
     lia
    .have:=z (by lia)
     simp only[Ac7,Dj,List.sum_cons,List.sum_nil];rw[Ab (Ne.symm e)]
     lia
  have m:=r f (g c)
  have:=k (f:=λq=>if q=c then g c else f q) nd'.2 (λq y=>w q (by simp[y])) (λq y p=>by
   by_cases e:q=c
   .subst e;simp
   .simp only[Ab e];exact h q y (by simp[e,p]))
  have j:(l.map λq=>if q=c then g c else f q)=l.map f:=Al λq y=>by
   rw[Ab (by rintro rfl;exact nd'.1 y)]
  rw[j]at this;simp only[Ac7,List.sum_cons]
  lia
theorem bZ0 {s:S}(I:bF0 s)(M:bI0 s){a b:Nat}(ha:a<s.path.length)(hb:b<a+s.heap.length):bI0 (s.step a b):=by
 obtain⟨x,P,y,N,ex,ey,E,I'⟩:=bF9 I ha hb;obtain⟨⟨f1,f2,f3,f4,f5⟩,fc,nd⟩:=E.facts;have hx:x<s.k+3:=I.lt 2 x (by rw[E.two];simp)
 have hyl:y<s.k+3:=I.lt 2 y (by rw[E.two];simp)
 have F:((s.step a b).row x).length=(s.row x).length+1:=by
  obtain⟨u,z,w,o,n⟩:=E.rx;rw[o,n];simp;lia
 have B:((s.step a b).row y).length=(s.row y).length+1:=by
  obtain⟨u,w,o,n⟩:=E.ry;rw[o,n];simp;lia
 have Q:∀q,q≠2->q≠s.k+3->q≠x->q≠y->((s.step a b).row q).length=(s.row q).length:=λq Y j p m=>by
  by_cases J:q∈(s.h1 a).take b
  .obtain⟨u,z,w,o,n⟩:=E.rc q J;rw[o,n];simp
  .rw[E.rest q Y j p m J]
 have R:((s.step a b).row 2).length=P.length+3+N.length:=by rw[E.new2];simp;lia
 have g2:(s.row 2).length=P.length+2+((s.h1 a).take b).length+N.length:=by rw[E.two];simp only[Ab7,Ba,Ae2];lia
 have D:((s.step a b).row (s.k+3)).length=((s.h1 a).take b).length+3:=by rw[E.newv];simp only[Ab7,Ba,List.length_nil]
 have X:(s.row (s.k+3)).length=0:=by rw[E.oldv];rfl
 refine⟨λq r=>?_,λq U r=>?_,?_⟩
 .have r:q<s.k+1+3:=r
  by_cases Y:q=2
  .rw[Y,R];lia
  by_cases j:q=s.k+3
  .rw[j,D];lia
  have:=M.two q (by lia)
  by_cases p:q=x
  .rw[p,F];rw[p]at this;lia
  by_cases m:q=y
  .rw[m,B];rw[m]at this;lia
  rw[Q q Y j p m];exact this
 .have hq':q<s.k+1+3:=r
  refine⟨?_,by rw[P9 U r];simp⟩
  by_cases j:q=s.k+3
  .subst j;simp only[S.step,ex,Bi,D6];exact hx
  .simp only[S.step];rw[C3 j];exact(M.o0 q U (by lia)).1
 .show((List.range (s.k+1+3)).map λq=>((s.step a b).row q).length).sum+12=6*(s.k+1+3)
  have sc:=bO1 (n:=s.k+1+3) (f:=λq=>((s.step a b).row q).length) (g:=λq=>(s.row q).length) (l:=[2,s.k+3,x,y]) (by
   have:=E.v2
   simp only[Aa5,Aa1,Ac2,or_false,not_or,List.nodup_nil,not_false_eq_true,and_true];exact⟨⟨by lia,Ne.symm f2,Ne.symm f3⟩,⟨Ne.symm f4,Ne.symm f5⟩,f1⟩) (by
   intro q r;simp only[Aa1,Ac2,or_false]at r
   lia) (by
   intro q r c;simp only[Aa1,Ac2,or_false,not_or]at c;exact Q q c.1 c.2.1 c.2.2.1 c.2.2.2)
  simp only[Ac7,Dj,List.sum_cons,List.sum_nil]at sc;have e:((List.range (s.k+1+3)).map λq=>(s.row q).length).sum=((List.range (s.k+3)).map λq=>(s.row q).length).sum:=by
   rw[show s.k+1+3=(s.k+3)+1 by lia,Bq,Ad2,List.sum_append]
   simp only[Ac7,Dj,List.sum_cons,List.sum_nil,X]
   lia
  have:=M.sum
  rw[R,D,F,B,g2,X,e]at sc
  lia
theorem cG9 {s:S}(I:bF0 s)(M:bI0 s):Good (s.k+3) s.row where
 nd:=I.nd
 self:=I.self
 tri:=I.tri
 lt:=I.lt
 hi:=λq h=>aR3 h
 two:=M.two
 out:=by
  obtain⟨p,j⟩:=I.pe;obtain⟨h,r⟩:=I.he;rw[aI2,j,r];unfold adj
  have:(p++[0]).reverse++(h++[1])++((p++[0]).reverse++(h++[1])).take 1=(0::p.reverse++h)++1::[0]:=by simp
  rw[this,C1,B6];exact .inr (.inl ⟨rfl,rfl⟩)
 conn:=λR y w q Y=>by
  have z:∀b∈s.row 0,R b:=λb e=>w 0 b y e
  have U:(1:Nat)∈s.row 0:=by rw[aG9];simp
  have J:(2:Nat)∈s.row 0:=by rw[aG9];simp
  have sym:∀p q,q∈s.row p->p∈s.row q:=λp q h=>by
   obtain⟨b,e⟩:=aF6 h;exact(D1 (I.tri _ _ _ e)).2
  induction q using Nat.strongRecOn with
  | _ q X=>
   by_cases m:3<=q
   .obtain⟨h1,c⟩:=M.o0 q m Y;exact w _ _ (X _ h1 (by lia)) (sym _ _ c)
   .have:q=0\/q=1\/q=2:=by lia
    rcases this with rfl | rfl | rfl
    .exact y
    .exact z 1 U
    .exact z 2 J
 sum:=M.sum
 three:=by lia
structure Nm (n:Nat)(f:Nat->Nat):Prop where
 lt:∀v,v<n->f v<n
 inj:∀v w,v<n->w<n->f v=f w->v=w
 c0:f 0=0
 c1:f 1=1
 c2:f 2=2
theorem aZ2 {l:AD}(nd:l.Nodup):∀{m:AD},(∀x∈l,x∈m)->l.length<=m.length:=by
 induction l with
 | nil=>intro m _;simp
 | cons a l w=>
  intro m h;have nd':=Aa5.mp nd;have e:a∈m:=h a (by simp)
  have:=w nd'.2 (m:=m.erase a) λx y=>(List.mem_erase_of_ne (by rintro rfl;exact nd'.1 y)).mpr (h x (by simp[y]))
  have z:=Ct e
  have:=Cw e
  simp only[Ba]
  lia
theorem Nm.surj {n:Nat}{f:Nat->Nat}(h:Nm n f)(q:Nat)(s:q<n):∃v,v<n/\f v=q:=by
 have nd:((List.range n).map f).Nodup:=by
  rw[Ac6,Ae0];refine Cu ?_ (Ac6.mp By);intro a b j c z e;exact z (h.inj a b (Ab5.mp j) (Ab5.mp c) e)
 have k:(List.range n).map f ⊆ List.range n:=λx w=>by
  obtain⟨v,r,rfl⟩:=Aa8.mp w;exact Ab5.mpr (h.lt v (Ab5.mp r))
 have:q∈(List.range n).map f:=Classical.byContradiction λp=>by
  have y:=Ab5.mpr s
  have:=aZ2 nd (m:=(List.range n).erase q) λx w=>(List.mem_erase_of_ne (by rintro rfl;exact p w)).mpr (k w)
  have Y:=Ct y
  have:=Cw y
  simp only[Aa3,Bo]at *
  lia
 obtain⟨v,r,e⟩:=Aa8.mp this;exact⟨v,Ab5.mp r,e⟩
theorem Good.named {n:Nat}{r r':Nat->AD}{f:Nat->Nat}(G:Good n r)(F:Nm n f)(h:∀v,v<n->r' (f v)=U1 ((r v).map f))(J:∀q,n<=q->r' q=[]):Good n r':=by
 have bS3:∀v,v<n->∀x y,adj (r' (f v)) x y↔∃a b,x=f a/\y=f b/\adj (r v) a b:=λv w x y=>by rw[h v w,aW7,bU4]
 have k:∀v,v<n->∀x,x∈r' (f v)↔∃a,a∈r v/\x=f a:=λv w x=>by
  rw[h v w,aX7,Aa8];exact⟨λ⟨a,h1,N⟩=>⟨a,h1,N.symm⟩,λ⟨a,h1,N⟩=>⟨a,h1,N.symm⟩⟩
 have M:∀q,n<=q\/∃v,v<n/\f v=q:=λq=>by
  by_cases z:n<=q
  .exact .inl z
  .exact .inr (F.surj q (by lia))
 have len:∀v,v<n->(r' (f v)).length=(r v).length:=λv w=>by rw[h v w,bD8,Aa3]
 refine⟨λq=>?_,λq=>?_,λq a b s=>?_,λq p hp=>?_,J,λq z=>?_,?_,λR B P q z=>?_,?_,G.three⟩
 .rcases M q with z | ⟨v,w,rfl⟩
  .rw[J q z];simp
  .rw[h v w,bI5,Ac6,Ae0];refine Cu ?_ (Ac6.mp (G.nd v));intro a b j m Y e;exact Y (F.inj a b (G.lt v a j) (G.lt v b m) e)
 .rcases M q with z | ⟨v,w,rfl⟩
  .rw[J q z];simp
  .intro hm;obtain⟨a,j,e⟩:=(k v w _).mp hm;exact G.self v (F.inj v a w (G.lt v a j) e▸j)
 .rcases M q with z | ⟨v,w,rfl⟩
  .rw[J q z]at s;exact s.elim
  .obtain⟨c,d,rfl,rfl,U⟩:=(bS3 v w _ _).mp s;exact(bS3 c (G.lt v c (D1 U).1) _ _).mpr ⟨d,v,rfl,rfl,G.tri _ _ _ U⟩
 .rcases M q with z | ⟨v,w,rfl⟩
  .rw[J q z]at hp;exact absurd hp (by simp)
  .obtain⟨a,j,rfl⟩:=(k v w _).mp hp;exact F.lt a (G.lt v a j)
 .obtain⟨v,w,rfl⟩:=F.surj q z;rw[len v w];exact G.two v w
 .have:=G.three
  have:=(bS3 2 (by lia) 1 0).mpr ⟨1,0,F.c1.symm,F.c0.symm,G.out⟩
  rwa [F.c2]at this
 .obtain⟨v,w,rfl⟩:=F.surj q z
  have:=G.three
  refine G.conn (λv=>v<n->R (f v)) (λ_=>by rw[F.c0];exact B) (λa b j m hbn=>?_) v w w
  by_cases X:a<n
  .exact P _ _ (j X) ((k a X _).mpr ⟨b,m,rfl⟩)
  .rw[G.hi a (by lia)]at m;exact absurd m (by simp)
 .have p:((List.range n).map f).Perm (List.range n):=by
   refine(List.perm_ext_iff_of_nodup ?_ By).mpr λq=>?_
   .rw[Ac6,Ae0];refine Cu ?_ (Ac6.mp By);intro a b j m Y e;exact Y (F.inj a b (Ab5.mp j) (Ab5.mp m) e)
   .constructor
    .intro z;obtain⟨v,w,rfl⟩:=Aa8.mp z;exact Ab5.mpr (F.lt v (Ab5.mp w))
    .intro z;obtain⟨v,w,rfl⟩:=F.surj q (Ab5.mp z);exact Aa8.mpr ⟨v,Ab5.mpr w,rfl⟩
  have Q:=(p.map λq=>(r' q).length).sum_nat
  have D:((List.range n).map f).map (λq=>(r' q).length)=(List.range n).map λv=>(r v).length:=by
   rw[Ae3];exact Al λv w=>len v (Ab5.mp w)
  rw[D]at Q;rw[<- Q];exact G.sum
def pv (F:Nat->Nat):Nat->Nat
 | 0=>0
 | i+1=>F i
def gst (F G:Nat->Nat):Nat->S
 | 0=>S.first
 | i+1=>(gst F G i).step (F i-pv F i) (G i-pv G i)
structure Rws (F G:Nat->Nat)(m:Nat):Prop where
 f1:∀i,i<m->pv F i<=F i
 f2:∀i,i<m->F i<=i
 g1:∀i,i<m->pv G i<=G i
 g2:∀i,i<m->G i<=F i
structure dT1 (F G:Nat->Nat)(i:Nat):Prop where
 inv:bF0 (gst F G i)
 more:bI0 (gst F G i)
 k:(gst F G i).k=i
 p:(gst F G i).path.length+pv F i=1+i
 h:(gst F G i).heap.length+pv G i=1+pv F i
 le:pv F i<=i
 le2:pv G i<=pv F i
theorem R4 {F G:Nat->Nat}{m:Nat}(R:Rws F G m):∀i,i<=m->dT1 F G i
 | 0,_=>⟨bS5,bS4,rfl,rfl,rfl,Aa7 _,Aa7 _⟩
 | i+1,hi=>by
  have I:=R4 R i (by lia)
  have f1:=R.f1 i (by lia)
  have f2:=R.f2 i (by lia)
  have q:=R.g1 i (by lia)
  have r:=R.g2 i (by lia)
  have h1:=I.p
  have s:=I.h
  have e:F i-pv F i<(gst F G i).path.length:=by lia
  have w:G i-pv G i<(F i-pv F i)+(gst F G i).heap.length:=by lia
  obtain⟨x,X,y,Y,j,c,E,z⟩:=bF9 I.inv e w;refine⟨z,bZ0 I.inv I.more e w,?_,?_,?_,?_,r⟩
  .show(gst F G i).k+1=i+1
   rw[I.k]
  .show(((gst F G i).k+3)::(gst F G i).path.drop (F i-pv F i)).length+F i=1+(i+1)
   rw[Ba,Bk]
   lia
  .show(((gst F G i).h1 (F i-pv F i)).drop (G i-pv G i)).length+G i=1+F i
   rw[Bk];unfold S.h1;rw[Ab7,Ae2,Ad1]
   lia
  .show F i<=i+1
   lia
theorem aQ7 {F G:Nat->Nat}{m:Nat}(R:Rws F G m):Good (m+3) (gst F G m).row:=by
 have I:=R4 R m (Aa7 _)
 have:=cG9 I.inv I.more
 rwa [I.k]at this
theorem cY2 (F G:Nat->Nat):∀i,(gst F G i).k=i
 | 0=>rfl
 | i+1=>by show(gst F G i).k+1=i+1;rw[cY2 F G i]
def pa (F G:Nat->Nat)(v:Nat):AD:=(gst F G (v-2)).path.tail
def hp (F G:Nat->Nat)(v:Nat):AD:=(gst F G (v-2)).heap
theorem aC1 (F G:Nat->Nat)(i:Nat):(gst F G (i+1)).path=(i+3)::pa F G (i+3):=by
 show((gst F G i).k+3)::(gst F G i).path.drop (F i-pv F i)=_
 rw[cY2];rfl
section
variable {F G:Nat->Nat}{m:Nat}
structure At (F G:Nat->Nat)(i:Nat):Prop where
 pe:∃p,pa F G (i+3)=p++[0]
 he:∃h,hp F G (i+3)=h++[1]
 nd:((i+3)::(pa F G (i+3)++hp F G (i+3))).Nodup
 lt:∀x,x∈pa F G (i+3)\/x∈hp F G (i+3)->x<i+3/\x≠2
theorem dO5 (R:Rws F G m){i:Nat}(hi:i<m):At F G i:=by
 have I:=R4 R (i+1) (by lia)
 have nd:=I.inv.nd 2
 rw[aI2,aC1]at nd;have lt:=I.inv.lt 2;rw[aI2,aC1,I.k]at lt;have z:=I.inv.bd;obtain⟨p,e⟩:=I.inv.pe;obtain⟨h,r⟩:=I.inv.he;rw[aC1]at e;have nd':((i+3)::(pa F G (i+3)++hp F G (i+3))).Nodup:=by
  have w:(((i+3)::pa F G (i+3)).reverse++(gst F G (i+1)).heap).Perm ((i+3)::(pa F G (i+3)++hp F G (i+3))):=by
   show(((i+3)::pa F G (i+3)).reverse++(gst F G (i+1)).heap).Perm (((i+3)::pa F G (i+3))++(gst F G (i+1)).heap)
   exact(List.reverse_perm _).append_right _
  exact w.nodup_iff.mp nd
 refine⟨?_,⟨h,r⟩,nd',λx hx=>?_⟩
 .cases p with
  | nil=>simp at e
  | cons y p=>simp only[Ab6,Cb]at e;exact⟨p,e.2⟩
 .have h1:=lt x (by
   rcases hx with hx | hx
   .simp[hx]
   .exact Ac1 _ hx)
  have j:=(z x (by
   rcases hx with hx | hx
   .left;rw[aC1];simp[hx]
   .right;exact hx)).1
  have c:x≠i+3:=by
   rintro rfl
   have:=(Aa5.mp nd').1
   exact this (Aa0.mpr hx)
  lia
end
structure Bt (F G:Nat->Nat)(m:Nat)(f:Nat->Nat)(d t:AA):Prop where
 R:Rws F G m
 N:Nm (m+3) f
 dl:d.length=m+3
 dr:∀v,v<m+3->d[f v]? = some (U1 (((gst F G m).row v).map f))
 tl:t.length=m
 tr:∀v,3<=v->v<m+3->t[f v-3]? = some [f ((gst F G m).o0 v),f ((gst F G m).o1 v),f ((gst F G m).o2 v)]
theorem Nm.lo {n:Nat}{f:Nat->Nat}(N:Nm n f)(h:3<=n){q:Nat}(y:q<n):f q<3↔q<3:=by
 constructor
 .intro hl;have w:=N.c0;have z:=N.c1;have r:=N.c2;rcases (show f q=0\/f q=1\/f q=2 by lia) with e | e | e
  .have:=N.inj q 0 y (by lia) (by lia);lia
  .have:=N.inj q 1 y (by lia) (by lia);lia
  .have:=N.inj q 2 y (by lia) (by lia);lia
 .intro hl;have w:=N.c0;have z:=N.c1;have r:=N.c2;rcases (show q=0\/q=1\/q=2 by lia) with e | e | e <;> subst e <;> lia
section
variable {F G:Nat->Nat}{m:Nat}{f:Nat->Nat}{d t:AA}
def trn (d:AA)(q:Nat):AD:=d[q]?.getD []
theorem Bt.good (B:Bt F G m f d t):Good (m+3) (trn d):=by
 refine Good.named (aQ7 B.R) B.N (λv y=>?_) λq e=>?_
 .unfold trn;rw[B.dr v y];rfl
 .unfold trn;rw[Ad6 (by rw[B.dl];exact e)];rfl
end
variable {F G:Nat->Nat}{m:Nat}
theorem S5 {a b:AD}(h:(a++b).Nodup):∀x,x∈a->x∈b->False:=λx h1 e=>(Aa4.mp h).2.2 x h1 x e rfl
structure dR1 (F G:Nat->Nat)(i:Nat):Prop where
 k:(gst F G i).k=i
 a:F i-pv F i<(gst F G i).path.length
 b:G i-pv G i<((gst F G i).h1 (F i-pv F i)).length
 pl:(gst F G i).path.length<=i+1
 hl:((gst F G i).h1 (F i-pv F i)).length<=i+2
 lo:∀x∈((gst F G i).h1 (F i-pv F i)).take (G i-pv G i),3<=x/\x<i+3
 px:∃x r,(gst F G i).path.drop (F i-pv F i)=x::r/\x<i+3/\((gst F G i).i0 x).length<=i+3
 hy:∃y r,((gst F G i).h1 (F i-pv F i)).drop (G i-pv G i)=y::r/\y<i+3/\((gst F G i).i1 y).length<=i+3
 e0:(gst F G i).i0 (i+3)=[]
 e1:(gst F G i).i1 (i+3)=[]
theorem dE8 {l:AD}{n:Nat}(nd:l.Nodup)(h:∀x∈l,x<n):l.length<=n:=by
 have:=aZ2 nd (m:=List.range n) λx e=>Ab5.mpr (h x e)
 simpa using this
theorem aO3 {s:S}(I:bF0 s)(q:Nat):(s.row q).length<=s.k+3:=dE8 (I.nd q) (I.lt q)
theorem dK6 {s:S}(I:bF0 s){q:Nat}(h:q<s.k+3)(y:q≠2)(h1:q≠1):(s.i0 q).length<=s.k+3:=by
 have:=aO3 I q
 by_cases e:q=0
 .subst e;rw[aG9]at this;simp at this;lia
 .rw[P9 (by lia) h]at this;simp at this;lia
theorem dB9 {s:S}(I:bF0 s){q:Nat}(h:q<s.k+3)(e:q≠2)(h0:q≠0):(s.i1 q).length<=s.k+3:=by
 have:=aO3 I q
 by_cases h1:q=1
 .subst h1;rw[aQ8]at this;simp at this;lia
 .rw[P9 (by lia) h]at this;simp at this;lia
theorem dG7 (R:Rws F G m){i:Nat}(hi:i<m):dR1 F G i:=by
 have I:=R4 R i (by lia)
 have A:=dO5 R hi
 have f1:=R.f1 i hi
 have f2:=R.f2 i hi
 have g1:=R.g1 i hi
 have g2:=R.g2 i hi
 have h1:=I.p
 have h2:=I.h
 have nd:=I.inv.nd 2
 have lt:=I.inv.lt 2
 rw[aI2]at nd lt;rw[I.k]at lt;have hx1:((gst F G i).h1 (F i-pv F i)).length=(F i-pv F i)+(gst F G i).heap.length:=by
  unfold S.h1;rw[Ab7,Ae2,Ad1];lia
 obtain⟨p,hp⟩:=A.pe;obtain⟨h,hh⟩:=A.he;have Q:(gst F G i).path.drop (F i-pv F i)=p++[0]:=by rw[<- hp];rfl
 have P:((gst F G i).h1 (F i-pv F i)).drop (G i-pv G i)=h++[1]:=by rw[<- hh];rfl
 have s:∀x,x∈(gst F G i).path\/x∈(gst F G i).heap->x<i+3/\x≠2:=λx hx=>⟨lt x (by rcases hx with hx | hx <;> simp[hx]),(I.inv.bd x hx).1⟩
 have j:∀x∈(gst F G i).h1 (F i-pv F i),x∈(gst F G i).path.take (F i-pv F i)\/x∈(gst F G i).heap:=λx hx=>by
  unfold S.h1 at hx;simpa using hx
 have c:∀x∈(gst F G i).h1 (F i-pv F i),x∈(gst F G i).path\/x∈(gst F G i).heap:=λx hx=>(j x hx).imp Be id
 have U:((gst F G i).path.take (F i-pv F i)++(gst F G i).path.drop (F i-pv F i)).Nodup:=by
  rw[Ad3]
  have:=(Aa4.mp nd).1
  exact(List.reverse_perm _).nodup_iff.mp this
 have B:((gst F G i).h1 (F i-pv F i)).Nodup:=by
  unfold S.h1;refine Aa4.mpr ⟨?_,(Aa4.mp nd).2.1,λx hx y hy e=>?_⟩
  .exact(List.reverse_perm _).nodup_iff.mpr (Aa4.mp U).1
  .subst e;exact S5 nd x (by simpa using Be (Dv.mp hx)) hy
 refine⟨I.k,by lia,by lia,by lia,by lia,λx hx=>?_,?_,?_,?_,?_⟩
 .have M:=Be hx
  obtain⟨X,N⟩:=s x (c x M);refine⟨?_,X⟩;have n1:x≠1:=λe=>by
   subst e;have nd':=B;rw[<- Ad3 (G i-pv G i) ((gst F G i).h1 (F i-pv F i))]at nd';exact S5 nd' 1 hx (by rw[P];simp)
  have n0:x≠0:=λe=>by
   subst e;have z:0∈(gst F G i).path.drop (F i-pv F i):=by rw[Q];simp
   rcases j 0 M with w | w
   .exact S5 U 0 w z
   .exact S5 nd 0 (by simpa using Cg z) w
  lia
 .cases Y:(gst F G i).path.drop (F i-pv F i) with
  | nil=>rw[Q]at Y;simp at Y
  | cons x r=>
   have J:x∈(gst F G i).path:=Cg (by rw[Y];simp:x∈(gst F G i).path.drop (F i-pv F i))
   obtain⟨X,N⟩:=s x (.inl J);refine⟨x,r,rfl,X,?_⟩;have n1:x≠1:=λe=>by
    subst e;obtain⟨h',D⟩:=I.inv.he;exact S5 nd 1 (by simpa using J) (by rw[D];simp)
   have:=dK6 I.inv (q:=x) (by rw[I.k];exact X) N n1
   rwa [I.k]at this
 .cases Y:((gst F G i).h1 (F i-pv F i)).drop (G i-pv G i) with
  | nil=>rw[P]at Y;simp at Y
  | cons y r=>
   have J:y∈(gst F G i).h1 (F i-pv F i):=Cg (by rw[Y];simp:y∈((gst F G i).h1 (F i-pv F i)).drop (G i-pv G i))
   obtain⟨X,N⟩:=s y (c y J);refine⟨y,r,rfl,X,?_⟩;have n0:y≠0:=λe=>by
    subst e;have z:0∈(gst F G i).path.drop (F i-pv F i):=by rw[Q];simp
    rcases j 0 J with w | w
    .exact S5 U 0 w z
    .exact S5 nd 0 (by simpa using Cg z) w
   have:=dB9 I.inv (q:=y) (by rw[I.k];exact X) N n0
   rwa [I.k]at this
 .exact(I.inv.emp (i+3) (by rw[I.k];lia)).1
 .exact(I.inv.emp (i+3) (by rw[I.k];lia)).2
theorem cP2 (R:Rws F G m):∀i,i<=m->(gst F G i).i2 2=[]
 | 0,_=>rfl
 | i+1,h=>by
  show put (gst F G i).i2 ((gst F G i).k+3) (((gst F G i).h1 (F i-pv F i)).take (G i-pv G i)) 2=[]
  rw[C3 (by lia)]
  exact cP2 R i (by lia)
end TT
namespace LV
open PySem L2
theorem cF0 {K:Frag}{ρ:List Sl}(y:List Sl){c:TT}{t u:TS}{b:Bool}{R:AE}(h:T K c ρ b)(h1:b=true->W K t ρ {R with nx:=λr=>r=y})(k:b=false->W K u ρ {R with nx:=λr=>r=y})(w:R.nx y):W K (cS5 c t u) ρ R:=
 aJ7 h (λe=>(h1 e).weak (λr z=>by rw[z];exact w) (λ_ z=>z) (λ_ z=>z) (λ_ z=>z) (λ_ z=>z)) (λe=>(k e).weak (λr z=>by rw[z];exact w) (λ_ z=>z) (λ_ z=>z) (λ_ z=>z) (λ_ z=>z))
def Sl.nb:Sl->Bool
 | .bor _=>false
 | _=>true
theorem s9 {x:Sl}{r:List Sl}:S2 (x::r)=(x.nb&&S2 r):=by cases x <;> rfl
theorem T0 {n i:Nat}{d:PyData}(h:(R8 0 n)[i]? = some d):d=.int (i:Int)/\i<n:=by
 unfold R8 at h;have e:=(Ab0.mp h).1;have e:i<n:=by simpa using e
 rw[Aa9,List.getElem?_range e]at h;refine⟨?_,e⟩
 have:=(Ab4 h).symm
 simpa using this
theorem P4 {n:Nat}{lo:Int}:(R8 lo n).length=n:=by simp[R8]
def nI (l:AD):AG:=l.map λ(x:Nat)=>PyData.int (x:Int)
def lN (l:AD):PyData:=.list (nI l)
def oN (l:AD):OT:=.lst (l.map λ(x:Nat)=>OT.leaf (.int (x:Int)))
def fl (F:Nat->Nat)(m:Nat):AF:=(List.range m).map λi=>(F i:Int)
def M4 (k:Nat)(o0 o1 o2:Nat->Nat):OT:=.lst ((List.range k).map λj=>oN [o0 (j+3),o1 (j+3),o2 (j+3)])
def F7 (n:Nat)(i0 i1 i2:Nat->AD):OT:=.lst ((List.range n).map λq=>.tup [oN (i0 q),oN (i1 q),oN (i2 q)])
theorem C7 (l:AD):(nI l).length=l.length:=by simp[nI]
theorem E6 (l:AD):K0 (nI l)=true:=W8 (λ_=>rfl) l
theorem Y6 (l l':AD):nI (l++l')=nI l++nI l':=by simp[nI]
theorem dE3 (l:AD):nI l.reverse=(nI l).reverse:=by simp[nI]
theorem bV3 (l:AD):(oN l).data=lN l:=by
 unfold oN lN nI;simp only[OT.data];rw[aA7 (g:=λx:Nat=>PyData.int (x:Int)) (λ_=>rfl)]
theorem cA2 (k:Nat)(o0 o1 o2:Nat->Nat):(M4 k o0 o1 o2).data=.list ((List.range k).map λj=>lN [o0 (j+3),o1 (j+3),o2 (j+3)]):=by
 unfold M4;simp only[OT.data];rw[aA7 (λj=>bV3 _)]
theorem cB2 (n:Nat)(i0 i1 i2:Nat->AD):(F7 n i0 i1 i2).data=.list ((List.range n).map λq=>.tuple [lN (i0 q),lN (i1 q),lN (i2 q)]):=by
 unfold F7;simp only[OT.data];rw[aA7 (g:=λq=>PyData.tuple [lN (i0 q),lN (i1 q),lN (i2 q)]) (λq=>by simp only[OT.data,OT.datas,bV3])]
theorem bX3 {F:Nat->Nat}{m i:Nat}(h:i<m):atI ((fl F m).map PyData.int) (i:Int)=some (.int (F i:Int)):=M6 i rfl (by simp[fl,h])
theorem N7 {α:Type}{n q:Nat}{f:Nat->α}(h:q<n):((List.range n).map f)[q]? = some (f q):=by simp[h]
theorem Y0 {α:Type}{n q:Nat}{f g:Nat->α}{h:α->α}(w:q<n)(h1:h (f q)=g q)(r:∀j,j≠q->f j=g j):((List.range n).map f).modify q h=(List.range n).map g:=by
 rw[Q6 (N7 w),h1];refine List.ext_getElem? λj=>?_
 rw[List.getElem?_set];by_cases e:q=j
 .subst e;simp[w]
 .rw[Ab e];by_cases y:j<n
  .rw[N7 y,N7 y,r j (λz=>e z.symm)]
  .rw[Ad6 (by simp;lia),Ad6 (by simp;lia)]
section
variable {n q k j:Nat}{i0 i1 i2:Nat->AD}{o0 o1 o2:Nat->Nat}
theorem aE4 (h:q<n):(F7 n i0 i1 i2).at [q]=some (.tup [oN (i0 q),oN (i1 q),oN (i2 q)]):=by
 show((F7 n i0 i1 i2).kids[q]?).bind _=_
 unfold F7;simp only[OT.kids];rw[N7 h];rfl
theorem cT2 (h:q<n):(F7 n i0 i1 i2).at ([q]++[0])=some (oN (i0 q)):=by rw[aH3 (aE4 h)];rfl
theorem cR0 (h:q<n):(F7 n i0 i1 i2).at ([q]++[1])=some (oN (i1 q)):=by rw[aH3 (aE4 h)];rfl
theorem bU0 (h:q<n):(F7 n i0 i1 i2).at ([q]++[2])=some (oN (i2 q)):=by rw[aH3 (aE4 h)];rfl
theorem dK3 (h:j<k):(M4 k o0 o1 o2).at [j]=some (oN [o0 (j+3),o1 (j+3),o2 (j+3)]):=by
 show((M4 k o0 o1 o2).kids[j]?).bind _=_
 unfold M4;simp only[OT.kids];rw[N7 h];rfl
theorem cK8 (h:q<n)(l:AD):(F7 n i0 i1 i2).put ([q]++[0]) (oN l)=F7 n (TT.put i0 q l) i1 i2:=by
 unfold F7;rw[List.singleton_append,OT.put_lst]
 congr 1
 refine Y0 h ?_ λj e=>by simp only[TT.C3 e]
 rw[OT.put_tup,TT.D6];rfl
theorem cI3 (h:q<n)(l:AD):(F7 n i0 i1 i2).put ([q]++[1]) (oN l)=F7 n i0 (TT.put i1 q l) i2:=by
 unfold F7;rw[List.singleton_append,OT.put_lst]
 congr 1
 refine Y0 h ?_ λj e=>by simp only[TT.C3 e]
 rw[OT.put_tup,TT.D6];rfl
theorem cM8 (h:q<n)(l:AD):(F7 n i0 i1 i2).put ([q]++[2]) (oN l)=F7 n i0 i1 (TT.put i2 q l):=by
 unfold F7;rw[List.singleton_append,OT.put_lst]
 congr 1
 refine Y0 h ?_ λj e=>by simp only[TT.C3 e]
 rw[OT.put_tup,TT.D6];rfl
theorem cX6 (h:j<k)(c:Nat):(M4 k o0 o1 o2).put [j] (oN [o0 (j+3),o1 (j+3),c])=M4 k o0 o1 (TT.put o2 (j+3) c):=by
 unfold M4;rw[OT.put_lst]
 congr 1
 refine Y0 h ?_ λi hi=>by simp only[TT.C3 (show i+3≠j+3 by lia)]
 rw[OT.put_nil,TT.D6]
theorem bB2 (l:AD)(x:Nat):OT.lst ((l.map λ(x:Nat)=>OT.leaf (.int (x:Int)))++[.leaf (.int (x:Int))])=oN (l++[x]):=by simp[oN]
theorem cN0 (h:q<n)(x:Nat):(F7 n i0 i1 i2).put ([]++[q]++[0]) (.lst (((i0 q).map λ(x:Nat)=>OT.leaf (.int (x:Int)))++[.leaf (.int (x:Int))]))=F7 n (TT.put i0 q (i0 q++[x])) i1 i2:=by
 rw[bB2];exact cK8 h _
theorem cD4 (h:q<n)(x:Nat):(F7 n i0 i1 i2).put ([]++[q]++[1]) (.lst (((i1 q).map λ(x:Nat)=>OT.leaf (.int (x:Int)))++[.leaf (.int (x:Int))]))=F7 n i0 (TT.put i1 q (i1 q++[x])) i2:=by
 rw[bB2];exact cI3 h _
theorem bL4 (h:q<n)(x:Nat):(F7 n i0 i1 i2).put ([]++[q]++[2]) (.lst (((i2 q).map λ(x:Nat)=>OT.leaf (.int (x:Int)))++[.leaf (.int (x:Int))]))=F7 n i0 i1 (TT.put i2 q (i2 q++[x])):=by
 rw[bB2];exact cM8 h _
theorem bU5 {α:Type}{f:Nat->α}{q:Nat}{a b:α}:TT.put (TT.put f q a) q b=TT.put f q b:=by
 funext x;by_cases e:x=q
 .rw[e,TT.D6,TT.D6]
 .rw[TT.C3 e,TT.C3 e,TT.C3 e]
theorem cT4:OT.lst (((List.range n).map λq=>OT.tup [oN (i0 q),oN (i1 q),oN (i2 q)])++[.tup [.lst [],.lst [],.lst []]])=F7 (n+1) (TT.put i0 n []) (TT.put i1 n []) (TT.put i2 n []):=by
 unfold F7;rw[Bq,Ad2]
 congr 2
 .refine Al λa e=>?_
  have:=Ab5.mp e
  rw[TT.C3 (by lia),TT.C3 (by lia),TT.C3 (by lia)]
 .simp[TT.D6,oN]
theorem cV6 (a b c:Nat):OT.lst (((List.range k).map λj=>oN [o0 (j+3),o1 (j+3),o2 (j+3)])++[.lst [.leaf (.int (a:Int)),.leaf (.int (b:Int)),.leaf (.int (c:Int))]])=M4 (k+1) (TT.put o0 (k+3) a) (TT.put o1 (k+3) b) (TT.put o2 (k+3) c):=by
 unfold M4;rw[Bq,Ad2]
 congr 2
 .refine Al λx e=>?_
  have:=Ab5.mp e
  rw[TT.C3 (by lia),TT.C3 (by lia),TT.C3 (by lia)]
 .simp[TT.D6,oN]
end
theorem aF5 {n q:Nat}{f:Nat->PyData}(h:q<n):atI ((List.range n).map f) (q:Int)=some (f q):=M6 q rfl (N7 h)
theorem cU5 {p h:AD}{s:TT.S}(e:s.path=p++[0])(y:s.heap=h++[1]):s.row 2=0::(p.reverse++h)++[1]:=by
 rw[TT.aI2,e,y];simp
section
variable {K:Frag}{ρ:List Sl}{m:Bool}{t ta tb:TE}{l l':AD}{ds es:AG}
theorem R7 (e:E K false ta ρ (lN l))(y:E K false tb ρ (lN l'))(w:l.length+l'.length<=100000):EF K (tOp (cO0 K) ta tb) ρ (nI (l++l')):=by
 rw[Y6];exact bB1 e y (E6 l) (E6 l') (by rw[C7,C7];unfold sizeLine;lia)
theorem bX9 (e:E K false ta ρ (lN l)):EF K (bU8 K ta) ρ (nI l.reverse):=by
 rw[dE3];exact dG0 e (E6 l)
theorem EF.toN {t:TE}(h:EF K t ρ (nI l))(e:l=l'):E K m t ρ (lN l'):=by subst e;exact EF.e' h
end
end LV
namespace LV
open PySem PySem.Spec PyProof.Rows L2
theorem aU9 (l:Addr)(items:AK)(n:Nat)(dd:AL)(Y:Array (Option Value))(x:Value)(e:Value->Bool)(j:Nat)(B:j<items.size)(J:e items[j]=true)
  (U:∀(m:Nat) (hm:m<items.size),m<j->e items[m]=false) :
  Meets (Builtin.«tuple.index» {pos:=[.ref l,x]}) λA R s=>
   s.heap.get? l=some {cls:=.type "tuple",dict:=dd,data:=.seq items n,slots:=Y}/\(∀y∈items,SeqAt.EqAt A.in1 s y x (e y)) /\
    R (.ok (.ret (.int (j:Int) s.toks))) {s with toks:=s.toks+1}:=by
 intro q w A R s ⟨ho,N,Q⟩;unfold Builtin.«tuple.index»;have X:selfAndSome "tuple.index" "index" 1 3 {pos:=[.ref l,x]}=pure (.ref l,[x]):=by rfl
 rw[X];refine Aa (Ae ?_);have F:s.heap.get? l=some {cls:=.type "tuple",dict:=dd,data:=.seq items n,slots:=Y}:=ho;show wpAny _ _ (Builtin.Tuple.tupleItemsOf (.ref l) >>= _) _ _ s;refine Aa (wpAny_tupleItemsOf F rfl ?_);refine Aa (Ae ?_);refine Aa (Ae ?_);refine Aa ?_;rw[Std.Legacy.Range.forIn_eq_forIn_range'];have D:([0:min items.size items.size]:Std.Legacy.Range).size=items.size:=by simp[Std.Legacy.Range.size]
 rw[D];refine wpAny_forIn_list _ (λz b p=>(∃i,i<=j/\z=List.range' i (items.size-i) 1)/\b=(none,())/\p=s) _ ?_ ?_ _ _ ⟨⟨0,Cj _,rfl⟩,rfl,rfl⟩
 .rintro i z b p ⟨⟨i',hi,hrest⟩,rfl,rfl⟩;have r:i'<items.size:=by lia
  obtain⟨k,M⟩:∃k,items.size-i'=k+1:=⟨items.size-i'-1,by lia⟩
  rw[M,List.range'_succ,Cb]at hrest;obtain⟨rfl,rfl⟩:=hrest;dsimp only;rw[Bd r];dsimp only;refine Aa (N _ (Array.getElem_mem r) _ _ _ _ ?_);by_cases c:i=j
  .subst c;rw[Ac J];refine Aa ?_;unfold retInt;refine Aa (wpAny_mkInt ?_);exact Ae (Ae (Ae Q))
  .rw[U i r (by lia),Ab (by decide)]
   exact Ae ⟨⟨i+1,by lia,by rw[show items.size-(i+1)=k by lia]⟩,rfl,rfl⟩
 .rintro b p ⟨⟨i,hi,hr'⟩,rfl,rfl⟩
  exfalso
  have:=congrArg List.length hr'
  simp at this
  lia
section
variable {X:Cx}
theorem aL1 (K:Frag)(h:X.K=K:=by rfl):MtR X "tuple.index" (λx xs H Q=>∃(p:Addr) (l:AF) (k:Int),x=.ref p/\xs=[.int k]/\SqT K H p (l.map V.int)/\k∈l/\Q (.int (l.idxOf k)) H):=by
 subst h;intro aA s σ H x xs v us Q I rx rv ⟨p,l,k,D,B,hq,hk,q⟩;subst D;subst B;cases rx;obtain⟨u,rfl,t,rfl⟩:=v5 rv;obtain⟨its,r,P,hz⟩:=I.tuple hq;obtain⟨⟨oc,od,M,N⟩,e,c,n,d⟩:=P;dsimp only at c d;subst c;subst d;have U:=r.length;rw[Aa3]at U;have w:l.idxOf k<l.length:=Cs.mpr hk;have Y:∀(j:Nat) (w:j<its.toArray.size),∃t,its.toArray[j]=Value.int (l[j]'(by simpa[U]using w)) t:=λj w=>by
  have J:j<l.length:=by simpa[U]using w
  obtain⟨u,h1,t,rfl⟩:=r.get (i:=j) (x:=.int l[j]) (by rw[Aa9,Aa2 J];rfl)
  have:=(Ab0.mp h1).2
  exact⟨t,by simpa using this⟩
 refine call_meets F.slot_tuple_index ⟨_,e,rfl⟩ F.entry_tuple_index (F.args_tuple_index_2 _ _) (aU9 p its.toArray n od N (.int k t) (λy=>match y with | .int i _=>i==k | _=>false) (l.idxOf k) (by simpa[<- U]using w) ?_ ?_) ⟨e,λy hy=>?_,?_⟩
 .obtain⟨R,e'⟩:=Y (l.idxOf k) (by simpa[<- U]using w)
  rw[e'];simp
 .intro m hm hlt;obtain⟨R,e'⟩:=Y m hm;rw[e']
  have:l[m]'(by simpa[U]using hm)≠k:=λz=>by
   have h1:m<l.length:=by simpa[U]using hm
   exact bR3 h1 hlt z
  simpa using this
 .obtain⟨j,w,rfl⟩:=Array.mem_iff_getElem.mp hy;obtain⟨R,e'⟩:=Y j w;rw[e'];exact SeqAt.EqAt.int_int _ _ _ _
 .exact⟨.int _,H,I.tok _,⟨_,rfl⟩,q⟩
theorem aC9 {P:Program}{w:World}{A:Around}{E:Dz}{s:Shared}{t sl:Addr}{items:AK}{vl vu:Value}{lo hi:Option Int}{Q:Dz}(e:IsTup s.heap t items)(j:s.heap.IsSliceOf sl vl vu .none)(pl:IsPart vl lo)(q:IsPart vu hi)
  (c:HT.sIx items.size 0 lo=0/\HT.sIx items.size items.size hi=items.size) (h:Q (.ref t) s):wpAny (model P w) A (getItem (.ref t) (.ref sl)) Q E s:=by
 obtain⟨os,k,r,p⟩:=id j;have z:s.TypeIs (.ref sl) "slice" := ⟨os,k,r⟩;unfold getItem
 try with_reducible refine Bz ?_
 first | refine Aa (Ae ?_) | skip
 refine Aa (wpAny_sequenceKey e.typeIs (by decide) ?_)
 refine Aa (Dl (name:=Str.ofString "__getitem__") e.typeIs Bf
  (Cq Bf e.typeIs entry_tuple_getitem ?_ (args_tuple_getitem _ _)))
 show wpAny _ _ (Builtin.Tuple.tupleItemsOf (.ref t) >>= _) _ _ s
 refine Aa (tupleItemsOf_ e ?_);refine Aa (wpAny_typeOf z ?_);rw[Ac (by decide)]
 refine Aa (HT.Z8 j pl q ?_);have y:((((HT.sIx items.size 0 lo:Nat):Int)==0&&(1:Int)==1&&(HT.sIx items.size items.size hi-HT.sIx items.size 0 lo)==items.size)=true):=by
  rw[c.1,c.2];simp
 show wpAny _ _ (if(((HT.sIx items.size 0 lo:Nat):Int)==0&&(1:Int)==1&&(HT.sIx items.size items.size hi-HT.sIx items.size 0 lo)==items.size)=true then _ else _) _ _ s
 rw[Ac y];refine Aa ?_;unfold Builtin.Tuple.tupleIsExact;refine Aa (wpAny_typeOf e.typeIs (Ae ?_));rw[Ac (by decide)]
 exact Aa (wpAny_rule (Ae ⟨_,rfl,Ae h⟩))
def dM2 (K:Frag):V->Option Int->Option Int->Hp->VK->Prop:=λx lo hi H Q=>∃a xs,x=.ref a/\SqT K H a xs /\
 (HT.sIx xs.length 0 lo=0/\HT.sIx xs.length xs.length hi=xs.length->Q (.ref a) H) /\
 (¬(HT.sIx xs.length 0 lo=0/\HT.sIx xs.length xs.length hi=xs.length)->∀p,H p=none->Q (.ref p) (upd H p (.tup (aZ6 xs lo hi))))
theorem cH2 (K:Frag)(h:X.K=K:=by rfl):SlR X (dM2 K):=by
 subst h;intro q s σ H x v J M lo hi U Q I p z pl c h;obtain⟨a,xs,e,j,m,Y⟩:=h;by_cases w:HT.sIx xs.length 0 lo=0/\HT.sIx xs.length xs.length hi=xs.length
 .subst e;cases p;obtain⟨its,r,k,N⟩:=I.tuple j;have y:its.toArray.size=xs.length:=by rw[Ab2];exact r.length.symm
  refine⟨"tuple",_,Bf.lookup,k.typeIs,?_⟩;exact aC9 k z pl c (by rw[y];exact w) ⟨.ref a,H,I,rfl,m w⟩
 .exact dJ1 q s σ H x v J M lo hi U Q I p z pl c ⟨a,xs,e,j,w,Y w⟩
theorem aH8 (K:Frag)(h:X.K=K:=by rfl):OpR X (binaryOp .Add) (bY2 K):=h▸cR4
end
section
variable {K:Frag}{ρ:List Sl}{m:Bool}{t ta tb:TE}{d:PyData}{ds es:AG}
theorem aJ2 (h:K0 ds=true):imm (.tuple ds)=true:=by simp[imm,h]
theorem bJ7 {tl th:TO}{lo hi:Option Int}(s:E K false ta ρ (.tuple ds))(X:O K tl ρ lo)(Y:O K th ρ hi)(r:K0 ds=true):E K m (tSl (dM2 K) ta tl th) ρ (.tuple (y6 ds lo hi)):=
 E.bor (E.imm (m:=false) (λS B σ H o I Q q=>s S B σ H o I _ λx H1 z U=>X S B σ H1 o (I.grow z) _ λc j=>Y S B σ c o ((I.grow z).grow j) _ λM J=>by
  cases U with
  | @tup a xs _ sa ra=>
  have y:=L2.Same.tr j J
  have w:=ra.length
  refine⟨a,xs,rfl,E5 y sa,λk=>q _ _ (L2.Same.tr z y) ?_,λ_ p hp=>q _ _ (L2.Same.tr z (L2.Same.tr y (C9 hp))) (.tup (SqT.of C2) (((ra.mono y).cut lo hi).mono (C9 hp)))⟩
  have e:y6 ds lo hi=ds:=by
   unfold y6;rw[<- w,k.1,k.2,w]
   simp
  rw[e];exact .tup (E5 y sa) (ra.mono y)) (aJ2 (U0 lo hi r)))
theorem bS2 (j:E K false ta ρ (.tuple ds))(c:E K false tb ρ (.tuple es))(hi:K0 ds=true)(r:K0 es=true)(Y:ds≠[])(s:ds.length+es.length<=sizeLine:=by first | decide | (unfold sizeLine;simp;done)):E K m (tOp (bY2 K) ta tb) ρ (.tuple (ds++es)):=
 E.bor (E.imm (m:=false) (λS B σ H o I Q q=>j S B σ H o I _ λx H1 k X=>c S B σ H1 o (I.grow k) _ λy J w U=>by
  cases X with
  | @tup a xs _ sa ra=>
  cases U with
  | @tup b ys _ sb rb=>
  have e:=ra.mono w
  refine⟨a,b,xs,ys,rfl,rfl,E5 w sa,sb,λz=>Y (by cases z;cases ra;rfl),by rw[ra.length,rb.length];exact s,λz=>q _ _ (L2.Same.tr k w) ?_,λ_ p hp=>q _ _ (L2.Same.tr k (L2.Same.tr w (C9 hp))) (.tup (SqT.of C2) ((e.append rb).mono (C9 hp)))⟩
  cases z
  cases rb
  rw[Bj];exact .tup (E5 w sa) e) (aJ2 (by rw[Z9,hi,r];rfl)))
theorem bV4 {H:Hp}{p:V}{l:AF}(r:Rep K H p (tI l)):∃a,p=.ref a/\SqT K H a (l.map V.int):=by
 cases r with
 | @tup a xs _ s r=>exact⟨a,rfl,by rw[<- r.ints];exact s⟩
theorem cI1 {l:AF}{k:Int}(z:E K false ta ρ (tI l))(j:E K false tb ρ (.int k))(c:k∈l) :
  E K m (tBM K "tuple" (λx xs H Q=>∃(p:Addr) (l:AF) (k:Int),x=.ref p/\xs=[.int k]/\SqT K H p (l.map V.int)/\k∈l/\Q (.int (l.idxOf k)) H) ta (C0 tb O1)) ρ (.int (l.idxOf k)):=E.bor (E.imm (m:=false) λS B σ H o I Q q=>z S B σ H o I _ λv H1 e r=>by
 obtain⟨p,rfl,s⟩:=bV4 r;refine⟨.inr (.inl ⟨rfl,_,s⟩),?_⟩;refine j S B σ H1 o (I.grow e) _ λu w y Y=>?_
 cases Y
 exact⟨p,l,k,rfl,rfl,E5 y s,c,q _ w (L2.Same.tr e y) (.int _)⟩)
theorem aB9 {i:Nat}{R:AE}(hi:ρ[i]? = some (.own ds))(h:EF K t ρ es)(w:ds.length+es.length<=sizeLine)(k:R.nx (ρ.set i (.own (ds++es))))(nb:S2 ρ=true:=by rfl) :
  W K (aM4 (tBM K "list" bV5 (E1 i) (C0 t O1))) ρ R:=λS B D σ H o I s=>by
 obtain⟨p,hp,a,xs,b,c⟩:=I.own i ds hi;refine⟨_,a,.inl ⟨rfl,xs,SqL.of b⟩,?_⟩;refine h S B σ H o I _ λq j Y y n e r=>?_
 refine⟨_,_,xs,j,rfl,rfl,y _ _ b,e,by rw[c.length,r.length];exact w,?_⟩
 exact s.nx _ σ _ _ ((I.grow y).upd hi hp ((c.mono (K1 y)).append (r.mono (D5 (L2.Same.rf _) λb z _=>.inl z))) (L5 nb)) k
end
section
variable {X:Cx}
theorem cB3 {vs:AH}{ns:AF}(h:IntsAre vs ns):Vals (ns.map V.int) vs:=by
 induction h with
 | nil=>exact .nil
 | cons n t _ e=>exact .cons ⟨t,rfl⟩ e
end
end LV
namespace L2
open PySem PySem.Spec PyProof.Rows
end L2
namespace LV
open PySem PySem.Spec PyProof.Rows L2
end LV
namespace L2
open PySem PySem.Spec PyProof.Rows
end L2
namespace LV
open PySem PySem.Spec PyProof.Rows L2
end LV
namespace L2
open PySem PySem.Spec PyProof.Rows
open PySem.Builtin PySem.Builtin.Str
end L2
namespace LV
open PySem PySem.Spec PyProof.Rows L2
end LV
namespace L2
open PySem PySem.Spec PyProof.Rows
def Fly (h0:Heap)(H:Hp)(x:Addr)(cls:Value)(h:Heap):Prop:=
 ∃a0 oe vs T oT ts,h0.get? x=none/\h0.get? T=none/\H x=none/\H T=none/\h.get? x=some oe/\(oe.cls=cls/\vs[0]? = some a0)/\oe.data=.fields vs/\vs[1]? = some (.ref T)/\T≠x/\h.get? T=some oT/\oT.data=.fields ts/\ts[3]? = some .none
section
variable {P:Program}{w:World}{H H':Hp}{h h1 h2:Heap}{fs B:AM}
theorem cM0 (u:Un fs [] H H' h h1)(s:∀b∈B,h.get? b=none)(k:∀b o,h1.get? b=some o->b∉fs->b∉B->h2.get? b=some o)(m:∀b o,h1.get? b=some o->b∈fs->∃sl,h2.get? b=some {o with slots:=sl}):Un fs [] H H' h h2 where
 keep:=λb o e n y r=>k b o (u.keep b o e n y r) y λz=>by rw[s b z]at e;cases e
 slot:=λb o e n y r=>by
  obtain⟨sl,j⟩:=u.slot b o e n y r;obtain⟨q,c⟩:=m b _ j y;exact⟨q,c⟩
 free:=u.free
 there:=λb o e r=>by
  obtain⟨p,j⟩:=u.there b o e r;by_cases y:b∈fs
  .obtain⟨sl,c⟩:=m b p j y;exact⟨_,c⟩
  .exact⟨p,k b p j y λz=>by rw[s b z]at e;cases e⟩
 tups:=u.tups
 frzs:=u.frzs
 tbls:=u.tbls
theorem bP9 (c:HOk P w H h1)(j:∀b∈fs,H b=none)(p:∀b∈B,H b=none)(k:∀b o,h1.get? b=some o->b∉fs->b∉B->h2.get? b=some o):HOk P w H h2:=λa o e=>
 (c a o e).stay (λb u hb q=>by
  have s:∃y,H b=some y:=by
   rcases hb with rfl | hb
   .exact⟨_,e⟩
   .exact⟨_,hb⟩
  obtain⟨y,r⟩:=s;refine k b u q (λz=>?_) λz=>?_
  .rw[j b z]at r;cases r
  .rw[p b z]at r;cases r) (λ_ q=>q) λ_ _ q=>q
theorem Y3 {a:Addr}{o:HO}(x:ObjOk P w H h a o):∃ob,h.get? a=some ob:=by
 cases o with
 | lst xs=>obtain⟨_,_,_,_,e⟩:=x;exact⟨_,e⟩
 | tup xs=>obtain⟨_,_,_,o,e,_⟩:=x;exact⟨_,e⟩
 | dK kvs=>obtain⟨_,_,_,_,o,_,_,e,_⟩:=x;exact⟨_,e⟩
 | dT kvs=>obtain⟨_,_,_,_,o,_,_,e,_⟩:=x;exact⟨_,e⟩
 | set S n=>obtain⟨o,_,_,_,e,_⟩:=x;exact⟨_,e⟩
 | ins C dx fs=>obtain⟨_,_,_,e,_⟩:=x;exact⟨_,e⟩
 | own y=>obtain⟨_,e⟩:=x;exact⟨_,e⟩
 | xd fs=>obtain⟨_,⟨_,_,_,e,_⟩,_⟩:=x;exact⟨_,e⟩
 | rng lo hi=>obtain⟨_,_,_,e⟩:=x;exact⟨_,e⟩
 | frz ob u=>obtain⟨e,_⟩:=x;exact⟨_,e⟩
 | tbl ps=>exact⟨_,show h.get? a=some _ from x⟩
 | met f y=>exact⟨_,show h.get? a=some _ from x⟩
 | ext φ=>obtain⟨_,e,_⟩:=x;exact e
theorem i9 {base:Heap}{D:AM}:∀{l:List Env},h.FunFrames base l->(∀b∈frs l,b∈D)->h.FunFrames (PySem.W.hideAll h1 D) l
 | [],_,_=>trivial
 | env::rest,⟨hk,⟨L,o,hf,hn,ho,hd⟩,hr⟩,hD=>by
  have y:L∈frs (env::rest):=by unfold frs;rw[Bc,hf];exact Am ..
  refine⟨hk,⟨L,o,hf,PySem.W.hideAll_none _ (hD L y),ho,hd⟩,i9 hr λb e=>hD b ?_⟩
  unfold frs at e ⊢;rw[Bc,hf];exact Ad4 _ e
end
section
variable {P:Program}{w:World}{M:Model}{A:Around}{E:Dz}{s:Shared}{H0 H:Hp}{h0 base:Heap}{env:Env}{outer:List Env}{L x:Addr}{cls:Value}{Q:Unit->Shared->Prop}
theorem cC4 {h:Heap}{args:AH}(X:A.frames=some (env::outer))(hf:env.frame=some L)(hl:h.FunFrames base (env::outer))(m:Heap.MadeExcOf h s.heap x cls args)(J:∀b o,h0.get? b=some o->∃o',h.get? b=some o')(U:HOk P w H h)
  (hQ:∀(h2:Heap),(∀b o,h.get? b=some o->b∉frs (env::outer)->h2.get? b=some o)->(∀b o,h.get? b=some o->b∈frs (env::outer)->∃sl,h2.get? b=some {o with slots:=sl})->Fly h0 H x cls h2->Q () {s with heap:=h2}) :
  wpAny M A (leaving env (.ref x)) Q E s:=by
 have y:∀b∈frs (env::outer),∃o,h.get? b=some o/\∀vs,o.data≠.fields vs:=λb r=>(hl.mem r).2
 have z:∀b,h.get? b=none->h0.get? b=none/\H b=none:=λb e=>by
  constructor
  .cases q:h0.get? b with
   | none=>rfl
   | some o=>obtain⟨o',c⟩:=J b o q;rw[e]at c;cases c
  .cases q:H b with
   | none=>rfl
   | some u=>obtain⟨o',c⟩:=Y3 (U b u q);rw[e]at c;cases c
 refine wpAny_leaves_madeW (base:=PySem.W.hideAll h (frs (env::outer))) X hf (λb o e=>PySem.W.of_hideAll _ e) (i9 hl λb r=>r) m λh2 t Y _ _ N=>?_
 obtain⟨k1,_,_,D,F,k,R,p,e1,e2,e3,e4,B,e6,e7,e8,e9⟩:=Y;have ks:∀b o,h.get? b=some o->b∈frs (env::outer)->∃sl,h2.get? b=some {o with slots:=sl}:=λb o e r=>by
  obtain⟨o',e',j⟩:=y b r;rw[e]at e';cases e';exact N b o (m.keeps b o e) j
 have hT:h.get? k=none:=by
  cases q:h.get? k with
  | none=>rfl
  | some o=>
   by_cases r:k∈frs (env::outer)
   .obtain⟨o',e',j⟩:=y k r;obtain⟨sl,q⟩:=ks k o' e' r;rw[e7]at q;have q:=Ab4 q;subst q;exact absurd e8 (j p)
   .rw[PySem.W.hideAll_get _ q r]at B;cases B
 exact hQ h2 (λb o e r=>k1 b o (PySem.W.hideAll_get _ e r)) ks ⟨_,D,F,k,R,p,(z x m.new).1,(z k hT).1,(z x m.new).2,(z k hT).2,e1,e2,e3,e4,e6,e7,e8,e9⟩
end
section
variable {P:Program}{w:World}{K:Frag}{mg:Str->Option Value}{base:Heap}{N:AJ}{qual:Str}{scope:Scope}{f:Addr}{cd:Value}{A:Around}{outer:List Env}{s:Shared}{H:Hp}{E:XK}
theorem cI0 {env:Env}{L:Addr}(h:env.frame=some L):frs (env::outer)=L::frs outer:=by unfold frs;rw[Bc,h]
end
abbrev bmV:AH:=[.type "ValueError",.type "Exception",.type "BaseException",.type "object"]
theorem aZ3 {K:Frag}{h:Heap}{C:Addr}{bmB:AH}{newId:String}(X:K.In h)(q:PySem.W.excIn K C bmB newId=true) :
  ∃bm N nm qn bs hdct sn sub ab col dd k0 k1 k2 k3 k5 mN,h.get? C=some (excClassObj nm qn C N bs bm hdct sn sub ab col dd k0 k1 k2 k3 k5 newId)/\h.Ns N mN/\mN "__init__" = none/\OwnTail h bmB bm:=by
 unfold PySem.W.excIn at q;split at q
 .rename_i dd cd sl ho;split at q
  .rename_i C' bm k0 k1 k2 k3 n k5 hm hs;simp only[Aj,beq_iff_eq,Bool.not_eq_true']at q;obtain⟨⟨⟨⟨⟨rfl,rfl⟩,e⟩,j⟩,y⟩,w⟩:=q;obtain⟨nm,bs,c,p,qn,k,sn,sub,ab,col,r⟩:=cd;dsimp only at hm e y w;subst hm e;have z:sl = #[k0,k1,k2,k3,some (.builtin n),k5]:=by
    obtain⟨l⟩:=sl;simp only at hs;rw[hs]
   subst z;exact⟨bm,p,nm,qn,bs,k,sn,sub,ab,col,dd,k0,k1,k2,k3,k5,_,X _ _ ho,.of_isNs (PySem.W.isNs_of_in X y),PySem.W.nsMap_none_of_in X y w,PySem.W.tail_of_in X j⟩
  .cases q
 .cases q
section
variable {X:Cx}
def cL6 (EX:Hp->Prop)(t:TA):TS:=λ_ σ H=>t σ H λvs H1=>vs.length<=1000/\EX H1
theorem cC9 {x:Str}{C:Addr}{e0:Expr}{rest:AN}{t:TA}{EX:Hp->Prop}{np cpos pos:Pos}(R:Gl X x)(r:X.mg x=some (.ref C))(Y:PySem.W.excIn X.K C bmV "ValueError.__new__" = true)(M:X.calm=true)(J:PA X (e0::rest) t)
  (U:∀(aA:Eb) (σ:St) (H:Hp) (s:Shared) (h':Heap) (y:Addr) (vs:AH),Inv X aA σ H s->Heap.MadeExcOf s.heap h' y (.ref C) vs->EX H->X.xe (.ref y) {s with heap:=h'}) (z:(x==("__debug__" : Str))=false:=by decide)
  (j:starEach (e0::rest) X.env=(false,eval e0 X.env)::starEach rest X.env:=by rfl) (k:(backTo cpos (starEach rest X.env)).any (·.1)=false:=by rfl):PS X (.Raise (some (.Call (.Name x np) (e0::rest) [] cpos)) none pos) (cL6 EX t):=by
 refine⟨?_⟩;intro aA s σ H D I h;obtain⟨bm,N,nm,qn,bs,hdct,sn,sub,ab,col,dd,k0,k1,k2,k3,k5,mN,Q,B,P,p⟩:=aZ3 I.ok.mod.kin Y;refine wpAny_Raise_call_subU (C:=C) (nm:=nm) (q:=qn) (N:=N) (bs:=bs) (bm:=bm) (hdct:=hdct) (sn:=sn) (sub:=sub) (ab:=ab) (col:=col) (dd:=dd) (k0:=k0) (k1:=k1) (k2:=k2) (k3:=k3) (k5:=k5) (newId := "ValueError.__new__") F.excBase_ValueError (by decide) F.excBase_ValueError (mN:=mN) (p.hasType F.excBase_ValueError.hasBase) (I.ok.hd M) (by rw[j];show(false||(backTo cpos (starEach rest X.env)).any (·.1))=false;rw[k];rfl) P (aB7 I R r ⟨rfl,?_⟩ z)
 have c:=J cpos aA s σ H _ I h
 rw[j]at c ⊢;refine Calls.evalArgs_plain (wpAny_mono c (λvs s2 m=>?_) λ_ _ y=>y)
 obtain⟨us,H1,w,r1,hl,q⟩:=m;refine⟨rfl,?_,w.bk _ _ Q,B.keeps w.bk,p.keeps w.bk,λh' e r=>U aA σ H1 s2 h' e vs w r q⟩
 have:=r1.length
 show vs.length<=sizeLine
 unfold sizeLine
 lia
end
open Sem (wp)
def Tame {α:Type}:Sem α->Prop
 | .pure _=>True
 | .raise _=>True
 | .unsupported _=>True
 | .finish _=>True
 | .rule _ k=>Tame (k ())
 | .at _ k=>Tame (k ())
 | .load _ _ k=>∀o,Tame (k o)
 | .update _ _ f k=>(∀o:Obj,(f o).dict=o.dict)/\Tame (k ())
 | .alloc _ k=>∀a,Tame (k a)
 | .loadIfAlive _ k=>∀o,Tame (k o)
 | .point _ k=>Tame (k ())
 | .fresh k=>∀t,Tame (k t)
 | .ask k=>∀x,Tame (k x)
 | .handled _ k=>∀x,Tame (k x)
 | .stack k=>∀x,Tame (k x)
 | .thread k=>∀x,Tame (k x)
 | .genState _ k=>∀x,Tame (k x)
 | _=>False
def Kd (h h':Heap):Prop:=∀(b:Nat) (o:Obj),h.objs[b]? = some o->∃o':Obj,h'.objs[b]? = some o'/\o'.dict=o.dict
theorem Kd.rf (h:Heap):Kd h h:=λb o e=>⟨o,e,rfl⟩
theorem Kd.tr {h h1 h2:Heap}(a:Kd h h1)(b:Kd h1 h2):Kd h h2:=λc o e=>by
 obtain⟨k,z,y⟩:=a c o e;obtain⟨j,r,w⟩:=b c k z;exact⟨j,r,w.trans y⟩
theorem bV7 (h:Heap)(o:Obj):Kd h (h.push o):=λb w e=>⟨w,by
 have y:=(Array.getElem?_eq_some_iff.mp e).1
 show(h.objs.push o)[b]? = some w
 rw[Array.getElem?_push_lt y];rw[Bd y]at e;exact e,rfl⟩
theorem aZ5 (h:Heap)(a:Addr)(f:Obj->Obj)(y:∀o,(f o).dict=o.dict):Kd h (h.update a f):=λb o e=>by
 by_cases c:b=a
 .subst c;refine⟨f o,?_,y o⟩;show(h.objs.modify b f)[b]? = _;rw[Array.getElem?_modify,Ac rfl,e];rfl
 .refine⟨o,?_,rfl⟩;show(h.objs.modify a f)[b]? = _;rw[Array.getElem?_modify,Ab (λz=>c z.symm),e]
section
variable {α β:Type}{M:Model}{Γ : PySem.Ctx}
theorem cX0:∀(t:Sem α) (Q:α->Pos->Shared->Prop) (E:Value->Pos->Shared->Prop) (p:Pos) (s:Shared),Tame t->wp M Γ t Q E p s->wp M Γ t (λa p' s'=>Q a p' s'/\Kd s.heap s'.heap) (λe p' s'=>E e p' s'/\Kd s.heap s'.heap) p s:=by
 intro t;induction t with
 | pure a=>intro Q E p s _ h;rw[wp]at h ⊢;exact⟨h,Kd.rf _⟩
 | raise e=>intro Q E p s _ h;rw[wp]at h ⊢;exact⟨h,Kd.rf _⟩
 | unsupported w=>intro Q E p s _ h;rw[wp]at h;exact h.elim
 | finish e=>intro Q E p s _ h;rw[wp]at h;exact h.elim
 | rule tag k ih=>intro Q E p s c h;rw[wp]at h ⊢;exact ih () Q E p s c h
 | «at» pos k ih=>intro Q E p s c h;rw[wp]at h ⊢;exact ih () Q E pos s c h
 | load a part k ih=>intro Q E p s c h;rw[wp]at h ⊢;obtain⟨o,e,h⟩:=h;exact⟨o,e,ih o Q E p s (c o) h⟩
 | update a part f k ih=>
  intro Q E p s c h;rw[wp]at h ⊢;refine⟨h.1,Sem.wp_mono M Γ _ (λ_ p' s' z=>⟨z.1,(aZ5 s.heap a f c.1).tr z.2⟩) (λ_ p' s' z=>⟨z.1,(aZ5 s.heap a f c.1).tr z.2⟩) _ _ (ih () Q E p _ c.2 h.2)⟩
 | alloc o k ih=>
  intro Q E p s c h;rw[wp]at h ⊢;exact Sem.wp_mono M Γ _ (λa p' s' z=>⟨z.1,(bV7 s.heap o).tr z.2⟩) (λe p' s' z=>⟨z.1,(bV7 s.heap o).tr z.2⟩) _ _ (ih _ Q E p _ (c _) h)
 | loadIfAlive a k ih=>intro Q E p s c h;rw[wp]at h ⊢;exact ih _ Q E p s (c _) h
 | point l k ih=>intro Q E p s c h;rw[wp]at h ⊢;exact ih () Q E p s c h
 | register a k ih=>intro Q E p s c h;exact c.elim
 | fresh k ih=>intro Q E p s c h;rw[wp]at h ⊢;exact ih _ Q E p _ (c _) h
 | ask k ih=>intro Q E p s c h;rw[wp]at h ⊢;exact ih _ Q E p s (c _) h
 | choose src n k ih=>intro Q E p s c h;exact c.elim
 | os q l k ih=>intro Q E p s c h;exact c.elim
 | call c' h' g l k ih=>intro Q E p s c h;exact c.elim
 | handled own k ih=>intro Q E p s c h;rw[wp]at h ⊢;exact ih _ Q E p s (c _) h
 | newGen c' k ih=>intro Q E p s c h;exact c.elim
 | genState g k ih=>intro Q E p s c h;rw[wp]at h ⊢;obtain⟨st,e,h⟩:=h;exact⟨st,e,ih _ Q E p s (c _) h⟩
 | resume g r l k ih=>intro Q E p s c h;exact c.elim
 | yield v g l k ih=>intro Q E p s c h;exact c.elim
 | stack k ih=>intro Q E p s c h;rw[wp]at h ⊢;exact ih _ Q E p s (c _) h
 | fork c' k ih=>intro Q E p s c h;exact c.elim
 | thread k ih=>intro Q E p s c h;rw[wp]at h ⊢;exact ih _ Q E p s (c _) h
 | await a tk ti l k ih=>intro Q E p s c h;exact c.elim
theorem aI1 {A:Around}{t:Sem α}{Q:α->Shared->Prop}{E:Dz}{s:Shared}(c:Tame t)(h:wpAny M A t Q E s):wpAny M A t (λa s'=>Q a s'/\Kd s.heap s'.heap) (λe s'=>E e s'/\Kd s.heap s'.heap) s:=λ Γ p y=>cX0 t _ _ p s c (h Γ p y)
theorem Tame.bind {t:Sem α}{f:α->Sem β}(h:Tame t)(c:∀a,Tame (f a)):Tame (t >>= f):=by
 show Tame (t.bind f)
 induction t with
 | pure a=>exact c a
 | raise e=>trivial
 | unsupported w=>trivial
 | finish e=>trivial
 | rule s k y=>exact y () h
 | «at» pos k y=>exact y () h
 | load a z k y=>exact λo=>y o (h o)
 | update a z g k y=>exact⟨h.1,y () h.2⟩
 | alloc o k y=>exact λa=>y a (h a)
 | loadIfAlive a k y=>exact λo=>y o (h o)
 | point l k y=>exact y () h
 | fresh k y=>exact λa=>y a (h a)
 | ask k y=>exact λa=>y a (h a)
 | handled own k y=>exact λa=>y a (h a)
 | stack k y=>exact λa=>y a (h a)
 | thread k y=>exact λa=>y a (h a)
 | genState g k y=>exact λa=>y a (h a)
 | register a k y=>exact h.elim
 | choose p n k y=>exact h.elim
 | os q l k y=>exact h.elim
 | call j m g l k y=>exact h.elim
 | newGen j k y=>exact h.elim
 | resume g r l k y=>exact h.elim
 | yield v g l k y=>exact h.elim
 | fork j k y=>exact h.elim
 | await a X Y l k y=>exact h.elim
end
end L2
namespace L2
open PySem PySem.Spec PyProof.Rows
theorem aU7 (v:Value):Tame (fieldsOf v):=by
 unfold fieldsOf;split
 .refine Tame.bind (λo=>trivial) λo=>?_
  split <;> trivial
 .trivial
theorem u9 (v:Value)(i:Nat):Tame (field v i):=by
 unfold field;refine Tame.bind (aU7 v) λvs=>?_
 split <;> trivial
theorem Y8 (v:Value)(i:Nat)(x:Value):Tame (setField v i x):=by
 unfold setField;split
 .unfold updateField;refine Tame.bind (λo=>trivial) λo=>?_
  split
  .split
   .exact⟨λo=>by unfold Obj.mapFields;split <;> rfl,trivial⟩
   .trivial
  .trivial
 .trivial
theorem W3 (e:Value)(f:AL):Tame (setFlight e f):=by
 unfold setFlight;refine Tame.bind (u9 e 1) λy=>?_
 split
 .exact Y8 _ _ _
 .trivial
theorem aO8 (ty:String)(vs:AH):Tame (newFields ty vs):=by
 have h:Tame (newObjAsIs (.type ty) (.fields vs.toArray)):=by
  unfold newObjAsIs;exact Tame.bind (λa=>trivial) λa=>trivial
 unfold newFields newObj;dsimp only;split
 .exact Tame.bind trivial λ_=>h
 .exact h
theorem aU5 (a b c d e:Value)(p:AH):Tame (EntryCells.newEntry a b c d e p):=aO8 _ _
theorem aE5:Tame stack:=λ_=>trivial
theorem bP1 (f:Addr)(b:Bool):Tame (entryPlaceOf f b):=by
 unfold entryPlaceOf;refine Tame.bind aE5 λe=>?_
 split <;> trivial
theorem aR4:Tame frameEnvs:=by
 unfold frameEnvs;exact Tame.bind aE5 λ_=>trivial
theorem aU2 (env:Env)(b:Bool)(l:List Env):Tame (keptBack env b l):=by
 unfold keptBack;split
 .split
  .trivial
  .unfold underTheClaimsCaller;exact Tame.bind (Tame.bind aE5 λ_=>trivial) λ_=>trivial
 .trivial
theorem bI4 (env:Env)(l:List Env):Tame (behindIsImport env l):=by
 unfold behindIsImport;split
 .trivial
 .split
  .trivial
  .exact Tame.bind (u9 _ _) λ_=>trivial
theorem aQ9:∀l:List Env,Tame (readyFrames l)
 | []=>trivial
 | env::outer=>by
  unfold readyFrames;split
  .refine Tame.bind (λo=>trivial) λo=>?_
   split
   .trivial
   .exact Tame.bind (bI4 env outer) λi=>Tame.bind (aU2 env i outer) λb=>Tame.bind ⟨λo=>rfl,trivial⟩ λ_=>aQ9 outer
  .trivial
theorem aJ4 (l:List Env):Tame (frameObject l):=by
 unfold frameObject;split
 .trivial
 .exact Tame.bind (aQ9 _) λ_=>trivial
theorem aZ9 (env:Env):Tame (PySem.frameOf env):=by
 unfold PySem.frameOf;refine Tame.bind aR4 λl=>Tame.bind (aJ4 _) λo=>?_
 split <;> trivial
theorem aX1 (env:Env)(e:Value):Tame (noteFrame e env):=by
 unfold noteFrame;split
 .refine Tame.bind (u9 e 1) λy=>?_
  have last:∀f:Addr,Tame (do setField e 1 (<- EntryCells.newEntry y (<- PySem.frameOf env) .none (rawInt f) .none (<- entryPlaceOf f (y != .none)))):=λf=>Tame.bind (aZ9 env) λa=>Tame.bind (bP1 f _) λp=>Tame.bind (aU5 _ _ _ _ _ _) λb=>Y8 _ _ _
  dsimp only
  split
  .refine Tame.bind (u9 y 3) λz=>?_
   split
   .trivial
   .exact Tame.bind (Y8 _ _ _) λ_=>last _
  .exact last _
 .trivial
theorem bB3 (env:Env)(e:Value):Tame (leaving env e):=Tame.bind (aX1 env e) λ_=>W3 e none
structure Mv (fs B:AM)(h h':Heap):Prop where
 k:∀b o,h.get? b=some o->b∉fs->b∉B->h'.get? b=some o
 s:∀b o,h.get? b=some o->b∈fs->∃sl,h'.get? b=some {o with slots:=sl}
section
variable {P:Program}{w:World}{H:Hp}{h h0 h2 base:Heap}{l:List Env}{x T:Addr}{cls a0:Value}
theorem bN0 (hl:h.FunFrames base l)(m:∀b o,h0.get? b=some o->∃o',h.get? b=some o')(s:HOk P w H h)(n1:h0.get? x=none)(n2:h0.get? T=none)(n3:H x=none)(n4:H T=none)
  (k1:(PySem.W.hideAll h (x::T::frs l)).StaysIn h2) (tr:h2.TracedW (PySem.W.hideAll h (x::T::frs l)) x cls a0) (Y:h.UpToSlots h2):Mv (frs l) [x,T] h h2/\Fly h0 H x cls h2:=by
 obtain⟨U,M,k,X,c,e1,e2,e3,e4,p,N,R,Q,e9⟩:=tr;have y:∀b∈frs l,∃o,h.get? b=some o/\∀vs,o.data≠.fields vs:=λb r=>(hl.mem r).2
 have F:∀b o,h.get? b=some o->b∈frs l->∃B,h2.get? b=some {o with slots:=B}:=λb o e r=>by
  obtain⟨o',e',j⟩:=y b r;rw[e]at e';cases e';exact Y b o e j
 refine⟨⟨λb o e r D=>k1 b o (PySem.W.hideAll_get _ e ?_),F⟩,a0,U,M,k,X,c,n1,?_,n3,?_,e1,e2,e3,e4,N,R,Q,e9⟩
 .intro z;rcases Aa1.mp z with z | z
  .exact D (z▸Am ..)
  .rcases Aa1.mp z with z | z
   .exact D (z▸Ad4 _ (Am ..))
   .exact r z
 all_goals
  by_cases r:k∈x::T::frs l
  .rcases Aa1.mp r with z | z
   .exact absurd z N
   .rcases Aa1.mp z with z | z
    .first | exact z▸n2 | exact z▸n4
    .exfalso
     obtain⟨o',e',j⟩:=y k z;obtain⟨B,q⟩:=F k o' e' z;rw[R]at q;have q:=Ab4 q;subst q;exact j c Q
  .first
    | (cases q:h0.get? k with
     | none=>rfl
     | some o=>
      obtain⟨o',J⟩:=m k o q;rw[PySem.W.hideAll_get _ J r]at p;cases p)
    | (cases q:H k with
     | none=>rfl
     | some u=>
      obtain⟨o',J⟩:=Y3 (s k u q);rw[PySem.W.hideAll_get _ J r]at p;cases p)
end
section
variable {P:Program}{w:World}{M:Model}{A A':Around}{E E':Dz}{s:Shared}{H:Hp}{h0 base:Heap}{env:Env}{outer:List Env}{L x:Addr}{cls:Value}{Q:Unit->Shared->Prop}
theorem cA4 (c:A.frames=some (env::outer))(hf:env.frame=some L)(m:s.heap.FunFrames base (env::outer))(F:Fly h0 H x cls s.heap)(q:∀b o,h0.get? b=some o->∃o',s.heap.get? b=some o')(p:HOk P w H s.heap)
  (hQ:∀(h2:Heap) (B:AM),(∀b∈B,h0.get? b=none/\H b=none)->Mv (frs (env::outer)) B s.heap h2->Fly h0 H x cls h2->Q () {s with heap:=h2}) :
  wpAny M A (noteFrame (.ref x) env) (λ_ s2=>wpAny M A (setFlight (.ref x) none) Q E s2) E s:=by
 obtain⟨a0,oe,vs,T,oT,ts,Y,X,U,J,hx,hc,hd,h1,k,hT,j,R⟩:=F;refine wpAny_looks_onW (base:=PySem.W.hideAll s.heap (x::T::frs (env::outer))) (cls:=cls) (a0:=a0) c hf ⟨λb o e=>PySem.W.of_hideAll _ e,PySem.W.hideAll_none _ (Am ..),i9 m λb hb=>Ad4 _ (Ad4 _ hb),oe,vs,T,oT,ts,hx,hc,hd,h1,PySem.W.hideAll_none _ (Ad4 _ (Am ..)),k,hT,j,R⟩ λh4 hh z=>?_
 refine wpAny_landsW hh λD y r=>?_
 obtain⟨mv,N⟩:=bN0 (P:=P) (w:=w) m q p Y X U J y.1 y.2.2.2 (z.trans r);refine hQ D [x,T] (λb hb=>?_) mv N
 rcases Aa1.mp hb with rfl | hb
 .exact⟨Y,U⟩
 .rw[Ad8.mp hb];exact⟨X,J⟩
theorem cC1 (p:s.heap.FunFrames base (env::outer))(F:Fly h0 H x cls s.heap)(j:∀b o,h0.get? b=some o->∃o',s.heap.get? b=some o')(k:HOk P w H s.heap)
  (R:∀(h2:Heap) (B:AM),(∀b∈B,h0.get? b=none/\H b=none)->Mv (frs (env::outer)) B s.heap h2->Fly h0 H x cls h2->Q () {s with heap:=h2}) :
  wpAny M A (setFlight (.ref x) none) Q E s:=by
 obtain⟨a0,oe,vs,T,oT,ts,q,m,Y,X,hx,hc,hd,h1,z,D,r,J⟩:=F;refine lands_againW (base:=PySem.W.hideAll s.heap (x::T::frs (env::outer))) (l:=env::outer) (cls:=cls) (a0:=a0) ⟨λb o e=>PySem.W.of_hideAll _ e,PySem.W.hideAll_none _ (Am ..),i9 p λb hb=>Ad4 _ (Ad4 _ hb),oe,vs,T,oT,ts,hx,hc,hd,h1,PySem.W.hideAll_none _ (Ad4 _ (Am ..)),z,D,r,J⟩ λN y c=>?_
 obtain⟨mv,U⟩:=bN0 (P:=P) (w:=w) p j k q m Y X y.1 y.2.2.2 c;refine R N [x,T] (λb hb=>?_) mv U
 rcases Aa1.mp hb with rfl | hb
 .exact⟨q,Y⟩
 .rw[Ad8.mp hb];exact⟨m,X⟩
end
def Dx (h:Heap)(x:Addr)(d:AL):Prop:=∃o,h.get? x=some o/\o.dict=d
theorem bT4 {h:Heap}{x:Addr}{o:Obj}(e:h.get? x=some o):h.objs[x]? = some o:=by
 unfold Heap.get? at e;split at e
 .cases e
 .exact e
theorem Dx.keep {h h':Heap}{x:Addr}{d:AL}(D:Dx h x d)(k:Kd h h')(t:∃o,h'.get? x=some o):Dx h' x d:=by
 obtain⟨o,e,rfl⟩:=D;obtain⟨z,e'⟩:=t;obtain⟨r,y,w⟩:=k x o (bT4 e);rw[bT4 e']at y;cases y;exact⟨z,e',w⟩
theorem Fly.there {h0 h:Heap}{H:Hp}{x:Addr}{cls:Value}(F:Fly h0 H x cls h):∃o,h.get? x=some o:=by
 obtain⟨w,y,vs,T,c,ts,z,r,k,j,e,_⟩:=F;exact⟨y,e⟩
section
variable {P:Program}{w:World}{M:Model}{A:Around}{E:Dz}{s:Shared}{H:Hp}{h0 base:Heap}{env:Env}{outer:List Env}{L x:Addr}{cls:Value}{d:AL}{Q:Unit->Shared->Prop}
theorem bQ0 (p:s.heap.FunFrames base (env::outer))(F:Fly h0 H x cls s.heap)(D:Dx s.heap x d)(y:∀b o,h0.get? b=some o->∃o',s.heap.get? b=some o')(e:HOk P w H s.heap)
  (j:∀(h2:Heap) (B:AM),(∀b∈B,h0.get? b=none/\H b=none)->Mv (frs (env::outer)) B s.heap h2->Fly h0 H x cls h2->Dx h2 x d->Q () {s with heap:=h2}) :
  wpAny M A (setFlight (.ref x) none) Q E s:=by
 have f:=cC1 (M:=M) (E:=E) (A:=A) (P:=P) (w:=w) (Q:=λ_ r=>∃h2 B,r={s with heap:=h2}/\(∀b∈B,h0.get? b=none/\H b=none)/\Mv (frs (env::outer)) B s.heap h2/\Fly h0 H x cls h2) p F y e λh2 B a b c=>⟨h2,B,rfl,a,b,c⟩
 refine wpAny_mono (aI1 (W3 (.ref x) none) f) (λ_ r z=>?_) λ_ _ z=>z.1
 obtain⟨⟨h2,B,rfl,a,b,c⟩,k⟩:=z;exact j h2 B a b c (D.keep k c.there)
theorem bS1 (e:A.frames=some (env::outer))(m:env.frame=some L)(Y:s.heap.FunFrames base (env::outer))(F:Fly h0 H x cls s.heap)(D:Dx s.heap x d)(j:∀b o,h0.get? b=some o->∃o',s.heap.get? b=some o')(r:HOk P w H s.heap)
  (q:∀(h2:Heap) (B:AM),(∀b∈B,h0.get? b=none/\H b=none)->Mv (frs (env::outer)) B s.heap h2->Fly h0 H x cls h2->Dx h2 x d->Q () {s with heap:=h2}) :
  wpAny M A (noteFrame (.ref x) env) (λ_ s2=>wpAny M A (setFlight (.ref x) none) Q E s2) E s:=by
 have f:=cA4 (M:=M) (E:=E) (P:=P) (w:=w) (Q:=λ_ p=>∃h2 B,p={s with heap:=h2}/\(∀b∈B,h0.get? b=none/\H b=none)/\Mv (frs (env::outer)) B s.heap h2/\Fly h0 H x cls h2) e m Y F j r λh2 B a b c=>⟨h2,B,rfl,a,b,c⟩
 refine wpAny_mono (aI1 (aX1 env (.ref x)) f) (λ_ s2 z=>?_) λ_ _ z=>z.1
 refine wpAny_mono (aI1 (W3 (.ref x) none) z.1) (λ_ p y=>?_) λ_ _ y=>y.1
 obtain⟨⟨h2,B,rfl,a,b,c⟩,k⟩:=y;exact q h2 B a b c (D.keep (z.2.tr k) c.there)
end
def CXd (P:Program)(w:World):CXT:=λouter H s E e s'=>
 ∃x cls H' d,e=.ref x/\s'.os=s.os/\AllBare s'.gens/\Un (frs outer) [] H H' s.heap s'.heap/\HOk P w H' s'.heap/\Fly s.heap H' x cls s'.heap/\Dx s'.heap x d/\E cls d H'
section
variable {P:Program}{w:World}{M:Model}{A:Around}{E:Dz}{s:Shared}{H:Hp}{h0 base:Heap}{env:Env}{outer:List Env}{L x:Addr}{cls:Value}{Q:Unit->Shared->Prop}
theorem bZ3 {h:Heap}{args:AH}(y:A.frames=some (env::outer))(Y:env.frame=some L)(X:h.FunFrames base (env::outer))(p:Heap.MadeExcOf h s.heap x cls args)(j:∀b o,h0.get? b=some o->∃o',h.get? b=some o')(r:HOk P w H h)
  (m:∀(h2:Heap),(∀b o,h.get? b=some o->b∉frs (env::outer)->h2.get? b=some o)->(∀b o,h.get? b=some o->b∈frs (env::outer)->∃sl,h2.get? b=some {o with slots:=sl})->Fly h0 H x cls h2->Dx h2 x none->Q () {s with heap:=h2}) :
  wpAny M A (leaving env (.ref x)) Q E s:=by
 have D:Dx s.heap x none:=by obtain⟨t,e,_⟩:=p.there;exact⟨_,e,rfl⟩
 have f:=cC4 (M:=M) (E:=E) (P:=P) (w:=w) (h0:=h0) (Q:=λ_ q=>∃h2,q={s with heap:=h2}/\(∀b o,h.get? b=some o->b∉frs (env::outer)->h2.get? b=some o)/\(∀b o,h.get? b=some o->b∈frs (env::outer)->∃sl,h2.get? b=some {o with slots:=sl})/\Fly h0 H x cls h2) y Y X p j r λh2 b c e=>⟨h2,rfl,b,c,e⟩
 refine wpAny_mono (aI1 (bB3 env (.ref x)) f) (λ_ q z=>?_) λ_ _ z=>z.1
 obtain⟨⟨h2,rfl,b,c,e⟩,k⟩:=z;exact m h2 b c e (D.keep k e.there)
end
section
variable {P:Program}{w:World}{K:Frag}{mg:Str->Option Value}{base:Heap}{N:AJ}{qual:Str}{scope:Scope}{f:Addr}{cd:Value}{A:Around}{outer:List Env}{s:Shared}{H:Hp}{E:XK}
theorem dF5 {aA:Eb}{σ:St}{H1:Hp}{s1:Shared}{h2:Heap}{g:Array GenState}{dr:Drawn}{tk:Nat}{B:AM}{x:Addr}{cls:Value}(I:Inv (aT1 (CXd P w) P w K mg base N qual scope f cd A outer s H E) aA σ H1 s1)(r:∀b∈B,s.heap.get? b=none/\H1 b=none)
  (k:∀b o,s1.heap.get? b=some o->b∉frs (envOfC qual scope s.heap.objs.size f cd::outer)->b∉B->h2.get? b=some o) (j:∀b o,s1.heap.get? b=some o->b∈frs (envOfC qual scope s.heap.objs.size f cd::outer)->∃sl,h2.get? b=some {o with slots:=sl})
  (F:Fly s.heap H1 x cls h2) {dx:AL} (D:Dx h2 x dx) (q:E cls dx H1) (m:AllBare g):CXd P w outer H s E (.ref x) {s1 with heap:=h2,gens:=g,drawn:=dr,toks:=tk}:=by
 have y:frs (envOfC qual scope s.heap.objs.size f cd::outer)=s.heap.objs.size::frs outer:=cI0 rfl
 have c:s.heap.get? s.heap.objs.size=none:=Heap.get?_none_of_le (Aa7 _)
 have p:Un (frs outer) [] H H1 s.heap s1.heap:=I.base
 rw[y]at k j;refine⟨x,cls,H1,dx,rfl,I.os,m,cM0 (B:=s.heap.objs.size::B) p (λb hm=>?_) (λb o e h1 h2=>?_) (λb o e h1=>j b o e (Ad4 _ h1)),bP9 (fs:=s.heap.objs.size::frs outer) (B:=B) I.hok (λb hm=>?_) (λb hm=>(r b hm).2) k,F,D,q⟩
 .rcases Aa1.mp hm with rfl | hm
  .exact c
  .exact(r b hm).1
 .refine k b o e (λz=>?_) λz=>h2 (Ad4 _ z)
  rcases Aa1.mp z with rfl | z
  .exact h2 (Am ..)
  .exact h1 z
 .exact I.stkFree b (by show b∈frs (envOfC qual scope s.heap.objs.size f cd::outer);rw[y];exact hm)
theorem dK2 {cls:Value}:∀(aA:Eb) (σ:St) (H1:Hp) (s1:Shared) (h':Heap) (y:Addr) (vs:AH),Inv (aT1 (CXd P w) P w K mg base N qual scope f cd A outer s H E) aA σ H1 s1->Heap.MadeExcOf s1.heap h' y cls vs->E cls none H1->(aT1 (CXd P w) P w K mg base N qual scope f cd A outer s H E).xe (.ref y) {s1 with heap:=h'}:=by
 intro aA σ H1 s1 h' y vs I m q;have j:∀b o,s.heap.get? b=some o->∃X,s1.heap.get? b=some X:=λb o e=>I.base.there b o e (by exact λz=>absurd (show b∈([]:AM) from z) (by simp))
 exact bZ3 (P:=P) (w:=w) (H:=H1) (h0:=s.heap) (base:=base) (h:=s1.heap) (s:={s1 with heap:=h'}) I.ok.frames rfl I.stack m j I.hok λU k Y p c=>dF5 (B:=[]) (s1:=s1) I (λb r=>absurd r (by simp)) (λb o e r _=>k b o e r) Y p c q I.bare
theorem Fun.okD {x qual:Str}{st:Stmt}{f:Addr}{fd:FuncData}{N ps:AJ}{k:Nat}{sp:Sp}(F:Fun K x qual st f fd)(S:D9 N ps (B2 st))(len:∀vs H Q E,sp vs H Q E->vs.length=ps.length)
  (e:∀(cdv:Value) (A:Around) (outer:List Env) (s:Shared) (H:Hp) (vs:List V) (Q:VK) (E:XK),Room k (A.deeper (envOfC qual (B2 st) s.heap.objs.size f cdv))->sp vs H Q E ->
   ∃t,PSs (aT1 (CXd P w) P w K mg base N qual (B2 st) f cdv A outer s H E) (l5 st) t/\t {nx:=λ_ H'=>Q .non H',rt:=Q} (R5 N vs) H):E9 P w K mg base (CXd P w) (k+1) f fd ps sp:=by
 obtain⟨m,Y,kV,r,pm,an,cdv,q,p,rfl,c,y⟩:=F.ex;exact dA8 c y S len λA outer s H vs Q E j z=>e cdv A outer s H vs Q E j z
end
abbrev Cx.markd (X:Cx)(e:Value):Cx:={X with A:=X.A.mark (some e),calm:=false,xe:=λ_ _=>False}
theorem Inv.markd {X:Cx}{aA:Eb}{σ:St}{H:Hp}{s:Shared}(I:Inv X aA σ H s)(e:Value):Inv (X.markd e) aA σ H s:=
 ⟨⟨I.ok.mod,I.ok.kind,I.ok.glob,I.ok.blt,I.ok.above,I.ok.inj,I.ok.has,I.ok.cab,(λz=>nomatch z),I.ok.frames,I.ok.stk,I.ok.exf,I.ok.bs,I.ok.bsz,I.ok.noex,I.ok.exfs,I.ok.funs,I.ok.frf⟩,I.os,I.bare,I.base,I.loc,I.cell,I.free,I.freeC,I.pin,I.hok,I.len⟩
theorem Inv.unmark {X:Cx}{aA:Eb}{σ:St}{H:Hp}{s:Shared}{e:Value}(ok:X.Ok)(I:Inv (X.markd e) aA σ H s):Inv X aA σ H s:=
 ⟨ok,I.os,I.bare,I.base,I.loc,I.cell,I.free,I.freeC,I.pin,I.hok,I.len⟩
def bP4 (sp:Sp)(dvs:List V)(t:TA)(EX:XK):TE:=λσ H Q=>t σ H λvs H1=>sp (vs++dvs) H1 Q EX
section
variable {X:Cx}{aA:Eb}{σ:St}{H:Hp}{s:Shared}{h':Heap}
theorem Inv.unbind {j:Nat}{y:Str}{m:Str->Option Value}{v:Option Value}(I:Inv X aA σ H s)(hN:X.N.Nodup)(hj:X.N[j]? = some y)(hn:s.heap.Ns X.env.locals m)(hl:∀(i:Nat) (x:Str) (v:V),X.N[i]? = some x->σ[i]? = some (some v)->Vis X.env.scope x->∃u,RelV v u/\dR8 X.env s.heap m x u)
  (F:h'.Ns X.env.locals λx=>if x=y then v else m x) (U:Heap.SameBut X.env.locals s.heap h') {t':Nat}:Inv X aA (σ.set j none) H {s with heap:=h',toks:=t'}:=by
 have cne:=I.cne
 obtain⟨oL,_,_,hoL,_⟩:=id hn;have r:HOk X.prog X.w H h':=λb ob e=>by
  refine(I.hok b ob e).stay (λc w' hc q=>(U.2 c ?_).trans q) (λ_ q=>q) λ_ _ q=>q
  rintro rfl;rcases hc with rfl | hc
  .rw[I.free]at e;cases e
  .rw[I.free]at hc;cases hc
 refine⟨I.ok,I.os,I.bare,⟨λb o e n Q R=>?_,λb o e n Q R=>?_,I.base.free,λb o e R=>?_,I.base.tups,I.base.frzs,I.base.tbls⟩,⟨_,F,λi x v' Y J e3=>?_⟩,λy c e=>?_,I.free,I.freeC,λp hp=>?_,r,by simpa using I.len⟩
 .exact(U.2 b (Ab9 (Ab8 (Ab3 e) I.ok.above))).trans (I.base.keep b o e n Q R)
 .obtain⟨sl,Y⟩:=I.base.slot b o e n Q R;exact⟨sl,(U.2 b (Ab9 (Ab8 (Ab3 e) I.ok.above))).trans Y⟩
 .obtain⟨o',Y⟩:=I.base.there b o e R;exact⟨o',(U.2 b (Ab9 (Ab8 (Ab3 e) I.ok.above))).trans Y⟩
 .have M:i≠j:=λz=>by
   subst z;by_cases hi:i<σ.length
   .rw[Av hi]at J;cases J
   .rw[Ad6 (by simpa using hi)]at J;cases J
  rw[Ad0 (Ne.symm M)]at J;obtain⟨P,r',q⟩:=hl i x v' Y J e3;refine⟨P,r',?_⟩;rcases q with⟨k,e⟩ | ⟨k,c,e,z⟩
  .refine .inl ⟨k,?_⟩
   have:x≠y:=λz=>M (by
    subst z;exact(List.getElem?_inj (Ab0.mp Y).1 hN).mp (Y.trans hj.symm))
   show(if x=y then v else m x)=some P
   rw[Ab this];exact e
  .refine .inr ⟨k,c,e,?_⟩;obtain⟨o,ho,D⟩:=z;exact⟨o,(U.2 c (cne x c e)).trans ho,D⟩
 .obtain⟨v,o,ho,D⟩:=I.cell y c e;exact⟨v,o,(U.2 c (cne y c e)).trans ho,D⟩
 .obtain⟨q1,q2,B,q4⟩:=I.pin p hp;exact⟨(U.2 p.1 B).trans q1,q2,B,q4⟩
end
def subIn (K:Frag)(C:Addr)(v:Value):Bool:=match K.lookup C with
 | some ⟨_,_,.cls cd,_⟩=>cd.mro.contains v
 | _=>false
section
variable {M:Model}{A:Around}{E:Dz}
variable {nm q nm' q':Str}{C N T N':Addr}{bs bm bs' bm':AH}{hdct hdct':Bool}{sn sn':AJ}{sub sub':AH}{ab ab':Bool}{col col':Option Bool}{dd dd':AL}{k0 k1 k2 k3 k5 j0 j1 j2 j3 j5:Option Value}{newId newId':String}
theorem aM5 {h:Heap}{g:Array GenState}{d:Drawn}{t:Nat}{os:OsState}{e:Addr}{oe:Obj}{Q:Bool->Shared->Prop}
  (j:h.get? C=some (excClassObj nm q C N bs bm hdct sn sub ab col dd k0 k1 k2 k3 k5 newId)) (k:h.get? T=some (excClassObj nm' q' T N' bs' bm' hdct' sn' sub' ab' col' dd' j0 j1 j2 j3 j5 newId')) (c:h.get? e=some oe) (w:oe.cls=.ref C) (y:bm'.contains (.type "BaseException")=true)
  (r:(Value.ref C::bm).contains (.ref T)=true) (p:Q true ⟨h,g,d,t,os⟩):wpAny M A (excMatches (.ref e) (.ref T)) Q E ⟨h,g,d,t,os⟩:=by
 have z:(Value.ref T::bm').contains (.type "BaseException")=true:=by rw[List.contains_cons,y,Bool.or_true]
 have f:=tc_notTuple
 unfold excMatches
 repeat (first | (with_reducible refine wpAny_loadPart_at c ?_;rw[w]) | with_reducible refine wpAny_loadPart_at k ?_ | (with_reducible refine wpAny_isSubtype_exc k ?_;rw[z]) | (with_reducible refine wpAny_isSubtype_exc j ?_;rw[r]) | wp_step)
 exact p
end
theorem cB9 {K:Frag}{h:Heap}{C:Addr}{v:Value}{bm:AH}{nm qn:Str}{N:Addr}{bs:AH}{hdct:Bool}{sn:AJ}{sub:AH}{ab:Bool}{col:Option Bool}{dd:AL}{k0 k1 k2 k3 k5:Option Value}{newId:String}(X:K.In h)(e:h.get? C=some (excClassObj nm qn C N bs bm hdct sn sub ab col dd k0 k1 k2 k3 k5 newId))(q:subIn K C v=true):(Value.ref C::bm).contains v=true:=by
 unfold subIn at q;split at q
 .rename_i ho
  have:=X _ _ ho
  rw[e]at this;cases this;exact q
 .cases q
theorem cU7 {P:Program}{w:World}{H:Hp}{h:Heap}{x C:Addr}{d:AL}{o:Obj}{vs:AK}(e:h.get? x=some o)(p:o.cls=.ref C)(q:o.data=.fields vs)(s:o.dict=d):ObjOk P w H h x (excD x C d):=
 ⟨⟨o,vs,e,p,q,s⟩,⟨o,e⟩,λh1 Y ⟨m,y,z,r,j,c⟩ k=>⟨m,y,k _ z,r,j,c⟩⟩
def cR5 (K:Frag)(C:Addr):Prop:=∀h:Heap,K.In h->∃bm N nm qn bs hdct sn sub ab col dd k0 k1 k2 k3 k5,h.get? C=some (excClassObj nm qn C N bs bm hdct sn sub ab col dd k0 k1 k2 k3 k5 "ValueError.__new__")/\OwnTail h bmV bm
def cD6 (X:Cx)(aA:Eb)(σ:St)(EX:XK)(e:Value)(s':Shared):Prop:=∃s0 H0,Inv X aA σ H0 s0/\CXd X.prog X.w X.stack H0 s0 EX e s'
structure PBd (X:Cx)(body:List Stmt)(t:XK->TS):Prop where
 run:∀(aA:Eb) (s:Shared) (σ:St) (H:Hp) (D:aI9) (EX:XK),Inv X aA σ H s->t EX D σ H->wpAny (model X.prog X.w) X.A (execs body X.env) (SP X aA D) (cD6 X aA σ EX) s
section
variable {X:Cx}{k:Nat}{f:Addr}{fd:FuncData}{ps:AJ}{sp:Sp}{dvs:List V}{ds:AH}{x:Str}{p pos:Pos}{e:Expr}{es:AN}{t:TA}
theorem cA7 (F:E9 X.prog X.w X.K X.mg X.base (CXd X.prog X.w) k f fd ps sp)(hr:Room k X.A)(B:Gl X x)(hm:X.mg x=some (.ref f))(P:PySem.W.keepIn X.K (.ref f)=true)(N:Binds X.K fd ps ds)(R:Vals dvs ds)
  (M:PA X.nox (e::es) t) (m:(x==("__debug__" : Str))=false:=by decide) (D:starEach (e::es) X.env=(false,eval e X.env)::starEach es X.env:=by rfl) (Y:(backTo pos (starEach es X.env)).any (·.1)=false:=by rfl)
  {aA:Eb} {s:Shared} {σ:St} {H:Hp} {Q:VK} {EX:XK} (I:Inv X aA σ H s) (h:bP4 sp dvs t EX σ H Q):wpAny (model X.prog X.w) X.A (eval (.Call (.Name x p) (e::es) [] pos) X.env) (EP X aA σ Q) (cD6 X aA σ EX) s:=by
 refine wpAny_Call_Name_kw (aB7 I B hm ?_ m);refine PySem.W.callWith_K (h₀:=X.base) I.ok.mod.kin P (wpAny_mono (M pos aA s σ H _ (I.wish _) h) (λc U ⟨vs,H1,y,r,q⟩=>⟨y.kIn,?_⟩) λ_ _ z=>False.elim z) D Y
 have y:=y.unwish
 have J:Vals (vs++dvs) (c++ds):=r.append R
 have hl:(c++ds).length=ps.length:=by rw[<- J.length];exact F.len _ _ _ _ q
 refine wpAny_call (codeAny_mono (F.run X.A X.stack U H1 ⟨c,[]⟩ (c++ds) (vs++dvs) Q EX hr y.env0 (N U c y.kIn hl) J q) λr s' j=>?_)
 cases r with
 | error e=>exact⟨U,H1,y,j⟩
 | ok fl=>
  cases fl with
  | ret u=>exact y.after j
  | next=>exact False.elim j
  | brk=>exact False.elim j
  | cont=>exact False.elim j
theorem cJ1 {apos:Pos}(F:E9 X.prog X.w X.K X.mg X.base (CXd X.prog X.w) k f fd ps sp)(B:Room k X.A)(M:Gl X x)(R:X.mg x=some (.ref f))(N:PySem.W.keepIn X.K (.ref f)=true)(Y:Binds X.K fd ps ds)(U:Vals dvs ds)
  (m:PA X.nox (e::es) t) (y:(x==("__debug__" : Str))=false:=by decide) (J:starEach (e::es) X.env=(false,eval e X.env)::starEach es X.env:=by rfl) (r:(backTo pos (starEach es X.env)).any (·.1)=false:=by rfl)
  (P:swapsWith (.Call (.Name x p) (e::es) [] pos) none apos.line X.env=pure false:=by rfl) :
  PBd X [.Expr (.Call (.Name x p) (e::es) [] pos) apos] λEX=>aM4 (bP4 sp dvs t EX):=by
 refine⟨λc s σ H D EX I h=>?_⟩
 refine wpAny_execs_cons (wpAny_mono (wpAny_Expr_any (Q:=λfl s'=>fl=.next/\SP X c D .next s') (wpAny_mono (cA7 F B M R N Y U m y J r I h) (λv s1 ⟨z,H1,j,r1,q1⟩=>⟨rfl,σ,H1,j,q1⟩) λ_ _ z=>z) I.quiet P) (λfl s1 q=>?_) λ_ _ z=>z)
 obtain⟨rfl,q⟩:=q;exact wpAny_execs_nil q
end
def cY8 (K:Frag)(TE:Addr)(tb:XK->TS)(j:Nat)(th:TS):TS:=λD σ H=>
 tb (λcls d H1=>∃C,cls=.ref C/\cR5 K C/\subIn K C (.ref TE)=true/\∀x,H1 x=none->th {nx:=λσ' H'=>D.nx (σ'.set j none) H',rt:=λ_ _=>False} (σ.set j (some (.ref x))) (upd H1 x (excD x C d))) D σ H
section
variable {X:Cx}
theorem cR7 {body:List Stmt}{tb:XK->TS}{cn en:Str}{TE:Addr}{b0:Stmt}{suite:List Stmt}{j:Nat}{th:TS}{np hpos pos:Pos}(r:PBd X body tb)(hg:Gl X cn)(hm:X.mg cn=some (.ref TE))(hTE:cR5 X.K TE)
  (hN:X.N.Nodup) (hj:X.N[j]? = some en) (hen:X.env.scope.names.lookup en=some .local) (p:X.stack=X.env::X.outer) (hfr:X.env.frame=some X.env.locals) (hh:∀e,PSs (X.markd e) (b0::suite) th) (hdb:(cn==("__debug__" : Str))=false:=by decide) :
  PS X (.Try body [.ExceptHandler (some (.Name cn np)) (some en) (b0::suite) hpos] [] [] pos) (cY8 X.K TE tb j th):=by
 refine⟨?_⟩;intro Q s σ H D I h;refine wpAny_Try_except (wpAny_mono (r.run Q s σ H D _ I h) (λf s1 q=>?_) (λe s1 hx=>?_))
 .cases f with
  | next=>exact wpAny_execs_nil q
  | ret v=>exact q
  | brk=>exact q
  | cont=>exact q
 obtain⟨s0,H0,I0,x,cls,H1,R,rfl,os,U,un,hok,F,D0,C,rfl,hC,hsub,hth⟩:=hx;have ex:H1 x=none:=by obtain⟨_,_,_,_,_,_,_,_,n3,_⟩:=F;exact n3
 have n0:s0.heap.get? x=none:=by obtain⟨_,_,_,_,_,_,n1,_⟩:=F;exact n1
 have J1:Inv X Q σ H1 s1:=I0.call' os un hok U (λb z=>absurd z (by simp))
 have fr:X.A.frames=some (X.env::X.outer):=by rw[<- p];exact I0.ok.frames
 have stk:∀{s':Shared} {σ':St} {H':Hp},Inv X Q σ' H' s'->s'.heap.FunFrames X.base (X.env::X.outer):=λJ=>by rw[<- p];exact J.stack
 rw[p]at un;have fsn:∀b∈frs (X.env::X.outer),H1 b=none:=λb r=>J1.stkFree b (by rw[p];exact r)
 refine bS1 (P:=X.prog) (w:=X.w) fr hfr (stk J1) F D0 (λb o e=>un.there b o e (by simp)) hok λh2 B hB mv F2 D2=>?_
 have un2:=cM0 un (λb r=>(hB b r).1) mv.k mv.s
 have M:=bP9 hok fsn (λb r=>(hB b r).2) mv.k
 have J2:Inv X Q σ H1 {s1 with heap:=h2}:=I0.call' (s':={s1 with heap:=h2}) os (by rw[p];exact un2) M U (λb z=>absurd z (by simp))
 refine wpAny_handleBy_cons (codeAny_handlers_test (aB7 (X:=X.markd (.ref x)) (J2.markd (.ref x)) hg hm ?_ hdb)) (by intro q;cases q)
 obtain⟨bm,N,nm,qn,bs,hdct,sn,sub,ab,col,dd,k0,k1,k2,k3,k5,o1,o4⟩:=hC _ J2.kIn;obtain⟨bm',N',nm',qn',bs',hdct',sn',sub',ab',col',dd',j0,j1,j2,j3,j5,o1',o4'⟩:=hTE _ J2.kIn;have hox:∃Y vs,h2.get? x=some Y/\Y.cls=.ref C/\Y.data=.fields vs:=by
  obtain⟨_,Y,vs,_,_,_,_,_,_,_,e1,e2,e3,_⟩:=F2;exact⟨Y,vs,e1,e2.1,e3⟩
 obtain⟨Y,vse,eo,eoc,eod⟩:=hox;refine aM5 o1 o1' eo eoc (o4'.hasType PySem.F.excBase_ValueError.hasBase) (cB9 J2.kIn o1 hsub) ?_;refine codeAny_handlers_suite_as ?_;refine bQ0 (P:=X.prog) (w:=X.w) (stk J2) F2 D2 (λb o e=>un2.there b o e (by simp)) M λh3 B3 hB3 mv3 F3 D3=>?_
 have y:=cM0 un2 (λb r=>(hB3 b r).1) mv3.k mv3.s
 have hok3:=bP9 M fsn (λb r=>(hB3 b r).2) mv3.k
 obtain⟨oe',vse',eo',eoc',eod',edd'⟩:∃Y vs,h3.get? x=some Y/\Y.cls=.ref C/\Y.data=.fields vs/\Y.dict=R:=by
  obtain⟨_,Y,vs,_,_,_,_,_,_,_,e1,e2,e3,_⟩:=F3;obtain⟨o',q1,q2⟩:=D3;rw[e1]at q1;cases q1;exact⟨Y,vs,e1,e2.1,e3,q2⟩
 have un4:Un (frs (X.env::X.outer)) [] H0 (upd H1 x (excD x C R)) s0.heap h3:=⟨y.keep,y.slot,λb o e n hx=>by
  rw[B8 (λz=>by rw[z,n0]at e;cases e)];exact y.free b o e n hx,y.there,λb xs e=>by
  rw[B8 (λz=>by have:=y.tups b xs e;rw[z,ex]at this;cases this)];exact y.tups b xs e,λb o u e=>by
  rw[B8 (λz=>by have:=y.frzs b o u e;rw[z,ex]at this;cases this)];exact y.frzs b o u e,λb ps e=>by
  obtain⟨more,q⟩:=y.tbls b ps e;exact⟨more,by rw[B8 (λz=>by rw[z,ex]at q;cases q)];exact q⟩⟩
 have hok4:HOk X.prog X.w (upd H1 x (excD x C R)) h3:=λb u e=>by
  by_cases r:b=x
  .subst r;rw[C2]at e;cases e;exact cU7 eo' eoc' eod' edd'
  .rw[B8 r]at e;exact(hok3 b u e).stay (λ_ _ _ q=>q) (λc q=>by rw[B8 (D8 q ex)];exact q) λc xs q=>by rw[B8 (D8 q ex)];exact q
 have J4:Inv X Q σ (upd H1 x (excD x C R)) {s1 with heap:=h3}:=I0.call' (s':={s1 with heap:=h3}) os (by rw[p];exact un4) hok4 U (λb z=>absurd z (by simp))
 refine aH5 (X:=X.markd (.ref x)) (v:=.ref x) (J4.markd (.ref x)) hN hj (.inl hen) rfl (λs4 J5=>?_) (.inr hen)
 refine wpAny_mono (hh (.ref x) Q s4 _ _ _ J5 (hth x ex)) (λf s5 q=>?_) λ_ _ z=>False.elim z
 cases f with
 | ret v=>obtain⟨_,_,_,_,_,z⟩:=q;exact False.elim z
 | brk=>obtain⟨_,_,_,z⟩:=q;exact False.elim z
 | cont=>obtain⟨_,_,_,z⟩:=q;exact False.elim z
 | next=>
  obtain⟨σ',H',J6,q⟩:=q;have J7:Inv X Q σ' H' s5:=J6.unmark I.ok;obtain⟨m,hn,hl⟩:=id J7.loc;exact wpAny_nameGoes_keeps hen hn (by rw[I.ok.kind];rfl) λh' v hns hsb=>⟨_,H',J7.unbind hN hj hn hl hns hsb,q⟩
end
section
variable {K:Frag}{C TB f N:Addr}{nm qn:Str}{bs:AH}{hdct:Bool}{sn:AJ}{sub:AH}{ab:Bool}{col:Option Bool}{dd:AL}{k0 k1 k2 k3 k5:Option Value}
theorem aZ1 (y:PySem.W.excIn K C bmV "ValueError.__new__" = true):cR5 K C:=λh X=>by
 obtain⟨e,N,nm,qn,bs,hdct,sn,sub,ab,col,dd,k0,k1,k2,k3,k5,r,w,k,j,z⟩:=aZ3 X y;exact⟨e,N,nm,qn,bs,hdct,sn,sub,ab,col,dd,k0,k1,k2,k3,k5,w,z⟩
end
structure RoomU (k:Nat)(A:Around):Prop where
 dp:A.depth+3*k+5<recursionLimit
 un:A.units+16*k+200<cLine
theorem Room.u {k:Nat}{A:Around}(r:Room k A):RoomU k A:=⟨r.dp,r.un⟩
theorem RoomU.mark {k:Nat}{A:Around}{e:Option Value}(r:RoomU k A):RoomU k (A.mark e):=⟨r.dp,r.un⟩
theorem RoomU.mono {j k:Nat}{A:Around}(r:RoomU k A)(h:j<=k):RoomU j A:=⟨by have:=r.dp;lia,by have:=r.un;lia⟩
theorem RoomU.deeper {k:Nat}{A:Around}(r:RoomU (k+1) A)(env:Env):RoomU k (A.deeper env):=
 ⟨by have:=r.dp;show A.depth+1+3*k+5<_;lia,by have:=r.un;show A.units+3+16*k+200<_;lia⟩
structure bW9 (P:Program)(w:World)(K:Frag)(mg:Str->Option Value)(base:Heap)(k:Nat)(f:Addr)(fd:FuncData)(ps:AJ)(sp:Sp):Prop where
 len:∀vs H Q E,sp vs H Q E->vs.length=ps.length
 run:∀(A:Around) (outer:List Env) (s:Shared) (H:Hp) (args:Args) (us:AH) (vs:List V) (Q:VK) (E:XK),RoomU k A->cC2 P w K mg base A outer s H->BindsTo s fd args (ps.zip us)->Vals vs us->sp vs H Q E ->
  codeAny (model P w) A (.call (.ref f) args) (CR CX0 outer P w H s Q E) s
abbrev cxU (P:Program)(w:World)(K:Frag)(mg:Str->Option Value)(base:Heap)(N:AJ)(qual:Str)(scope:Scope)(f:Addr)(cd:Value)(A:Around)(outer:List Env)(s:Shared)(H:Hp)(E:XK):Cx:=
 {aT1 CX0 P w K mg base N qual scope f cd A outer s H E with calm:=false,xe:=λ_ _=>False}
section
variable {P:Program}{w:World}{K:Frag}{mg:Str->Option Value}{base:Heap}
theorem Fun.okU {x qual:Str}{st:Stmt}{f:Addr}{fd:FuncData}{N ps:AJ}{k:Nat}{sp:Sp}(F:Fun K x qual st f fd)(S:D9 N ps (B2 st))(len:∀vs H Q E,sp vs H Q E->vs.length=ps.length)
  (p:∀(cdv:Value) (A:Around) (outer:List Env) (s:Shared) (H:Hp) (vs:List V) (Q:VK) (E:XK),RoomU k (A.deeper (envOfC qual (B2 st) s.heap.objs.size f cdv))->sp vs H Q E ->
   ∃t,PSs (cxU P w K mg base N qual (B2 st) f cdv A outer s H E) (l5 st) t/\t {nx:=λ_ H'=>Q .non H',rt:=Q} (R5 N vs) H):bW9 P w K mg base (k+1) f fd ps sp:=by
 obtain⟨oc,od,kV,doc,pm,an,cdv,ct,osl,rfl,lk,R⟩:=F.ex;refine⟨len,λA outer s H args us vs Q E hr c hb r U=>?_⟩
 have hl:=len _ _ _ _ U
 have KX:K.In s.heap:=c.mod.kin.keeps λb o e=>(c.bs b o e).1
 have D:s.heap.NoLimit:=c.mod.nolimit.keeps λb o e=>(c.bs b o e).1
 have m:∀y∈ps.zip us,(B2 st).names.lookup y.1=some .local\/((B2 st).names.lookup y.1=some .cell/\((cellsFrom (s.heap.objs.size+1) (B2 st).names []).lookup y.1).isSome=true):=λ⟨n,v⟩ hy=>by
  rcases S.par n (List.of_mem_zip hy).1 with q | q
  .exact .inl q
  .exact .inr ⟨q,PySem.W.cellsFrom_some _ _ _ (.inl q)⟩
 refine codeAny_call_function (by have:=hr.dp;lia) (KX _ _ lk) rfl S.co S.gen rfl (PySem.W.codeRec_of KX R) (hb _ _ _ _ ?_)
 refine wpAny_newFunctionEnv_cells S.kind m λenv he s1 x=>?_
 subst he;refine⟨D.keeps x.toInCall.keep,codeAny_func ?_⟩;obtain⟨t,ht,hq⟩:=p cdv A outer s H vs Q E (hr.deeper _) U;have j:=aW1 (CX:=CX0) (A:={A with handled:=none}) (qual:=qual) (f:=f) (cd:=cdv) (E:=E) S rfl (⟨c.frames,c.mod,c.bs,c.bsz,c.funs,c.frf,c.hok,c.bare⟩:cC2 P w K mg base {A with handled:=none} outer s H) hl r x
 have I:Inv (cxU P w K mg base N qual (B2 st) f cdv A outer s H E) [] (R5 N vs) H s1:=
  ⟨⟨j.ok.mod,j.ok.kind,j.ok.glob,j.ok.blt,j.ok.above,j.ok.inj,j.ok.has,j.ok.cab,(λz=>nomatch z),Around.frames_deeper c.frames,j.ok.stk,j.ok.exf,j.ok.bs,j.ok.bsz,j.ok.noex,j.ok.exfs,j.ok.funs,j.ok.frf⟩,j.os,j.bare,j.base,j.loc,j.cell,j.free,j.freeC,j.pin,j.hok,j.len⟩
 refine wpAny_mono (ht [] s1 (R5 N vs) H _ I hq) (λfl s' Y=>?_) λe s' Y=>False.elim Y
 have X:∀{M:St} {H':Hp} {v:V} {u:Value},Inv (cxU P w K mg base N qual (B2 st) f cdv A outer s H E) [] M H' s'->RelV v u->Q v H'->CE outer P w H s Q u s':=
  λ{M H' v u} J B q=>⟨v,H',J.os,J.bare,J.base,J.hok,B,q⟩
 cases fl with
 | ret u=>
  obtain⟨v,M,H',J,B,q⟩:=Y;exact X J B q
 | next=>
  obtain⟨M,H',J,q⟩:=Y;exact X (v:=V.non) (u:=Value.none) J rfl q
 | brk=>
  obtain⟨_,_,_,q⟩:=Y;exact False.elim q
 | cont=>
  obtain⟨_,_,_,q⟩:=Y;exact False.elim q
end
section
variable {X:Cx}{k:Nat}{f:Addr}{fd:FuncData}{ps:AJ}{sp:Sp}{dvs:List V}{ds:AH}{x:Str}{p pos:Pos}{e:Expr}{es:AN}{t:TA}
theorem cI6 (F:bW9 X.prog X.w X.K X.mg X.base k f fd ps sp)(hr:RoomU k X.A)(B:Gl X x)(hm:X.mg x=some (.ref f))(P:PySem.W.keepIn X.K (.ref f)=true)(N:Binds X.K fd ps ds)(R:Vals dvs ds)
  (M:PA X (e::es) t) (c:(x==("__debug__" : Str))=false:=by decide) (D:starEach (e::es) X.env=(false,eval e X.env)::starEach es X.env:=by rfl) (m:(backTo pos (starEach es X.env)).any (·.1)=false:=by rfl) :
  PE X (.Call (.Name x p) (e::es) [] pos) (X9 sp dvs E0 t):=by
 refine⟨?_⟩;intro J s σ H Q I h;refine wpAny_Call_Name_kw (aB7 I B hm ?_ c);refine PySem.W.callWith_K (h₀:=X.base) I.ok.mod.kin P (thn (M pos J s σ H _ I h) λz U ⟨vs,H1,j,r,q⟩=>⟨j.kIn,?_⟩) D m
 have Y:Vals (vs++dvs) (z++ds):=r.append R
 have hl:(z++ds).length=ps.length:=by rw[<- Y.length];exact F.len _ _ _ _ q
 refine wpAny_call (codeAny_mono (F.run X.A X.stack U H1 ⟨z,[]⟩ (z++ds) (vs++dvs) Q E0 hr j.env0 (N U z j.kIn hl) Y q) λr s' y=>?_)
 cases r with
 | error e=>exact False.elim y
 | ok fl=>
  cases fl with
  | ret u=>exact j.after y
  | next=>exact False.elim y
  | brk=>exact False.elim y
  | cont=>exact False.elim y
end
section
variable {prog:Program}{w:World}{A:Around}{E:Dz}{h:Heap}{g:Array GenState}{d:Drawn}{t:Nat}{os:OsState}{a C:Addr}{o:Obj}{K:Frag}
theorem bO9 {R:Result->Shared->Prop}(X:K.In h)(r:h.get? a=some o)(z:o.cls=.ref C)(y:PySem.W.subIn K (.ref C) (.type "object")=some true)(j:R (.ok (.ret (.ref C))) ⟨h,g,d,t,os⟩) :
  codeAny (model prog w) A (.call (.builtin "getset_descriptor.__get__") ⟨[.builtin "object.__class__",.ref a,.ref C],[]⟩) R ⟨h,g,d,t,os⟩:=by
 have e:(⟨h,g,d,t,os⟩:Shared).TypeIs (.builtin "object.__class__") "getset_descriptor" := F.typeOf_object_class
 have k:PySem.W.Looks (model prog w) h (isSubtype (.ref C) (.type (".".intercalate ("object.__class__".cutAt '.').dropLast))) true:=by
  rw[F.owner_object_class];exact PySem.W.looks_subIn X y
 refine codeAny_call_builtin F.slot_gs_get.plain F.entry_gs_get (F.slot_gs_get.check _ _ _ _ _ _ _ _ e (F.args_gs_get _ _ _) ?_)
 repeat (any_goals (first | assumption | (with_reducible refine wpAny_loadPart_at r ?_;rw[z]) | with_reducible refine k.at ?_ | wp_step))
 refine⟨Code.quiet_builtin _ (by decide +kernel),codeAny_builtin F.entry_object_class ?_⟩
 repeat (any_goals (first | assumption | (with_reducible refine wpAny_loadPart_at r ?_;rw[z]) | wp_step))
structure XAt (K:Frag)(C:Addr):Prop where
 ob:PySem.W.subIn K (.ref C) (.type "object")=some true
 be:PySem.W.subIn K (.ref C) (.type "BaseException")=some true
 ga:PySem.W.findIn K (.ref C) "__getattribute__" = some (some (.builtin "BaseException.__getattribute__"))
 gt:PySem.W.findIn K (.ref C) "__getattr__" = some none
 cl:PySem.W.findIn K (.ref C) "__class__" = some (some (.builtin "object.__class__"))
theorem bG6 {tk:Tok}{Q:Fin->Shared->Prop}(X:K.In h)(e:XAt K C)(z:h.get? a=some o)(y:o.cls=.ref C)(q:Q (.done (.ret (.ref C))) ⟨h,g,d,t,os⟩) :
  wpAny (model prog w) A (Builtin.«object.__getattribute__» ⟨[.ref a,.str "__class__" tk],[]⟩) Q E ⟨h,g,d,t,os⟩:=by
 have k:(⟨h,g,d,t,os⟩:Shared).TypeIs (.builtin "object.__class__") "getset_descriptor" := F.typeOf_object_class
 have j:=F.typeOf_object_class
 have c:=F.slot_gs_get.lookup
 have p:=F.slot_gs_set.lookup
 have r:=PySem.W.looks_findIn (M:=model prog w) X e.cl
 repeat (any_goals (first | assumption | (with_reducible refine wpAny_loadPart_at z ?_;rw[y]) | with_reducible refine r.at ?_ | wp_step))
 refine bO9 X z y e.ob ?_
 repeat (any_goals (first | assumption | wp_step))
theorem cB1 {M:Model}{nameV:Value}{Q:Unit->Shared->Prop}(X:K.In h)(z:XAt K C)(c:h.get? a=some o)(r:o.cls=.ref C)(j:Q () ⟨h,g,d,t,os⟩):wpAny M A (checkBuiltinCall "BaseException.__getattribute__" ⟨[.ref a,nameV],[]⟩) Q E ⟨h,g,d,t,os⟩:=by
 have k:builtinKind "BaseException.__getattribute__" = some .slot:=by decide +kernel
 have e:splitId "BaseException.__getattribute__" = some ("BaseException", "__getattribute__"):=by decide +kernel
 have y:=PySem.W.looks_subIn (M:=M) X z.be
 have p:=F.args_bexc_ga (.ref a) nameV
 simp only[checkBuiltinCall,k,e];refine Aa ?_
 .unfold isInstance
  repeat (first | (with_reducible refine wpAny_loadPart_at c ?_;rw[r]) | with_reducible refine y.at ?_ | wp_step)
  exact j
theorem bZ2 {tk:Tok}{fill expr:Bool}{Q:Dz}(X:K.In h)(e:XAt K C)(z:h.get? a=some o)(y:o.cls=.ref C)(p:Q (.ref C) ⟨h,g,d,t,os⟩) :
  wpAny (model prog w) A (getAttrBy (.ref a) (.str "__class__" tk) fill expr) Q E ⟨h,g,d,t,os⟩:=by
 have f3:=F.excAttr_ValueError.ga.bind (.ref a)
 have j:(expr&&onTheHeap (Value.builtin "BaseException.__getattribute__"))=false:=by cases expr <;> rfl
 have r:(Value.builtin "BaseException.__getattribute__" == Value.builtin "object.__getattribute__")=false:=by decide +kernel
 have c:(onTheHeap (Value.ref C)&&Value.builtin "BaseException.__getattribute__" == Value.builtin "object.__getattribute__")=false:=by rw[r];rfl
 have k:=PySem.W.looks_findIn (M:=model prog w) X e.ga
 have L2:=PySem.W.looks_findIn (M:=model prog w) X e.gt
 repeat (any_goals (first | assumption | (with_reducible refine wpAny_loadPart_at z ?_;rw[y]) | with_reducible refine k.at ?_ | with_reducible refine L2.at ?_ | wp_step))
 refine codeAny_call_builtin F.excAttr_ValueError.ga.plain F.entry_bexc_ga (cB1 X e z y (bG6 X e z y ?_))
 repeat (any_goals (first | assumption | wp_step))
theorem bI1 {Q:Option Value->Shared->Prop}(X:K.In h)(e:XAt K C)(z:h.get? a=some o)(y:o.cls=.ref C)(r:Q (some (.ref C)) ⟨h,g,d,t+1,os⟩):wpAny (model prog w) A (getAttr? (.ref a) "__class__") Q E ⟨h,g,d,t,os⟩:=by
 unfold getAttr? getAttrBy?
 repeat (any_goals (first | assumption | with_reducible apply bZ2 X e z y | wp_step))
theorem aL5 {c:Value}{b:Bool}{dep:Int}{tk:Tok}{Q:Fin->Shared->Prop}(X:K.In h)(M:XAt K C)(U:h.get? a=some o)(Y:o.cls=.ref C)(s:PySem.W.Looks (model prog w) h (typeOf c) (.type "type"))(j:PySem.W.Looks (model prog w) h (isType c) true)(r:PySem.W.Looks (model prog w) h (isType (.ref C)) true)
  (y:PySem.W.Looks (model prog w) h (isSubtype (.ref C) c) b) (p:(Value.ref C==c)=true->b=true) (z:∀tk',Q (.done (.ret (.bool b))) ⟨h,g,d,tk',os⟩) :
  wpAny (model prog w) A (Builtin.«isinstance.nested» ⟨[.ref a,c,.int dep tk],[]⟩) Q E ⟨h,g,d,t,os⟩:=by
 have m:PySem.W.Looks (model prog w) h (typeOf (.ref a)) (.ref C):=by
  intro N D R F k q;unfold typeOf;exact Aa (wpAny_loadPart (k _ _ U) (Ae (by rw[Y];exact q)))
 have J:PySem.W.Looks (model prog w) h (isInstance (.ref a) c) b:=m.andThen y
 unfold Builtin.«isinstance.nested»;refine Aa (m.at ?_);by_cases e:(Value.ref C==c)=true
 .have:=p e
  subst this;rw[Ac e];refine Aa (wpAny_rule ?_);exact Ae (z t)
 .rw[Ab e];refine Aa (s.at ?_);rw[Ac (by decide)]
  k_delta "plainIsInstance"
  refine Aa (Aa (j.at ?_));simp only[Bool.not_true,Bx,if_false];refine Aa (J.at ?_);cases b with
  | true=>
   simp only[if_true];first
    | exact Ae (Ae (z _))
    | exact Ae (z _)
    | exact Aa (Ae (Ae (z _)))
  | false=>
   simp only[Bx,if_false];refine Aa (bI1 X M U Y ?_);refine Aa (r.at ?_);simp only[Bool.not_true,Bx,if_false];refine Aa (wpAny_rule ?_);refine y.at ?_;first
    | exact Ae (z _)
    | exact Ae (Ae (z _))
    | exact Aa (Ae (Ae (z _)))
end
structure XCl (K:Frag)(D:Addr):Prop where
 cls:(PySem.W.clsIn K D).isSome=true
 ty:PySem.W.typeIn K (.ref D)=some (.type "type")
theorem XCl.isType {K:Frag}{D:Addr}(x:XCl K D){M:Model}{h:Heap}(X:K.In h):PySem.W.Looks M h (PySem.isType (.ref D)) true:=by
 have e:=x.cls
 unfold PySem.W.clsIn at e;split at e
 .rename_i c' d' cd' sl' ho;intro y z w r k q;unfold PySem.isType loadHead;exact Aa (wpAny_loadPart (k _ _ (X _ _ ho)) (Ae q))
 .cases e
def XIs (K:Frag)(C:Addr):V->Bool->Prop
 | .ref D,b=>XCl K D/\PySem.W.subIn K (.ref C) (.ref D)=some b/\(D=C->b=true)
 | .ty T,b=>typeOf (.type T)=pure (.type "type")/\PySem.W.subIn K (.ref C) (.type T)=some b
 | _,_=>False
section
variable {prog:Program}{w:World}{A:Around}{E:Dz}{a C:Addr}{K:Frag}
def aM0 (K:Frag)(a C:Addr)(s:Shared):Prop:=K.In s.heap/\∃o,s.heap.get? a=some o/\o.cls=.ref C
theorem aI6 {y:V}{u:Value}{b:Bool}(p:XAt K C)(q:XCl K C)(r:RelV y u)(j:XIs K C y b):Answers (aM0 K a C) (.ref a) u b:=λJ Q=>by
 intro prog w A R s M;obtain⟨⟨X,o,U,m⟩,Y⟩:=M;obtain⟨h,g,d,t,os⟩:=s;cases y with
 | ref D=>
  cases r
  obtain⟨k,c,N⟩:=j;exact aL5 X p U m (PySem.W.looks_typeIn X k.ty) (k.isType X) (q.isType X) (PySem.W.looks_subIn X c) (λe=>N (Value.ref.inj (beq_iff_eq.mp e)).symm) λz=>Y z
 | ty T=>
  cases r
  obtain⟨k,c⟩:=j;exact aL5 X p U m (PySem.W.Looks.of_pure k) (PySem.W.Looks.of_pure rfl) (q.isType X) (PySem.W.looks_subIn X c) (λe=>by cases beq_iff_eq.mp e) λz=>Y z
 | _=>exact False.elim j
theorem bR8 {cs:AH}{vs:List Bool}{tp:Addr}{tk:Tok}{s:Shared}{Q:Fin->Shared->Prop}(M:aM0 K a C s)(k:IsTup s.heap tp cs.toArray)(e:tp≠C)(J:AnswersAll (aM0 K a C) (.ref a) cs vs)
  (p:∀tk',Q (.done (.ret (.bool (vs.any id)))) {s with toks:=tk'}):wpAny (model prog w) A (Builtin.«isinstance.nested» ⟨[.ref a,.ref tp,.int 0 tk],[]⟩) Q E s:=by
 obtain⟨X,o,Y,j⟩:=M;obtain⟨h,g,d,t,os⟩:=s;obtain⟨R,N,y,n,r⟩:=k;have U:(⟨h,g,d,t,os⟩:Shared).TypeIs (.ref tp) "tuple" := ⟨_,N,y⟩;have f1:=F.isi_sub_tuple;have c:(Value.ref C==Value.ref tp)=false:=by
  cases q:(Value.ref C==Value.ref tp) with
  | false=>rfl
  | true=>exact absurd (Value.ref.inj (beq_iff_eq.mp q)).symm e
 repeat (any_goals (first | assumption | (with_reducible refine wpAny_loadPart_at Y ?_;rw[j]) | wp_step))
 rw[r];refine Ae ?_;refine Aa ?_;simp only[Option.getD_some];rw[<- Array.forIn_toList,List.toList_toArray];refine isinstance_items (dep:=0) (P:=aM0 K a C) (λs tk z=>z) cs vs _ _ J ⟨X,o,Y,j⟩ λtk'=>?_
 cases m:vs.any id with
 | true=>
  simp only[if_true]
  repeat (any_goals (first | assumption | wp_step))
  exact m▸p tk'
 | false=>
  simp only[Bx,if_false]
  repeat (any_goals (first | assumption | wp_step))
  exact m▸p tk'
end
def cS0 (K:Frag)(C:Addr):List V->List Bool->Prop
 | [],[]=>True
 | y::ys,b::bs=>XIs K C y b/\cS0 K C ys bs
 | _,_=>False
theorem bI6 {K:Frag}{a C:Addr}(e:XAt K C)(w:XCl K C):∀{ys:List V} {us:AH} {bs:List Bool},Vals ys us->cS0 K C ys bs->AnswersAll (aM0 K a C) (.ref a) us bs
 | [],_,[],.nil,_=>trivial
 | y::ys,_,b::bs,.cons r t,⟨h1,h2⟩=>⟨aI6 e w r h1,bI6 e w t h2⟩
 | [],_,_::_,.nil,z=>z.elim
 | _::_,_,[],.cons _ _,z=>z.elim
end L2
namespace LV
open PySem PySem.Spec PyProof.Rows L2
section
variable {K:Frag}{B:Hp}{ρ ρ':List Sl}{m:Bool}{t ta tb:TE}{d d':PyData}{ds es:AG}
def WB (K:Frag)(B:Hp)(t:TS)(ρ:List Sl)(R:AE):Prop:=
 ∀(S:Addr->Prop) (D:aI9) (σ:L2.St) (H:Hp) (o:Nat->AM),Env K S B H σ ρ o->Sat K S B R D->t D σ H
theorem W.wb {t:TS}{R:AE}(h:W K t ρ R):WB K B t ρ R:=λS D σ H o I s=>h S B D σ H o I s
theorem aL0 {t u:TS}{R:AE}(h:WB K B t ρ {R with nx:=λρ'=>WB K B u ρ' R}):WB K B (cU6 t u) ρ R:=λS D σ H o I s=>
 h S {D with nx:=u D} σ H o I ⟨λρ' r e z y w=>w S D r e z y s,s.rt,s.rl,s.bk,s.ct⟩
theorem dQ9 {c:TT}{t u:TS}{b:Bool}{R:AE}(h:T K c ρ b)(h1:b=true->WB K B t ρ R)(w:b=false->WB K B u ρ R):WB K B (cS5 c t u) ρ R:=λS D σ H o I s=>h S B σ H o I _ λe y=>by
 cases b with
 | true=>exact h1 rfl S D σ e o (I.grow y) s
 | false=>exact w rfl S D σ e o (I.grow y) s
theorem Env.unset {S:Addr->Prop}{H:Hp}{σ:L2.St}{o:Nat->AM}(I:Env K S B H σ ρ o)(j:Nat):Env K S B H (σ.set j none) (ρ.set j .no) o:=by
 have w:∀{i:Nat} {x:Sl},x≠.no->(ρ.set j .no)[i]? = some x->j≠i/\ρ[i]? = some x:=λ{i x} q h=>by
  rw[List.getElem?_set]at h;by_cases c:j=i
  .rw[Ac c]at h;split at h
   .exact absurd (Ab4 h).symm q
   .cases h
  .rw[Ab c]at h;exact⟨c,h⟩
 have no:∀{x:Sl},x.os=true->x≠.no:=λh e=>by rw[e]at h;cases h
 have Y:∀b,D4 (ρ.set j .no) o S b->D4 ρ o S b:=λb z=>aG1 (x:=.no) rfl z
 have g:Same (hid (D4 ρ o S) H) (hid (D4 (ρ.set j .no) o S) H):=D5 (L2.Same.rf _) λb z _=>Y b z
 have s:∀{i:Nat},j≠i->(σ.set j none)[i]? = σ[i]? := λc=>Ad0 c
 refine⟨by simpa using I.len,I.base,I.sl,λi x h q b R=>I.new i x (w (no q) h).2 q b R,λi k x y h1 J X U b M N=>I.inj i k x y (w (no X) h1).2 (w (no U) J).2 X U b M N,λi ds h=>?_,λi d h=>?_,λi d h=>?_,λi t h=>?_⟩
 .obtain⟨c,h⟩:=w (λe=>by cases e) h
  obtain⟨p,Q,a,xs,b,r⟩:=I.own i ds h;exact⟨p,Q,by rw[s c];exact a,xs,b,r.mono g⟩
 .obtain⟨c,h⟩:=w (λe=>by cases e) h
  obtain⟨u,a,b⟩:=I.val i d h;exact⟨u,by rw[s c];exact a,b.mono g⟩
 .obtain⟨c,h⟩:=w (λe=>by cases e) h
  obtain⟨u,a,b⟩:=I.bor i d h;exact⟨u,by rw[s c];exact a,b⟩
 .obtain⟨c,h⟩:=w (λe=>by cases e) h
  obtain⟨n,u,a,b⟩:=I.tr i t h;exact⟨n,u,by rw[s c];exact a,b.mono g (L2.Same.rf _)⟩
end
end LV
namespace L2
open PySem PySem.Spec PyProof.Rows
abbrev KT (H:Hp):List (List Key×V)->List (List Key×Addr×Value)->Prop:=Paired λp q=>p.1=q.1/\H q.2.1=some (.tup (p.1.map kV))/\RelV p.2 q.2.2
abbrev VV:List (V×V)->List (Value×Value)->Prop:=Paired λp q=>RelV p.1 q.1/\RelV p.2 q.2
abbrev KvR:List (AF×Addr×V)->List (AF×Addr×Value)->Prop:=Paired (λp q=>p.1=q.1/\p.2.1=q.2.1/\RelV p.2.2 q.2.2)
end L2
namespace LV
open PySem L2
section
variable {K:Frag}{ρ:List Sl}{t:TE}
theorem dH8 {i:Nat}{R:AE}{x y:Int}(hi:ρ[i]? = some (.val (.int x)))(h:E K true t ρ (.int y))(k:R.nx (ρ.set i (.val (.int (x+y))))):W K (dO1 i t (ipI λi j=>i+j)) ρ R:=λS B D σ H o I s=>by
 obtain⟨v,w,z⟩:=I.val i _ hi;cases z;refine⟨_,w,h S B σ H o I _ λv e c r=>?_⟩
 cases r
 exact⟨_,_,rfl,rfl,s.nx _ _ e o ((I.grow c).set (m:=true) i (d:=.int (x+y)) (.int _)) k⟩
end
end LV
namespace L2
open PySem PySem.Spec PyProof.Rows
end L2
namespace LV
open PySem L2
end LV
namespace PySem
open PySem.Spec PyProof.Rows PySem.W
end PySem
namespace L2
open PySem PySem.Spec PyProof.Rows PySem.W
end L2
namespace PySem
open PySem.Spec PyProof.Rows
end PySem
namespace L2
open PySem PySem.Spec PyProof.Rows PySem.W
end L2
namespace LV
open PySem L2
end LV
namespace L2
open PySem PySem.Spec PyProof.Rows
end L2
namespace LV
open PySem PyProof.Rows L2
end LV
namespace L2
open PySem PySem.Spec PyProof.Rows
end L2
namespace LV
open PySem PySem.Spec PyProof.Rows L2
end LV
namespace PySem
open PySem.Spec PyProof.Rows PySem.W
end PySem
namespace L2
open PySem PySem.Spec PyProof.Rows PySem.W
end L2
namespace LV
open PySem L2
open Att PyProof.Rows PySem.Calls PySem.Spec PySem.W
section
variable {prog:Program}{w:World}{A:Around}{E:Dz}{s:Shared}
theorem bH9 {h₀:Heap}{L l:Addr}{m:Str->Option Value}{news:Eb}{vs:AH}{Q:Dz}(U:∀(Q':AH->Shared->Prop) (E':Dz),(∀h' tk,(∀b o,s.heap.get? b=some o->h'.get? b=some o)->Q' vs {s with heap:=h',toks:=tk})->wpAny (model prog w) A.in1 (collect (.ref l)) Q' E' s)
  (F:Fr h₀ L s.heap m) (N:News h₀ L s.heap news) (X:2<=vs.length) (r:vs.length<64)
  (h:∀D e1 h' tk,Fr h₀ L h' m->News h₀ L h' ((D,seqObj "list" #[] e1)::news)->(∀q∈news,q.1<D) ->
   wpAny (model prog w) A.in1.in1 (keyKind' vs.toArray) (λκ s'=>(kas_sort vs.length).kasWp (kas_ask prog w A.in1.in1 κ vs) (λp s''=>KasFin h₀ L m D e1 (p.toList.map λi=>vs.getD i Value.none) (λs3=>Q (.ref D) s3) s'') s') (λ_ _=>False) {s with heap:=h',toks:=tk}) :
  wpAny (model prog w) A (call (.builtin "sorted") [.ref l]) Q E s:=by
 refine Calls.call_function_entry kind_sorted plain_sorted entry_sorted (args_sorted1 _) ?_;unfold Builtin.«sorted»;refine Aa (m:=checkCount "sorted" 1 1 _) (Ae ?_);refine Aa (U _ _ λg tk e=>?_)
 refine Aa (wpAny_newList ?_ (by rw[Cp];lia))
 have z:(g.push (seqObj "list" vs.toArray 0)).get? g.objs.size=some (seqObj "list" vs.toArray 0):=Ac3 _ rfl
 have keep:∀b o,s.heap.get? b=some o->(g.push (seqObj "list" vs.toArray 0)).get? b=some o:=λb o q=>Aa6 _ (e b o q)
 have y:L<g.objs.size:=by
  obtain⟨o,_,_,ho,_⟩:=F.ns;exact Ab3 (e _ _ ho)
 refine Aa (Bz (Cq slot_list_sort ⟨_,z,rfl⟩ entry_list_sort ?body (args_list_sort _)))
 case body=>
  refine kat_list_sort (s:={s with heap:=g.push (seqObj "list" vs.toArray 0),toks:=tk})
   (F.kept keep) (N.grown keep) z (Nat.ne_of_gt y) (Heap.get?_none_of_le (An F.above (Bw y)))
   (λp hp=>Ab9 (Ab3 (e _ _ (N p hp).1))) X r λe1 h' c Y=>?_
  refine wpAny_mono (h _ e1 h' tk c Y λq j=>Ab3 (e _ _ (N q j).1)) (λκ s' e=>?_) λ_ _ x=>x
  rw[kat_ask_eq rfl]at e ⊢;exact kas_wp_mono e λp s'' k=>k.mono λs3 j=>⟨_,rfl,Ae ⟨_,rfl,j⟩⟩
theorem bF7 {L l:Addr}{m:Str->Option Value}{vs:AH}{ts:AC}{Q:Dz}(hc:∀(Q':AH->Shared->Prop) (E':Dz),(∀h' tk,(∀b o,s.heap.get? b=some o->h'.get? b=some o)->Q' vs {s with heap:=h',toks:=tk})->wpAny (model prog w) A.in1 (collect (.ref l)) Q' E' s)
  (hL:s.heap.Ns L m) (ht:TupsAt s.heap vs ts) (X:∀a,Value.ref a∈vs->a≠L) (h2:2<=vs.length) (h64:vs.length<64)
  (h:∀h' tk D (p:AD) c,h'.Ns L m->(∀b o,b≠L->s.heap.get? b=some o->h'.get? b=some o)->s.heap.get? D=none->h'.get? D=some {cls:=.type "list",data:=.seq (p.map λi=>vs.getD i .none).toArray c}->p.Perm (List.range vs.length)->(p.map λi=>ts.getD i []).Pairwise F1->Q (.ref D) {s with heap:=h',toks:=tk}) :
  wpAny (model prog w) A (call (.builtin "sorted") [.ref l]) Q E s:=by
 have hlen:=ht.length
 refine bH9 hc (bR9 hL) aR0 h2 h64 λD e1 h' tk F' B hD=>?_
 have kp:∀b o,b≠L->s.heap.get? b=some o->h'.get? b=some o:=λb o hb e=>(B (b,o) (Ad4 _ (L4 hb (L7 _ _) e))).1
 have DL:D≠L:=(B _ Am).2.1
 have hDs:s.heap.get? D=none:=by
  cases e:s.heap.get? D with
  | none=>rfl
  | some o=>exact absurd (hD (D,o) (L4 DL (L7 _ _) e)) (Ad9 _)
 have y:TupsAt h' vs ts:=ht.keep λa its ha ⟨o,e,r⟩=>⟨o,kp a o (X a ha) e,r⟩
 obtain⟨fs,k1,k2,k3⟩:=y.kat;refine kat_kind (s:={s with heap:=h',toks:=tk}) k1 (by lia) (T:=.type "int") (λv hv=>?_) (by decide) ?_
 .obtain⟨i,t,rfl⟩:=k3 v hv;exact λA Q E s _ q=>wpAny_of_eq (show typeOf (Value.int i t)=pure (.type "int") from rfl) q
 have et:(Value.type "int" != Value.type "tuple")=true:=by decide
 rw[et];obtain⟨M,e0,hp,hs,ha⟩:=LS.bA8 (bX1 λi=>ts.getD i []) (N:=vs.length) (by lia)
 refine LS.bW4 (P:=λi=>i<vs.length) (lt:=λi j=>HT.M7 (ts.getD i []) (ts.getD j [])) (λi j C hi hj hC=>?_) _ ha ?_
 .obtain⟨a,its,e,⟨o,h1,c1,n1,d1⟩,r1⟩:=y.get (i:=i) (by lia)
  obtain⟨a',J,e',⟨o',h1',c1',n1',d1'⟩,R⟩:=y.get (i:=j) (by lia)
  unfold kas_ask;rw[e,e'];refine kat_lt (s:={s with heap:=h',toks:=tk}) h1 d1 h1' d1' ?_
  have el:decide (its.size<J.size)=decide ((ts.getD i []).length<(ts.getD j []).length):=by
   have a1:=r1.length;have a2:=R.length
   simp only[Bl]at a1 a2;rw[a1,a2]
  rw[el];exact y9 0 r1 R hC
 .rw[e0];refine KasFin.intro F' B (.head λp hp z=>?_) λY c F k=>?_
  .have:=hD p hp
   rw[z]at this;exact absurd this (Ad9 _)
  .have kp2:∀b o,b≠L->s.heap.get? b=some o->Y.get? b=some o:=λb o hb e=>(k (b,o) (Ad4 _ (L4 hb (L7 _ _) e))).1
   have U:M.toList.Perm (List.range vs.length):=by simpa using(Array.perm_iff_toList_perm.mp hp)
   refine h Y tk D M.toList c F.ns kp2 hDs (k _ Am).1 U ?_;rw[Ae0,List.pairwise_iff_getElem];intro i j hi hj hij;have hz:M.toList.length=vs.length:=by rw[U.length_eq];simp
   have:=hs i j (Bw hij) (by lia)
   unfold LS.le at this;rw[LS.aI4,LS.aI4]at this;have hi':i<M.size:=by simpa using hi
   have hj':j<M.size:=by simpa using hj
   simp only[Bd hi',Bd hj',Option.getD_some]at this;unfold F1;simpa using this
end
end LV
namespace L2
open PySem PySem.Spec PySem.W PyProof.Rows
end L2
namespace L2
open PySem PySem.Spec PyProof.Rows
theorem dI6 {P:Program}{w:World}{X:Cx}:bG9 (CXd P w) X E0:=λ_ _ _ _ _ _ _ h=>by
 obtain⟨_,_,_,_,_,_,_,_,_,_,_,z⟩:=h;exact z.elim
section
variable {X:Cx}{f:Str}{ta tv:TE}{e:Expr}{pos:Pos}
def cH8 (K:Frag)(xs:List V)(H:Hp)(Q:VK):Prop:=∃a C d y,xs=[.ref a,y]/\H a=some (excD a C d)/\XAt K C/\XCl K C/\((∃b,XIs K C y b/\Q (.bl b) H)\/∃p ys bs,y=.ref p/\SqT K H p ys/\cS0 K C ys bs/\Q (.bl (bs.any id)) H)
theorem aB8 (K:Frag)(P:X.K=K:=by rfl):U3 X (.builtin "isinstance") (cH8 K):=by
 subst P;intro aA s σ H xs us Q I r h;obtain⟨a,C,d,y,rfl,ha,N,c,h⟩:=h;obtain⟨⟨o,vs,ho,U,_⟩,_,_⟩:=I.hok a _ ha;have k:aM0 X.K a C s:=⟨I.kIn,o,ho,U⟩;cases r with
 | cons r1 r2=>
  cases r2 with
  | cons F r4=>
   cases r4;cases r1
   rcases h with⟨b,hy,q⟩ | ⟨p,ys,bs,rfl,hp,M,q⟩
   .exact Ax (S:=λ_ R s=>aM0 X.K a C s/\∀w,R (.ok (.ret (.bool b))) {s with toks:=w}) (λ_ _ _ _ _ j=>isinstance_outer (aI6 N c F hy _ _ _ _ _ _ _ j) (by intro q;cases q)) ⟨k,λw=>⟨.bl b,H,I.tok _,rfl,q⟩⟩
   .cases F
    obtain⟨its,rv,B,_⟩:=I.tuple hp;have Y:p≠C:=λz=>by
     subst z;have m:=c.cls;unfold PySem.W.clsIn at m;split at m
     .rename_i c' d' cd' sl' ho';obtain⟨ot,D,_,n,J⟩:=B;rw[I.kIn _ _ ho']at D;cases D;cases J
     .cases m
    exact Ax (S:=λ_ R s=>(aM0 X.K a C s/\IsTup s.heap p its.toArray)/\∀w,R (.ok (.ret (.bool (bs.any id)))) {s with toks:=w}) (λ_ _ _ _ _ j=>isinstance_outer (bR8 j.1.1 j.1.2 Y (bI6 N c rv M) λw=>j.2 w) (by intro q;cases q)) ⟨⟨k,B⟩,λw=>⟨.bl _,H,I.tok _,rfl,q⟩⟩
end
end L2
namespace LV
open PySem PySem.Spec PyProof.Rows L2
section
variable {K:Frag}{H:Hp}
theorem cL5 {H':Hp}(h:∀a xs,Rd H a (.tup xs)->Rd H' a (.tup xs)){d:PyData}{v:V}(r:cO3 K H v d):cO3 K H' v d:=by
 cases d with
 | tuple ds=>
  obtain⟨a,xs,y,s,e⟩:=r;exact⟨a,xs,y,s.imp (h _ _) id,e⟩
 | _=>exact r
theorem cW9 {H':Hp}(h:∀a xs,Rd H a (.tup xs)->Rd H' a (.tup xs)){vs:List (Str×V)}{fs:List (Str×PyData)}(r:FdF K H vs fs):FdF K H' vs fs:=by
 unfold FdF at *;induction r with
 | nil=>exact .nil
 | cons a _ e=>exact .cons ⟨a.1,cL5 h a.2⟩ e
theorem cP5 {C:Addr}{fs:List (Str×PyData)}{v:V}(r:Rep K H v (xfD C fs)):∃a dd vs,v=.ref a/\H a=some (excD a C dd)/\XdA H vs dd/\FdF K H vs fs:=by
 unfold xfD at r;generalize w:(fs.map λx=>((PyData.str x.1,x.2):PyData×PyData))=L at r
 cases r with
 | dic _ _ z=>exact absurd z (by rename_i kvs;cases kvs <;> simp[dC0])
 | @exd a _ dd vs fs' e x r=>
  have y:fs'=fs:=by
   have inj:∀(u v:List (Str×PyData)),(u.map λx=>((PyData.str x.1,x.2):PyData×PyData))=(v.map λx=>(PyData.str x.1,x.2))->u=v:=λu=>by
    induction u with
    | nil=>intro v h;cases v <;> simp at h ⊢
    | cons c u k=>
     intro v h;cases v with
     | nil=>simp at h
     | cons j v=>
      simp only[Ac7,Cb,Dk,PyData.str.injEq]at h;rw[k v h.2,Prod.ext h.1.1 h.1.2]
   exact inj _ _ w.symm
  subst y;exact⟨a,dd,vs,rfl,e,x,r⟩
end
section
variable {K:Frag}{B:Hp}{ρ ρ':List Sl}{m:Bool}{t:TA}{ta tb:TE}{d d':PyData}{ds es:AG}
theorem cV3 {S:Addr->Prop}{H:Hp}{σ:L2.St}{o:Nat->AM}{x C:Addr}{dd:AL}{vs:List (Str×V)}{fs:List (Str×PyData)}(I:Env K S B H σ ρ o)(w:H x=some (L2.excD x C dd))(y:XdA H vs dd)(r:FdF K H vs fs):Rep K (hid (D4 ρ o S) H) (.ref x) (xfD C fs):=by
 refine .exd (d:=dd) (vs:=vs) (hid_some.mpr ⟨λz=>?_,w⟩) ?_ (cW9 (λ_ _ q=>i7 I.lists q) r)
 .obtain⟨u,e⟩:=I.lists x z;rw[w]at e;exact HM.nd (Ab4 e).symm
 .cases dd with
  | none=>exact y
  | some dx=>
   refine hid_some.mpr ⟨λz=>?_,y⟩
   obtain⟨u,e⟩:=I.lists dx z;have y:H dx=some (.xd vs):=y;rw[y]at e;cases u <;> cases e
theorem cD0 {y:V}{C:Addr}{fs:List (Str×PyData)}{b:Bool}(k:E K false ta ρ (xfD C fs))(w:XAt K C)(z:XCl K C)(j:XIs K C y b):E K m (tCB (cH8 K) (C0 ta (C0 (tC y) O1))) ρ (.bool b):=E.bor (E.imm (m:=false) λS B σ H o I Q q=>k S B σ H o I _ λv H1 c r=>by
 obtain⟨a,p,vs,rfl,e,x,r⟩:=cP5 r;exact⟨_,C,_,y,rfl,e,w,z,.inl ⟨b,j,q _ H1 c (.bl _)⟩⟩)
theorem bW1 {tc:TA}{ys:List V}{bs:List Bool}{C:Addr}{fs:List (Str×PyData)}(z:E K false ta ρ (xfD C fs))(y:XAt K C)(w:XCl K C)(k:∀(σ:L2.St) (H:Hp) (Q:List V->Hp->Prop),Q ys H->tc σ H Q)(c:cS0 K C ys bs)(j:ys.length<=sizeLine:=by decide):E K m (tCB (cH8 K) (C0 ta (C0 (aM6 tc) O1))) ρ (.bool (bs.any id)):=E.bor (E.imm (m:=false) λS B σ H o I Q q=>z S B σ H o I _ λv H1 s r=>by
 obtain⟨a,Y,vs,rfl,e,x,r⟩:=cP5 r;refine k _ _ _ ⟨j,λp hp=>?_⟩
 have g:=C9 (o:=.tup ys) hp
 exact⟨_,C,_,_,rfl,g _ _ e,y,w,.inr ⟨p,ys,bs,rfl,SqT.of C2,c,q _ _ (L2.Same.tr s g) (.bl _)⟩⟩)
end
end LV
namespace L2
open PySem PySem.Spec PyProof.Rows
end L2
set_option maxHeartbeats 4000000
namespace K40
open PySem L2 LV PyProof.Rows
theorem v6 {K:Frag}{pre:AG->PyData->Prop}{n:Nat}(h:∀ds d,pre ds d->ds.length=n):∀vs H Q E,spV K pre vs H Q E->vs.length=n:=λvs H Q E ⟨ds,S,d,_,r,p,_⟩=>by
 have e:=r.length
 rw[e];exact h ds d p
@[elab_as_elim] theorem us1 {M:AH->Prop} {us:AH} (hl:us.length=1) (h:∀y,M [y]):M us:=by match us,hl with | [y],_=>exact h _
@[elab_as_elim] theorem us2 {M:AH->Prop} {us:AH} (hl:us.length=2) (h:∀y w,M [y,w]):M us:=by match us,hl with | [y,w],_=>exact h _ _
@[elab_as_elim] theorem us3 {M:AH->Prop} {us:AH} (hl:us.length=3) (h:∀y w z,M [y,w,z]):M us:=by match us,hl with | [y,w,z],_=>exact h _ _ _
def top (i:Nat):Stmt:=PySem.Challenge.pw_threetrees_k40_all_arrows.main.body.getD i (.Pass ⟨0,0,0,0⟩)
abbrev o5:Stmt:=top 16
abbrev l8:Stmt:=top 17
abbrev bP0:Stmt:=top 18
abbrev P8:Stmt:=top 21
abbrev T2:Stmt:=top 22
abbrev aJ0:Stmt:=top 23
abbrev aA3:Stmt:=top 24
abbrev w5:Stmt:=top 26
abbrev aD4:Stmt:=top 27
abbrev bE8:Stmt:=top 28
abbrev aR5:Stmt:=top 29
abbrev p8:Stmt:=top 31
abbrev X1:Stmt:=top 33
abbrev t6:Stmt:=top 34
abbrev i6:Stmt:=top 35
abbrev t8:Stmt:=top 36
abbrev u7:Stmt:=top 37
abbrev i8:Stmt:=top 38
abbrev u6:Stmt:=top 39
abbrev W4:Stmt:=top 40
abbrev t4:Stmt:=top 41
abbrev aE2:Stmt:=top 42
abbrev W5:Stmt:=top 43
abbrev cN7:Stmt:=top 44
set_option genInjectivity false in
structure Ad where
 t9:Addr
 k9:FuncData
 l4:Addr
 k8:FuncData
 bP5:Addr
 bO4:FuncData
 Q2:Addr
 Q0:FuncData
 S8:Addr
 S7:FuncData
 aJ8:Addr
 aJ6:FuncData
 w6:Addr
 z0:FuncData
 y4:Addr
 aA0:FuncData
 aD8:Addr
 aF1:FuncData
 bG5:Addr
 bE2:FuncData
 aT4:Addr
 aT9:FuncData
 r9:Addr
 j4:FuncData
 V2:Addr
 V6:FuncData
 k7:Addr
 l9:FuncData
 m8:Addr
 m5:FuncData
 o9:Addr
 j6:FuncData
 p4:Addr
 o7:FuncData
 p3:Addr
 m6:FuncData
 l7:Addr
 t7:FuncData
 W6:Addr
 V7:FuncData
 u4:Addr
 u3:FuncData
 aE8:Addr
 aF0:FuncData
 V3:Addr
 V4:FuncData
 bH1:Addr
 aX5:FuncData
 G9:Addr
 M9:Addr
 T8:Addr
 T7:Addr
 v8:Addr
 N8:Addr
 P2:Addr
 N3:Addr
 T5:Addr
 P3:Addr
 D7:Addr
 P0:Addr
 F4:Addr
def Sb (K:Frag)(C:Addr)(L:AH)(B:List Bool):Prop:=∀x∈L.zip B,PySem.W.subIn K (.ref C) x.1=some x.2
theorem X6 {K:Frag}{C:Addr}{L:AH}{B:List Bool}{v:Value}{b:Bool}(h:Sb K C L B)(i:Nat)(e:(L.zip B)[i]? = some (v,b)):PySem.W.subIn K (.ref C) v=some b:=h _ (Az e)
theorem sb_mk {K:Frag}{C:Addr}{L:AH}{B:List Bool}(h:((L.zip B).all λx=>PySem.W.subIn K (.ref C) x.1==some x.2)=true):Sb K C L B:=λx e=>eq_of_beq (Ac9.mp h x e)
def sbs (a:Ad):AH:=[.ref a.G9,.ref a.M9,.ref a.T8,.ref a.T7,.ref a.v8,.ref a.N8,.ref a.P2,.ref a.N3,.ref a.T5,.ref a.P3,.ref a.D7,.ref a.P0,.ref a.F4,.type "ValueError"]
set_option genInjectivity false in
structure Tx (K:Frag)(mg:Str->Option Value)(a:Ad):Prop where
 aH0:Fun K "begun_with" "begun_with" o5 a.t9 a.k9
 bB6:mg "begun_with" = some (.ref a.t9)
 bH0:Binds K a.k9 ["ring", "first"] []
 p5:Fun K "ways_round" "ways_round" l8 a.l4 a.k8
 aH2:mg "ways_round" = some (.ref a.l4)
 aG2:Binds K a.k8 ["ring"] []
 bO0:Fun K "tied" "tied" bP0 a.bP5 a.bO4
 cM4:mg "tied" = some (.ref a.bP5)
 cG0:Binds K a.bO4 ["drawing", "p", "q"] []
 V9:Fun K "can_be_taken_off" "can_be_taken_off" P8 a.Q2 a.Q0
 aD6:mg "can_be_taken_off" = some (.ref a.Q2)
 aD3:Binds K a.Q0 ["drawing", "rim", "k"] []
 Z7:Fun K "next_taken_off" "next_taken_off" T2 a.S8 a.S7
 aK0:mg "next_taken_off" = some (.ref a.S8)
 aJ1:Binds K a.S7 ["drawing", "rim"] []
 aX2:Fun K "between" "between" aJ0 a.aJ8 a.aJ6
 cB8:mg "between" = some (.ref a.aJ8)
 cB4:Binds K a.aJ6 ["turn", "ahead", "behind"] []
 aL6:Fun K "taken_off" "taken_off" aA3 a.w6 a.z0
 bK8:mg "taken_off" = some (.ref a.w6)
 bM7:Binds K a.z0 ["drawing"] []
 aL7:Fun K "ring_ways" "ring_ways" w5 a.y4 a.aA0
 bI9:mg "ring_ways" = some (.ref a.y4)
 bK2:Binds K a.aA0 ["drawing", "ring"] []
 aE6:Fun K "go_round" "go_round" aD4 a.aD8 a.aF1
 aS9:mg "go_round" = some (.ref a.aD8)
 aS4:Binds K a.aF1 ["arrows", "ring"] []
 bY5:Fun K "rings" "rings" bE8 a.bG5 a.bE2
 cX2:mg "rings" = some (.ref a.bG5)
 cU0:Binds K a.bE2 ["drawing", "arrows"] []
 bM2:Fun K "turned" "turned" aR5 a.aT4 a.aT9
 cE0:mg "turned" = some (.ref a.aT4)
 cO7:Binds K a.aT9 ["drawing", "arrows", "ring"] []
 r6:Fun K "all_arrows" "all_arrows" p8 a.r9 a.j4
 aG5:mg "all_arrows" = some (.ref a.r9)
 aG6:Binds K a.j4 ["drawing", "most"] []
 M5:Fun K "_law_cell_at" "_law_cell_at" X1 a.V2 a.V6
 N9:mg "_law_cell_at" = some (.ref a.V2)
 O2:Binds K a.V6 ["_law_script", "_law_k"] []
 O6:Fun K "_law_mixed" "_law_mixed" t6 a.k7 a.l9
 Q7:mg "_law_mixed" = some (.ref a.k7)
 R6:Binds K a.l9 ["_law_cell", "_law_k"] []
 aG4:Fun K "_law_names" "_law_names" i6 a.m8 a.m5
 bG4:mg "_law_names" = some (.ref a.m8)
 bG2:Binds K a.m5 ["_law_cell", "_law_m"] []
 aF9:Fun K "_law_grown" "_law_grown" t8 a.o9 a.j6
 bA5:mg "_law_grown" = some (.ref a.o9)
 bB4:Binds K a.j6 ["_law_first", "_law_second"] []
 aF7:Fun K "_law_begun" "_law_begun" u7 a.p4 a.o7
 bE9:mg "_law_begun" = some (.ref a.p4)
 bC3:Binds K a.o7 ["_law_turn"] []
 aI7:Fun K "_law_built" "_law_built" i8 a.p3 a.m6
 bB8:mg "_law_built" = some (.ref a.p3)
 bE4:Binds K a.m6 ["_law_cell", "_law_cells", "_law_m"] []
 aF2:Fun K "_law_whole" "_law_whole" u6 a.l7 a.t7
 bC6:mg "_law_whole" = some (.ref a.l7)
 bF2:Binds K a.t7 ["_law_found"] []
 y0:Fun K "_law_rows_of" "_law_rows_of" W4 a.W6 a.V7
 aS8:mg "_law_rows_of" = some (.ref a.W6)
 aQ1:Binds K a.V7 ["_law_found", "_law_many"] []
 aH1:Fun K "_law_kinds" "_law_kinds" t4 a.u4 a.u3
 bC0:mg "_law_kinds" = some (.ref a.u4)
 bE3:Binds K a.u3 ["_law_e"] []
 aT3:Fun K "_law_all" "_law_all" aE2 a.aE8 a.aF0
 bQ4:mg "_law_all" = some (.ref a.aE8)
 bO7:Binds K a.aF0 ["_law_drawing"] []
 V5:Fun K "_law_refused" "_law_refused" W5 a.V3 a.V4
 aA1:mg "_law_refused" = some (.ref a.V3)
 w4:Binds K a.V4 ["_law_drawing", "_law_most"] []
 dR6:Fun K "law" "law" cN7 a.bH1 a.aX5
 dP6:mg "law" = some (.ref a.bH1)
 dV3:Binds K a.aX5 ["_law_script"] []
 j7:mg "ValueError" = none
 aY5:mg "all" = none
 bP2:mg "bool" = none
 cH9:mg "int" = none
 E7:mg "isinstance" = none
 N5:mg "len" = none
 aE0:mg "list" = none
 bT5:mg "min" = none
 K6:mg "range" = none
 p9:mg "reversed" = none
 R3:mg "sorted" = none
 P6:mg "tuple" = none
 Z4:∃t,mg "CORNERS" = some (.int 3 t)
 w9:∃ad,mg "FIRST_RIM" = some (.ref ad)/\∀H,SqT K H ad [.int 0,.int 2,.int 1]
 bC4:mg "TreesError" = some (.ref a.G9)
 cT9:XCl K a.G9
 bM8:mg "NoDrawing" = some (.ref a.M9)
 bN3:XCl K a.M9
 cC7:mg "NoRows" = some (.ref a.T8)
 cG2:XCl K a.T8
 cO8:mg "NoText" = some (.ref a.T7)
 cP4:XCl K a.T7
 dI8:mg "Tied" = some (.ref a.v8)
 dD7:XCl K a.v8
 bR1:mg "NoArrows" = some (.ref a.N8)
 bP3:XCl K a.N8
 cH5:mg "NoLand" = some (.ref a.P2)
 cE8:XCl K a.P2
 bZ1:mg "NoPlace" = some (.ref a.N3)
 cA3:XCl K a.N3
 cT5:mg "NoTie" = some (.ref a.T5)
 cV0:XCl K a.T5
 cI2:mg "NoRing" = some (.ref a.P3)
 cN8:XCl K a.P3
 aY0:mg "TooMany" = some (.ref a.D7)
 i5:XCl K a.D7
 cK4:mg "NoLine" = some (.ref a.P0)
 cN6:XCl K a.P0
 aV1:mg "NothingDone" = some (.ref a.F4)
 aV4:XCl K a.F4
 n9:PySem.W.excIn K a.G9 bmV "ValueError.__new__" = true
 bK3:PySem.W.excIn K a.P2 bmV "ValueError.__new__" = true
 aX4:PySem.W.excIn K a.N3 bmV "ValueError.__new__" = true
 bT9:PySem.W.excIn K a.T5 bmV "ValueError.__new__" = true
 bN5:PySem.W.excIn K a.P3 bmV "ValueError.__new__" = true
 aC3:PySem.W.excIn K a.D7 bmV "ValueError.__new__" = true
 bK1:PySem.W.excIn K a.P0 bmV "ValueError.__new__" = true
 aD2:PySem.W.excIn K a.F4 bmV "ValueError.__new__" = true
 V1:XAt K a.D7
 E3:Sb K a.D7 (sbs a) [true,false,false,false,false,false,false,false,false,false,true,false,false,true]
structure Ex (K:Frag)(n:Str)(c:Addr):Prop where
 n:PySem.W.nsIn K mainGlobals n=some (some (.ref c))
 q:XCl K c
theorem ex_mk {K:Frag}{n:Str}{c:Addr}{cd:ClassData}(a:PySem.W.nsIn K mainGlobals n=some (some (.ref c)))(y:PySem.W.clsIn K c=some cd)(t:PySem.W.typeIn K (.ref c)=some (.type "type")):Ex K n c:=⟨a,by rw[y];rfl,t⟩
structure Fq (K:Frag)(n:Str)(st:Stmt)(f:Addr)(d:FuncData):Prop where
 a:PySem.W.nsIn K mainGlobals n=some (some (.ref f))
 F:Fun K n n st f d
theorem tx_mk {K:Frag}{h:Heap}{mg:Str->Option Value}{f0 f1 f2 f3 f4 f5 f6 f7 f8 f9 f10 f11 f12 f13 f14 f15 f16 f17 f18 f19 f20 f21 f22 f23 G9 M9 T8 T7 v8 N8 P2 N3 T5 P3 D7 P0 F4:Addr}(X:K.In h)(G:h.Ns mainGlobals mg)
  {d0:FuncData} (q0:Fq K "begun_with" o5 f0 d0)
  {d1:FuncData} (q1:Fq K "ways_round" l8 f1 d1)
  {d2:FuncData} (q2:Fq K "tied" bP0 f2 d2)
  {d3:FuncData} (q3:Fq K "can_be_taken_off" P8 f3 d3)
  {d4:FuncData} (q4:Fq K "next_taken_off" T2 f4 d4)
  {d5:FuncData} (q5:Fq K "between" aJ0 f5 d5)
  {d6:FuncData} (q6:Fq K "taken_off" aA3 f6 d6)
  {d7:FuncData} (q7:Fq K "ring_ways" w5 f7 d7)
  {d8:FuncData} (q8:Fq K "go_round" aD4 f8 d8)
  {d9:FuncData} (q9:Fq K "rings" bE8 f9 d9)
  {d10:FuncData} (D:Fq K "turned" aR5 f10 d10)
  {d11:FuncData} (B:Fq K "all_arrows" p8 f11 d11)
  {d12:FuncData} (P:Fq K "_law_cell_at" X1 f12 d12)
  {d13:FuncData} (q13:Fq K "_law_mixed" t6 f13 d13)
  {d14:FuncData} (q14:Fq K "_law_names" i6 f14 d14)
  {d15:FuncData} (q15:Fq K "_law_grown" t8 f15 d15)
  {d16:FuncData} (q16:Fq K "_law_begun" u7 f16 d16)
  {d17:FuncData} (q17:Fq K "_law_built" i8 f17 d17)
  {d18:FuncData} (q18:Fq K "_law_whole" u6 f18 d18)
  {d19:FuncData} (q19:Fq K "_law_rows_of" W4 f19 d19)
  {d20:FuncData} (q20:Fq K "_law_kinds" t4 f20 d20)
  {d21:FuncData} (q21:Fq K "_law_all" aE2 f21 d21)
  {d22:FuncData} (q22:Fq K "_law_refused" W5 f22 d22)
  {d23:FuncData} (Q:Fq K "law" cN7 f23 d23)
  (j7:PySem.W.nsIn K mainGlobals "ValueError" = some none)
  (aY5:PySem.W.nsIn K mainGlobals "all" = some none)
  (bP2:PySem.W.nsIn K mainGlobals "bool" = some none)
  (cH9:PySem.W.nsIn K mainGlobals "int" = some none)
  (E7:PySem.W.nsIn K mainGlobals "isinstance" = some none)
  (N5:PySem.W.nsIn K mainGlobals "len" = some none)
  (aE0:PySem.W.nsIn K mainGlobals "list" = some none)
  (bT5:PySem.W.nsIn K mainGlobals "min" = some none)
  (K6:PySem.W.nsIn K mainGlobals "range" = some none)
  (p9:PySem.W.nsIn K mainGlobals "reversed" = some none)
  (R3:PySem.W.nsIn K mainGlobals "sorted" = some none)
  (P6:PySem.W.nsIn K mainGlobals "tuple" = some none)
  {t_CORNERS:Tok} (Z4:PySem.W.nsIn K mainGlobals "CORNERS" = some (some (.int 3 t_CORNERS)))
  {c_FIRST_RIM:Addr} (w9:PySem.W.nsIn K mainGlobals "FIRST_RIM" = some (some (.ref c_FIRST_RIM))) {t0_FIRST_RIM t1_FIRST_RIM t2_FIRST_RIM:Tok} {q_FIRST_RIM:Nat} {sl_FIRST_RIM:Array (Option Value)} (N:K.lookup c_FIRST_RIM=some ⟨.type "tuple",none,.seq #[.int 0 t0_FIRST_RIM,.int 2 t1_FIRST_RIM,.int 1 t2_FIRST_RIM] q_FIRST_RIM,sl_FIRST_RIM⟩)
  (w:Ex K "TreesError" G9)
  (z:Ex K "NoDrawing" M9)
  (Y:Ex K "NoRows" T8)
  (U:Ex K "NoText" T7)
  (R:Ex K "Tied" v8)
  (r:Ex K "NoArrows" N8)
  (c:Ex K "NoLand" P2)
  (k:Ex K "NoPlace" N3)
  (M:Ex K "NoTie" T5)
  (m:Ex K "NoRing" P3)
  (j:Ex K "TooMany" D7)
  (p:Ex K "NoLine" P0)
  (y:Ex K "NothingDone" F4)
  (n9:PySem.W.excIn K G9 bmV "ValueError.__new__" = true)
  (bK3:PySem.W.excIn K P2 bmV "ValueError.__new__" = true)
  (aX4:PySem.W.excIn K N3 bmV "ValueError.__new__" = true)
  (bT9:PySem.W.excIn K T5 bmV "ValueError.__new__" = true)
  (bN5:PySem.W.excIn K P3 bmV "ValueError.__new__" = true)
  (aC3:PySem.W.excIn K D7 bmV "ValueError.__new__" = true)
  (bK1:PySem.W.excIn K P0 bmV "ValueError.__new__" = true)
  (aD2:PySem.W.excIn K F4 bmV "ValueError.__new__" = true)
  (V1:XAt K D7)
  (E3:Sb K D7 [.ref G9,.ref M9,.ref T8,.ref T7,.ref v8,.ref N8,.ref P2,.ref N3,.ref T5,.ref P3,.ref D7,.ref P0,.ref F4,.type "ValueError"] [true,false,false,false,false,false,false,false,false,false,true,false,false,true])
  : ∃a:Ad,Tx K mg a/\a.bH1=f23/\∀(s:Shared) (v:Value),BindsTo s a.aX5 ⟨[v],[]⟩ [("_law_script",v)]:=by
 refine⟨⟨f0,d0,f1,d1,f2,d2,f3,d3,f4,d4,f5,d5,f6,d6,f7,d7,f8,d8,f9,d9,f10,d10,f11,d11,f12,d12,f13,d13,f14,d14,f15,d15,f16,d16,f17,d17,f18,d18,f19,d19,f20,d20,f21,d21,f22,d22,f23,d23,G9,M9,T8,T7,v8,N8,P2,N3,T5,P3,D7,P0,F4⟩,⟨q0.F,Af X G q0.a,q0.F.binds λ_ _ _ _ _ _ J e=>us2 e λ_ _=>rfl,q1.F,Af X G q1.a,q1.F.binds λ_ _ _ _ _ _ J e=>us1 e λ_=>rfl,q2.F,Af X G q2.a,q2.F.binds λ_ _ _ _ _ _ J e=>us3 e λ_ _ _=>rfl,q3.F,Af X G q3.a,q3.F.binds λ_ _ _ _ _ _ J e=>us3 e λ_ _ _=>rfl,q4.F,Af X G q4.a,q4.F.binds λ_ _ _ _ _ _ J e=>us2 e λ_ _=>rfl,q5.F,Af X G q5.a,q5.F.binds λ_ _ _ _ _ _ J e=>us3 e λ_ _ _=>rfl,q6.F,Af X G q6.a,q6.F.binds λ_ _ _ _ _ _ J e=>us1 e λ_=>rfl,q7.F,Af X G q7.a,q7.F.binds λ_ _ _ _ _ _ J e=>us2 e λ_ _=>rfl,q8.F,Af X G q8.a,q8.F.binds λ_ _ _ _ _ _ J e=>us2 e λ_ _=>rfl,q9.F,Af X G q9.a,q9.F.binds λ_ _ _ _ _ _ J e=>us2 e λ_ _=>rfl,D.F,Af X G D.a,D.F.binds λ_ _ _ _ _ _ J e=>us3 e λ_ _ _=>rfl,B.F,Af X G B.a,B.F.binds λ_ _ _ _ _ _ J e=>us2 e λ_ _=>rfl,P.F,Af X G P.a,P.F.binds λ_ _ _ _ _ _ J e=>us2 e λ_ _=>rfl,q13.F,Af X G q13.a,q13.F.binds λ_ _ _ _ _ _ J e=>us2 e λ_ _=>rfl,q14.F,Af X G q14.a,q14.F.binds λ_ _ _ _ _ _ J e=>us2 e λ_ _=>rfl,q15.F,Af X G q15.a,q15.F.binds λ_ _ _ _ _ _ J e=>us2 e λ_ _=>rfl,q16.F,Af X G q16.a,q16.F.binds λ_ _ _ _ _ _ J e=>us1 e λ_=>rfl,q17.F,Af X G q17.a,q17.F.binds λ_ _ _ _ _ _ J e=>us3 e λ_ _ _=>rfl,q18.F,Af X G q18.a,q18.F.binds λ_ _ _ _ _ _ J e=>us1 e λ_=>rfl,q19.F,Af X G q19.a,q19.F.binds λ_ _ _ _ _ _ J e=>us2 e λ_ _=>rfl,q20.F,Af X G q20.a,q20.F.binds λ_ _ _ _ _ _ J e=>us1 e λ_=>rfl,q21.F,Af X G q21.a,q21.F.binds λ_ _ _ _ _ _ J e=>us1 e λ_=>rfl,q22.F,Af X G q22.a,q22.F.binds λ_ _ _ _ _ _ J e=>us2 e λ_ _=>rfl,Q.F,Af X G Q.a,Q.F.binds λ_ _ _ _ _ _ J e=>us1 e λ_=>rfl,Bb X G j7,Bb X G aY5,Bb X G bP2,Bb X G cH9,Bb X G E7,Bb X G N5,Bb X G aE0,Bb X G bT5,Bb X G K6,Bb X G p9,Bb X G R3,Bb X G P6,⟨t_CORNERS,Af X G Z4⟩,⟨c_FIRST_RIM,Af X G w9,λH=>.inr ⟨_,_,_,N,rfl,rfl,rfl,(show 3<=sizeLine by decide),.cons ⟨_,rfl⟩ (.cons ⟨_,rfl⟩ (.cons ⟨_,rfl⟩ (.nil)))⟩⟩,Af X G w.n,w.q,Af X G z.n,z.q,Af X G Y.n,Y.q,Af X G U.n,U.q,Af X G R.n,R.q,Af X G r.n,r.q,Af X G c.n,c.q,Af X G k.n,k.q,Af X G M.n,M.q,Af X G m.n,m.q,Af X G j.n,j.q,Af X G p.n,p.q,Af X G y.n,y.q,n9,bK3,aX4,bT9,bN5,aC3,bK1,aD2,V1,E3⟩,rfl,λs v=>?_⟩
 obtain⟨_,_,_,_,_,_,_,_,_,rfl,_⟩:=Q.F.ex;exact .of_eq rfl
theorem sc__law_grown:D9 ["_law_first", "_law_second", "_law_outs", "_law_ins", "_law_path", "_law_heap", "_law_i", "_law_ahead", "_law_k", "_law_place", "_law_turns", "_law_v", "_law_came", "_law_row"] ["_law_first", "_law_second"] (B2 t8):=⟨rfl,rfl,rfl,by decide +kernel,rfl,by decide +kernel,by decide +kernel⟩
def rh (m:Nat)(F G:Nat->Nat)(o i:OT)(p h:AD)(x6 x7 x8 x9:Sl):List Sl:=
 [.val (lI (fl F m)),.val (lI (fl G m)),.tr o,.tr i,.own (nI p.reverse),.own (nI h.reverse),x6,x7,x8,x9,.no,.no,.no,.no]
theorem X3 {m:Nat}{F G:Nat->Nat}{o i:OT}{p h:AD}{x6 x7 x8 x9:Sl}(e:x6.nb=true)(y:x7.nb=true)(w:x8.nb=true)(z:x9.nb=true):S2 (rh m F G o i p h x6 x7 x8 x9)=true:=by
 unfold rh;simp only[s9,e,y,w,z,Bool.true_and];rfl
def rh2 (m:Nat)(F G:Nat->Nat)(o i:PyData)(p h:AG)(x6 x7 x8 x9 x10 x11 x12 x13:Sl):List Sl:=
 [.val (lI (fl F m)),.val (lI (fl G m)),.val o,.val i,.own p,.own h,x6,x7,x8,x9,x10,x11,x12,x13]
theorem bR4 {m:Nat}{F G:Nat->Nat}{o i:PyData}{p h:AG}{x6 x7 x8 x9 x10 x11 x12 x13:Sl}(r:x6.nb=true)(k:x7.nb=true)(j:x8.nb=true)(c:x9.nb=true)(e:x10.nb=true)(y:x11.nb=true)(w:x12.nb=true)(z:x13.nb=true):S2 (rh2 m F G o i p h x6 x7 x8 x9 x10 x11 x12 x13)=true:=by
 unfold rh2;simp only[s9,r,k,j,c,e,y,w,z,Bool.true_and];rfl
def cE1 (ds:AG)(d:PyData):Prop:=∃F G m,TT.Rws F G m/\m<=1000/\ds=[lI (fl F m),lI (fl G m)] /\
 d=.tuple [.list ((List.range (m+3)).map λv=>lN ((TT.gst F G m).row v)),.list ((List.range m).map λv=>lN [(TT.gst F G m).o0 (v+3),(TT.gst F G m).o1 (v+3),(TT.gst F G m).o2 (v+3)])]
section
variable {P:Program}{w:World}{K:Frag}{mg:Str->Option Value}{base:Heap}{a:Ad}
theorem cD8 (T:Tx K mg a):E9 P w K mg base CX0 1 a.o9 a.j6 ["_law_first", "_law_second"] (spV K cE1):=by
 refine T.aF9.ok sc__law_grown (v6 λds d ⟨_,_,_,_,_,e,_⟩=>by rw[e];rfl) (λcdv A outer s H vs Q E hr h=>?_)
 obtain⟨ds,S,d,hS,r,⟨F,G,m,R,hm,rfl,rfl⟩,k⟩:=h;refine⟨_,(A5 (B5 (i:=2) sc__law_grown.nd rfl (Or.inl rfl) (C5 A2))
   (A5 (B5 (i:=3) sc__law_grown.nd rfl (Or.inl rfl) (C5 (A1 (E2 (A1 (C5 A2) (A1 (C5 A2) (A1 (C5 A2) A2)))) (A1 (E2 (A1 (C5 A2) (A1 (C5 A2) (A1 (C5 A2) A2)))) (A1 (E2 (A1 (C5 A2) (A1 (C5 A2) (A1 (C5 A2) A2)))) A2)))))
   (A5 (B5 (i:=4) sc__law_grown.nd rfl (Or.inl rfl) (C5 (A1 A6 A2)))
   (A5 (B5 (i:=5) sc__law_grown.nd rfl (Or.inl rfl) (C5 (A1 A6 A2)))
   (A5 (O8 Au rfl (J9 rfl T.K6 (A1 (B0 K8 (by rfl) T.N5 Ar (A1 (pv 0) A2)) A2)) (B7 (i:=6) sc__law_grown.nd rfl (Or.inl rfl)) (A5 (B5 (i:=7) sc__law_grown.nd rfl (Or.inl rfl) (C5 (A1 A6 (A1 A6 A2))))
   (A5 (U8 (F9 aD0 (pv 6) A6 (K4 _)) (A9 (B5 (i:=7) sc__law_grown.nd rfl (Or.inl rfl) (C5 (A1 (B9 C4 (pv 0) (B4 S1 (pv 6) A6) (λ_ _=>rfl)) (A1 (B9 C4 (pv 1) (B4 S1 (pv 6) A6) (λ_ _=>rfl)) A2))))) M0)
   (A5 (O8 Au rfl (J9 rfl T.K6 (A1 (B4 S1 (B9 C4 (pv 0) (pv 6) (λ_ _=>rfl)) (B9 C4 (pv 7) A6 (λ_ _=>rfl))) A2)) (B7 (i:=8) sc__law_grown.nd rfl (Or.inl rfl)) (A9 (F8 (L8 Ab1 Ah Ag E4 (pv 5) (A1 (bB9 Ab1 PySem.F.slot_list_pop PySem.F.type_list_pop bA9 (pv 4)) A2)))))
   (A5 (F8 (L8 Ab1 Ah Ag E4 (pv 3) (A1 (E2 (A1 (C5 A2) (A1 (C5 A2) (A1 (C5 A2) A2)))) A2)))
   (A5 (O8 Au rfl (J9 rfl T.K6 (A1 (B4 S1 (B9 C4 (pv 1) (pv 6) (λ_ _=>rfl)) (B9 C4 (pv 7) A6 (λ_ _=>rfl))) A2)) (B7 (i:=8) sc__law_grown.nd rfl (Or.inl rfl)) (A5 (B5 (i:=9) sc__law_grown.nd rfl (Or.inl rfl) (bB9 Ab1 PySem.F.slot_list_pop PySem.F.type_list_pop bA9 (pv 5)))
   (A5 (bC5 (B4 G4 A6 (pv 6)) (bQ9 (B9 C4 (pv 2) (B4 S1 (pv 9) A6) (λ_ _=>rfl)) A6 aO9))
   (A9 (F8 (L8 Ab1 Ah Ag E4 (B9 C4 (B9 C4 (pv 3) (B4 G4 A6 (pv 6)) (λ_ _=>rfl)) A6 (λ_ _=>rfl)) (A1 (pv 9) A2)))))))
   (A5 (F8 (L8 Ab1 Ah Ag E4 (pv 2) (A1 (C5 (A1 (B9 C4 (pv 4) (aT8 aE3 A6) (λ_ _=>rfl)) (A1 (B9 C4 (pv 5) (aT8 aE3 A6) (λ_ _=>rfl)) (A1 A6 A2)))) A2)))
   (A5 (F8 (L8 Ab1 Ah Ag E4 (B9 C4 (B9 C4 (pv 3) (B9 C4 (pv 4) (aT8 aE3 A6) (λ_ _=>rfl)) (λ_ _=>rfl)) A6 (λ_ _=>rfl)) (A1 (B4 G4 A6 (pv 6)) A2)))
   (A5 (F8 (L8 Ab1 Ah Ag E4 (B9 C4 (B9 C4 (pv 3) (B9 C4 (pv 5) (aT8 aE3 A6) (λ_ _=>rfl)) (λ_ _=>rfl)) A6 (λ_ _=>rfl)) (A1 (B4 G4 A6 (pv 6)) A2)))
   (A9 (F8 (L8 Ab1 Ah Ag E4 (pv 4) (A1 (B4 G4 A6 (pv 6)) A2)))))))))))))
   (A5 (aG8 Au (F9 aD0 (B0 K8 (by rfl) T.N5 Ar (A1 (pv 4) A2)) A6 (K4 _)) (A9 (F8 (L8 Ab1 Ah Ag E4 (pv 5) (A1 (bB9 Ab1 PySem.F.slot_list_pop PySem.F.type_list_pop bA9 (pv 4)) A2)))))
   (A5 (aG8 Au (F9 aD0 (B0 K8 (by rfl) T.N5 Ar (A1 (pv 5) A2)) A6 (K4 _)) (A9 (F8 (L8 Ab1 Ah Ag E4 (B9 C4 (B9 C4 (pv 3) A6 (λ_ _=>rfl)) A6 (λ_ _=>rfl)) (A1 (bB9 Ab1 PySem.F.slot_list_pop PySem.F.type_list_pop bA9 (pv 5)) A2)))))
   (A5 (B5 (i:=10) sc__law_grown.nd rfl (Or.inl rfl) (C5 (A1 (B4 (N4 K) (B4 (N4 K) (C5 (A1 A6 A2)) (B9 C4 (B9 C4 (pv 3) A6 (λ_ _=>rfl)) A6 (λ_ _=>rfl))) (C5 (A1 A6 A2))) A2)))
   (A5 (F8 (L8 Ab1 Ah Ag E4 (pv 10) (A1 (B4 (N4 K) (B4 (N4 K) (C5 (A1 A6 A2)) (aS2 K rfl (by rfl) T.aE0 (by rfl) T.p9 (B9 C4 (B9 C4 (pv 3) A6 (λ_ _=>rfl)) A6 (λ_ _=>rfl)))) (C5 (A1 A6 A2))) A2)))
   (A5 (F8 (L8 Ab1 Ah Ag E4 (pv 10) (A1 (B4 (N4 K) (B4 (N4 K) (C5 (A1 A6 A2)) (B9 C4 (B9 C4 (pv 3) A6 (λ_ _=>rfl)) A6 (λ_ _=>rfl))) (C5 (A1 A6 A2))) A2)))
   (A5 (O8 Au rfl (J9 rfl T.K6 (A1 (B0 K8 (by rfl) T.N5 Ar (A1 (pv 2) A2)) A2)) (B7 (i:=11) sc__law_grown.nd rfl (Or.inl rfl)) (A5 (B5 (i:=12) sc__law_grown.nd rfl (Or.inl rfl) (B9 C4 (pv 3) (B4 G4 A6 (pv 11)) (λ_ _=>rfl)))
   (A5 (B5 (i:=13) sc__law_grown.nd rfl (Or.inl rfl) (B4 (N4 K) (B4 (N4 K) (B4 (N4 K) (C5 (A1 (B9 C4 (B9 C4 (pv 2) (pv 11) (λ_ _=>rfl)) A6 (λ_ _=>rfl)) A2)) (B9 C4 (pv 12) A6 (λ_ _=>rfl))) (C5 (A1 (B9 C4 (B9 C4 (pv 2) (pv 11) (λ_ _=>rfl)) A6 (λ_ _=>rfl)) A2))) (B9 C4 (pv 12) A6 (λ_ _=>rfl))))
   (A9 (F8 (L8 Ab1 Ah Ag E4 (pv 10) (A1 (B4 (N4 K) (B4 (N4 K) (pv 13) (C5 (A1 (B9 C4 (B9 C4 (pv 2) (pv 11) (λ_ _=>rfl)) A6 (λ_ _=>rfl)) A2))) (aS2 K rfl (by rfl) T.aE0 (by rfl) T.p9 (B9 C4 (pv 12) A6 (λ_ _=>rfl)))) A2)))))))
   (A9 (E8 (E2 (A1 (pv 10) (A1 (pv 2) A2)))))))))))))))),O0 hS r ?_ k⟩
 refine B1 (cM3 (N0 G8) ?_);refine B1 (cM3 (N0 (G1 (aN1 (G1 (N0 G8) (G1 (N0 G8) (G1 (N0 G8) G8)))) (G1 (aN1 (G1 (N0 G8) (G1 (N0 G8) (G1 (N0 G8) G8)))) (G1 (aN1 (G1 (N0 G8) (G1 (N0 G8) (G1 (N0 G8) G8)))) G8)))) ?_);refine B1 (G3 (F5 (A3 A8 A7)) ?_);refine B1 (G3 (F5 (A3 A8 A7)) ?_);show W K _ (rh m F G (M4 0 (TT.gst F G 0).o0 (TT.gst F G 0).o1 (TT.gst F G 0).o2) (F7 (0+3) (TT.gst F G 0).i0 (TT.gst F G 0).i1 (TT.gst F G 0).i2) (TT.gst F G 0).path (TT.gst F G 0).heap .no .no .no .no) _;have N:((fl F m).map PyData.int).length=m:=by simp[fl]
 refine B1 (U7 (T3 (A3 (U2 (A3 (A4 rfl) A7)) A7) ?_ ?_) (λi ρ=>∃X U x8 c,(X.nb=true/\U.nb=true/\x8.nb=true/\c.nb=true) /\
  ρ=rh m F G (M4 i (TT.gst F G i).o0 (TT.gst F G i).o1 (TT.gst F G i).o2) (F7 (i+3) (TT.gst F G i).i0 (TT.gst F G i).i1 (TT.gst F G i).i2) (TT.gst F G i).path (TT.gst F G i).heap X U x8 c) ⟨_,_,_,_,⟨rfl,rfl,rfl,rfl⟩,rfl⟩ ?_ ?_)
 .rw[N];lia
 .rw[N];lia
 .rintro i d _ J ⟨X,U,x8,c,⟨b6,b7,b8,b9⟩,rfl⟩;obtain⟨rfl,hi⟩:=T0 J;have hi:i<m:=by
   have:=hi
   simp[fl]at this
   lia
  obtain⟨sk,sa,sb,spl,D,slo,spx,B,se0,se1⟩:=TT.dG7 R hi;have hst:TT.gst F G (i+1)=(TT.gst F G i).step (F i-TT.pv F i) (G i-TT.pv G i):=rfl;have f1:=R.f1 i hi;have g1:=R.g1 i hi;have hFi:=R.f2 i hi;have hGi:=R.g2 i hi;generalize hs:TT.gst F G i=s at sk sa sb spl D slo spx B se0 se1 hst ⊢;refine⟨_,C8,?_⟩;refine B1 (G3 (F5 (A3 A8 (A3 A8 A7))) ?_ (show 7<14 by decide))
  refine B1 (cF0 (rh m F G (M4 i s.o0 s.o1 s.o2) (F7 (i+3) s.i0 s.i1 s.i2) s.path s.heap (.val (.int (i:Int))) (.own [.int (TT.pv F i:Nat),.int (TT.pv G i:Nat)]) x8 c) (J8 (y7 (A4 rfl) A8))
   (λh=>(G3 (ds:=[.int (F (i-1):Nat),.int (G (i-1):Nat)]) (F5 (A3 (F6 (A4 rfl) (L9 (A4 rfl) A8) rfl ?_) (A3 (F6 (A4 rfl) (L9 (A4 rfl) A8) rfl ?_) A7))) ?_ (show 7<14 by decide))) (λh=>O7 ?_) ?_)
  .have h:(i:Int)>0:=As h
   have e:(i:Int)-1=((i-1:Nat):Int):=by lia
   rw[e];exact bX3 (by lia)
  .have h:(i:Int)>0:=As h
   have e:(i:Int)-1=((i-1:Nat):Int):=by lia
   rw[e];exact bX3 (by lia)
  .have h:(i:Int)>0:=As h
   obtain⟨j,rfl⟩:∃j,i=j+1:=⟨i-1,by lia⟩
   rfl
  .have h:¬(i:Int)>0:=Ay h
   have:i=0:=by lia
   subst this;rfl
  generalize hA:F i-TT.pv F i=na at sa sb D slo spx B hst;generalize hB:G i-TT.pv G i=nb at sb slo B hst;refine B1 (U7 (T3 (A3 (L9 (F6 (A4 rfl) (A4 rfl) rfl (bX3 hi)) (F6 (G7 rfl) A8 rfl rfl)) A7) ?_ ?_) (λj ρ=>∃x8,x8.nb=true /\
   ρ=rh m F G (M4 i s.o0 s.o1 s.o2) (F7 (i+3) s.i0 s.i1 s.i2) (s.path.drop j) (s.h1 j) (.val (.int (i:Int))) (.own [.int (TT.pv F i:Nat),.int (TT.pv G i:Nat)]) x8 c) ⟨x8,b8,rfl⟩ ?_ ?_)
  .lia
  .lia
  .rintro j d _ J ⟨y8,c8,rfl⟩;obtain⟨rfl,M⟩:=T0 J;have M:j<na:=by lia
   refine⟨_,C8,?_⟩;obtain⟨x,hx⟩:∃x,s.path[j]? = some x:=⟨_,Aa2 (by lia)⟩
   have e1:s.path.drop j=x::s.path.drop (j+1):=by
    obtain⟨h1,h2⟩:=Ab0.mp hx;rw[<- h2];exact Bh h1
   have e2:s.h1 (j+1)=x::s.h1 j:=by
    unfold TT.S.h1;obtain⟨h1,h2⟩:=Ab0.mp hx;rw[Bm h1,h2];simp
   show W K _ (rh m F G (M4 i s.o0 s.o1 s.o2) (F7 (i+3) s.i0 s.i1 s.i2) (s.path.drop j) (s.h1 j) (.val (.int (i:Int))) (.own [.int (TT.pv F i:Nat),.int (TT.pv G i:Nat)]) (.val (.int (j:Int))) c) _
   refine aK8 (ds:=nI (s.h1 j).reverse) (bO5 (d:=.int (x:Int)) (ds:=nI (s.path.drop (j+1)).reverse) ?_ (X3 rfl rfl rfl b9)) rfl rfl ?_ ⟨.val (.int (j:Int)),rfl,?_⟩ ?_
   .show some (Sl.own (nI (s.path.drop j).reverse))=_
    rw[e1];simp[nI]
   .rw[C7,Ae2];unfold TT.S.h1 at D ⊢;unfold sizeLine;simp only[Ab7,Ae2,Ad1]at D ⊢
    lia
   .rw[e2];unfold rh
    simp[nI]
   .exact X3 (p:=s.path.drop (j+1)) (h:=s.h1 j) rfl rfl rfl b9
  rintro _ ⟨y8,c8,rfl⟩;rw[P4];have ea:((F i:Int)-(TT.pv F i:Int)).toNat=na:=by lia
  rw[ea];refine B1 (Z6 (u0:=F7 (i+3) s.i0 s.i1 s.i2) aE7 rfl rfl (aN1 (G1 (N0 G8) (G1 (N0 G8) (G1 (N0 G8) G8)))) ?_ ?_ (X3 rfl rfl c8 b9))
  .rw[Aa3,Bo];unfold sizeLine;lia
  have ei:(F7 (i+3) s.i0 s.i1 s.i2).put [] (.lst (((List.range (i+3)).map λq=>OT.tup [oN (s.i0 q),oN (s.i1 q),oN (s.i2 q)])++[.tup [.lst [],.lst [],.lst []]]))=F7 (i+4) s.i0 s.i1 (TT.put s.i2 (i+3) []):=by
   rw[OT.put_nil,cT4]
   congr 1
   .funext q;by_cases e:q=i+3
    .rw[e,TT.D6,se0]
    .rw[TT.C3 e]
   .funext q;by_cases e:q=i+3
    .rw[e,TT.D6,se1]
    .rw[TT.C3 e]
  show W K _ ((rh m F G (M4 i s.o0 s.o1 s.o2) (F7 (i+3) s.i0 s.i1 s.i2) (s.path.drop na) (s.h1 na) (.val (.int (i:Int))) (.own [.int (TT.pv F i:Nat),.int (TT.pv G i:Nat)]) y8 c).set 3 (.tr ((F7 (i+3) s.i0 s.i1 s.i2).put [] (.lst (((List.range (i+3)).map λq=>OT.tup [oN (s.i0 q),oN (s.i1 q),oN (s.i2 q)])++[.tup [.lst [],.lst [],.lst []]]))))) _
  rw[ei];show W K _ (rh m F G (M4 i s.o0 s.o1 s.o2) (F7 (i+4) s.i0 s.i1 (TT.put s.i2 (i+3) [])) (s.path.drop na) (s.h1 na) (.val (.int (i:Int))) (.own [.int (TT.pv F i:Nat),.int (TT.pv G i:Nat)]) y8 c) _;generalize hh:s.h1 na=h at sb D slo B ⊢;refine B1 (U7 (T3 (A3 (L9 (F6 (A4 rfl) (A4 rfl) rfl (bX3 hi)) (F6 (G7 rfl) A8 rfl rfl)) A7) ?_ ?_) (λj ρ=>∃x8 c,x8.nb=true/\c.nb=true /\
   ρ=rh m F G (M4 i s.o0 s.o1 (λq=>if q∈h.take j then i+3 else s.o2 q)) (F7 (i+4) s.i0 s.i1 (TT.put s.i2 (i+3) (h.take j))) (s.path.drop na) (h.drop j) (.val (.int (i:Int))) (.own [.int (TT.pv F i:Nat),.int (TT.pv G i:Nat)]) x8 c) ⟨y8,c,c8,b9,by simp⟩ ?_ ?_)
  .lia
  .lia
  .rintro j d _ J ⟨z8,z9,c8,c9,rfl⟩;obtain⟨rfl,M⟩:=T0 J;have M:j<nb:=by lia
   refine⟨_,C8,?_⟩;obtain⟨x,hx⟩:∃x,h[j]? = some x:=⟨_,Aa2 (by lia)⟩
   obtain⟨hx1,hx2⟩:=Ab0.mp hx;have e1:h.drop j=x::h.drop (j+1):=by rw[<- hx2];exact Bh hx1
   have e2:h.take (j+1)=h.take j++[x]:=by rw[<- hx2];exact Bm hx1
   obtain⟨x3,xi⟩:=slo x (by
    refine Az (i:=j) ?_;rw[Ds,Ac M];exact hx)
   refine B1 (dL6 (ds:=nI (h.drop (j+1)).reverse) (d:=.int (x:Int)) ?_ ?_ (X3 (x8:=.val (.int (j:Int))) rfl rfl rfl c9))
   .show some (Sl.own (nI (h.drop j).reverse))=_
    rw[e1];simp[nI]
   have e3:(3:Int)+(i:Int)=((i+3:Nat):Int):=by lia
   have hx3:x-3+3=x:=by lia
   show W K _ (rh m F G (M4 i s.o0 s.o1 (λq=>if q∈h.take j then i+3 else s.o2 q)) (F7 (i+4) s.i0 s.i1 (TT.put s.i2 (i+3) (h.take j))) (s.path.drop na) (h.drop (j+1)) (.val (.int (i:Int))) (.own [.int (TT.pv F i:Nat),.int (TT.pv G i:Nat)]) (.val (.int (j:Int))) (.val (.int (x:Int)))) _
   have eo:(M4 i s.o0 s.o1 (λq=>if q∈h.take j then i+3 else s.o2 q)).put [x-3] (oN [s.o0 (x-3+3),s.o1 (x-3+3),i+3])=M4 i s.o0 s.o1 (λq=>if q∈h.take (j+1) then i+3 else s.o2 q):=by
    rw[cX6 (by lia)]
    congr 1
    funext q
    rw[hx3,e2];by_cases e:q=x
    .rw[e,TT.D6];simp
    .rw[TT.C3 e];simp[e]
   refine B1 (dD5 (u0:=M4 i s.o0 s.o1 (λq=>if q∈h.take j then i+3 else s.o2 q)) (us:=[.leaf (.int (s.o0 (x-3+3):Nat)),.leaf (.int (s.o1 (x-3+3):Nat)),.leaf (.int ((if x-3+3∈h.take j then i+3 else s.o2 (x-3+3):Nat):Int))]) (π:=[]++[x-3]) 2 (L9 A8 (A4 rfl)) (aI5 (x-3) aE7 (L9 (A4 rfl) A8) (by lia) (λu _=>⟨u,rfl⟩)) A8 rfl (by decide:2<3) rfl (dK3 (by lia)) ?_ (X3 rfl rfl rfl rfl))
   show W K _ ((rh m F G (M4 i s.o0 s.o1 (λq=>if q∈h.take j then i+3 else s.o2 q)) (F7 (i+4) s.i0 s.i1 (TT.put s.i2 (i+3) (h.take j))) (s.path.drop na) (h.drop (j+1)) (.val (.int (i:Int))) (.own [.int (TT.pv F i:Nat),.int (TT.pv G i:Nat)]) (.val (.int (j:Int))) (.val (.int (x:Int)))).set 2
    (.tr ((M4 i s.o0 s.o1 (λq=>if q∈h.take j then i+3 else s.o2 q)).put [x-3] (.lst [.leaf (.int (s.o0 (x-3+3):Nat)),.leaf (.int (s.o1 (x-3+3):Nat)),.leaf (.int (3+(i:Int)))])))) _
   rw[e3];show W K _ ((rh m F G (M4 i s.o0 s.o1 (λq=>if q∈h.take j then i+3 else s.o2 q)) (F7 (i+4) s.i0 s.i1 (TT.put s.i2 (i+3) (h.take j))) (s.path.drop na) (h.drop (j+1)) (.val (.int (i:Int))) (.own [.int (TT.pv F i:Nat),.int (TT.pv G i:Nat)]) (.val (.int (j:Int))) (.val (.int (x:Int)))).set 2
    (.tr ((M4 i s.o0 s.o1 (λq=>if q∈h.take j then i+3 else s.o2 q)).put [x-3] (oN [s.o0 (x-3+3),s.o1 (x-3+3),i+3])))) _
   rw[eo];show W K _ (rh m F G (M4 i s.o0 s.o1 (λq=>if q∈h.take (j+1) then i+3 else s.o2 q)) (F7 (i+4) s.i0 s.i1 (TT.put s.i2 (i+3) (h.take j))) (s.path.drop na) (h.drop (j+1)) (.val (.int (i:Int))) (.own [.int (TT.pv F i:Nat),.int (TT.pv G i:Nat)]) (.val (.int (j:Int))) (.val (.int (x:Int)))) _
   refine Z6 (u0:=F7 (i+4) s.i0 s.i1 (TT.put s.i2 (i+3) (h.take j))) (π:=[]++[i+3]++[2]) (aI5 2 (aI5 (i+3) aE7 (L9 A8 (A4 rfl)) (by lia) (λu _=>⟨u,rfl⟩)) A8 rfl (λu0 h=>by cases h;exact⟨_,aE4 (by lia)⟩)) rfl (bU0 (by lia)) (aY7 (A4 rfl)) ?_ ?_ (X3 rfl rfl rfl rfl)
   .rw[Aa3,TT.D6,Ad1];unfold sizeLine;lia
   refine⟨.val (.int (j:Int)),.val (.int (x:Int)),rfl,rfl,?_⟩;rw[bL4 (by lia),bU5,TT.D6,<- e2]
   rfl
  rintro _ ⟨z8,z9,c8,c9,rfl⟩;rw[P4];have eb:((G i:Int)-(TT.pv G i:Int)).toNat=nb:=by lia
  rw[eb];obtain⟨x,r1,ex,xlt,xlen⟩:=spx;obtain⟨y,r2,ey,ylt,ylen⟩:=B;have e3:(3:Int)+(i:Int)=((i+3:Nat):Int):=by lia
  have hpl:atI (nI (s.path.drop na).reverse) (-1)=some (.int (x:Int)):=by rw[ex,List.reverse_cons,Y6];exact aN9
  have hhl:atI (nI (h.drop nb).reverse) (-1)=some (.int (y:Int)):=by rw[ey,List.reverse_cons,Y6];exact aN9
  refine B1 (Z6 (u0:=M4 i s.o0 s.o1 (λq=>if q∈h.take nb then i+3 else s.o2 q)) aE7 rfl rfl (N0 (G1 (aY7 (LV.E.imm (d:=.int (x:Int)) (F6 (G7 rfl) (aR9 A8) rfl hpl))) (G1 (aY7 (LV.E.imm (d:=.int (y:Int)) (F6 (G7 rfl) (aR9 A8) rfl hhl))) (G1 (aY7 A8) G8)))) ?_ ?_ (X3 rfl rfl c8 c9))
  .rw[Aa3,Bo];unfold sizeLine;lia
  have eo:(M4 i s.o0 s.o1 (λq=>if q∈h.take nb then i+3 else s.o2 q)).put [] (.lst (((List.range i).map λj=>oN [s.o0 (j+3),s.o1 (j+3),(λq=>if q∈h.take nb then i+3 else s.o2 q) (j+3)])++[.lst [.leaf (.int (x:Int)),.leaf (.int (y:Int)),.leaf (.int ((2:Nat):Int))]]))=M4 (i+1) (TT.put s.o0 (i+3) x) (TT.put s.o1 (i+3) y) (TT.put (λq=>if q∈h.take nb then i+3 else s.o2 q) (i+3) 2):=by rw[OT.put_nil];exact cV6 (k:=i) (o0:=s.o0) (o1:=s.o1) (o2:=λq=>if q∈h.take nb then i+3 else s.o2 q) x y 2
  show W K _ ((rh m F G (M4 i s.o0 s.o1 (λq=>if q∈h.take nb then i+3 else s.o2 q)) (F7 (i+4) s.i0 s.i1 (TT.put s.i2 (i+3) (h.take nb))) (s.path.drop na) (h.drop nb) (.val (.int (i:Int))) (.own [.int (TT.pv F i:Nat),.int (TT.pv G i:Nat)]) z8 z9).set 2 (.tr ((M4 i s.o0 s.o1 (λq=>if q∈h.take nb then i+3 else s.o2 q)).put [] (.lst (((List.range i).map λj=>oN [s.o0 (j+3),s.o1 (j+3),(λq=>if q∈h.take nb then i+3 else s.o2 q) (j+3)])++[.lst [.leaf (.int (x:Int)),.leaf (.int (y:Int)),.leaf (.int ((2:Nat):Int))]]))))) _
  rw[eo];show W K _ (rh m F G (M4 (i+1) (TT.put s.o0 (i+3) x) (TT.put s.o1 (i+3) y) (TT.put (λq=>if q∈h.take nb then i+3 else s.o2 q) (i+3) 2)) (F7 (i+4) s.i0 s.i1 (TT.put s.i2 (i+3) (h.take nb))) (s.path.drop na) (h.drop nb) (.val (.int (i:Int))) (.own [.int (TT.pv F i:Nat),.int (TT.pv G i:Nat)]) z8 z9) _
  refine B1 (Z6 (u0:=F7 (i+4) s.i0 s.i1 (TT.put s.i2 (i+3) (h.take nb))) (π:=[]++[x]++[0]) (aI5 0 (aI5 x aE7 (F6 (G7 rfl) (aR9 A8) rfl hpl) rfl (λu _=>⟨u,rfl⟩)) A8 rfl (λu0 h=>by cases h;exact⟨_,aE4 (by lia)⟩)) rfl (cT2 (by lia)) (aY7 (L9 A8 (A4 rfl))) ?_ ?_ (X3 rfl rfl c8 c9))
  .rw[Aa3];unfold sizeLine;lia
  have ej:=cN0 (n:=i+4) (q:=x) (i0:=s.i0) (i1:=s.i1) (i2:=TT.put s.i2 (i+3) (h.take nb)) (by lia) (i+3)
  rw[<- e3]at ej;show W K _ ((rh m F G (M4 (i+1) (TT.put s.o0 (i+3) x) (TT.put s.o1 (i+3) y) (TT.put (λq=>if q∈h.take nb then i+3 else s.o2 q) (i+3) 2)) (F7 (i+4) s.i0 s.i1 (TT.put s.i2 (i+3) (h.take nb))) (s.path.drop na) (h.drop nb) (.val (.int (i:Int))) (.own [.int (TT.pv F i:Nat),.int (TT.pv G i:Nat)]) z8 z9).set 3 (.tr ((F7 (i+4) s.i0 s.i1 (TT.put s.i2 (i+3) (h.take nb))).put ([]++[x]++[0]) (.lst (((s.i0 x).map λ(x:Nat)=>OT.leaf (.int (x:Int)))++[.leaf (.int (3+(i:Int)))]))))) _
  rw[ej];show W K _ (rh m F G (M4 (i+1) (TT.put s.o0 (i+3) x) (TT.put s.o1 (i+3) y) (TT.put (λq=>if q∈h.take nb then i+3 else s.o2 q) (i+3) 2)) (F7 (i+4) (TT.put s.i0 x (s.i0 x++[i+3])) s.i1 (TT.put s.i2 (i+3) (h.take nb))) (s.path.drop na) (h.drop nb) (.val (.int (i:Int))) (.own [.int (TT.pv F i:Nat),.int (TT.pv G i:Nat)]) z8 z9) _
  refine B1 (Z6 (u0:=F7 (i+4) (TT.put s.i0 x (s.i0 x++[i+3])) s.i1 (TT.put s.i2 (i+3) (h.take nb))) (π:=[]++[y]++[1]) (aI5 1 (aI5 y aE7 (F6 (G7 rfl) (aR9 A8) rfl hhl) rfl (λu _=>⟨u,rfl⟩)) A8 rfl (λu0 h=>by cases h;exact⟨_,aE4 (by lia)⟩)) rfl (cR0 (by lia)) (aY7 (L9 A8 (A4 rfl))) ?_ ?_ (X3 rfl rfl c8 c9))
  .rw[Aa3];unfold sizeLine;lia
  have ek:=cD4 (n:=i+4) (q:=y) (i0:=TT.put s.i0 x (s.i0 x++[i+3])) (i1:=s.i1) (i2:=TT.put s.i2 (i+3) (h.take nb)) (by lia) (i+3)
  rw[<- e3]at ek;show W K _ ((rh m F G (M4 (i+1) (TT.put s.o0 (i+3) x) (TT.put s.o1 (i+3) y) (TT.put (λq=>if q∈h.take nb then i+3 else s.o2 q) (i+3) 2)) (F7 (i+4) (TT.put s.i0 x (s.i0 x++[i+3])) s.i1 (TT.put s.i2 (i+3) (h.take nb))) (s.path.drop na) (h.drop nb) (.val (.int (i:Int))) (.own [.int (TT.pv F i:Nat),.int (TT.pv G i:Nat)]) z8 z9).set 3 (.tr ((F7 (i+4) (TT.put s.i0 x (s.i0 x++[i+3])) s.i1 (TT.put s.i2 (i+3) (h.take nb))).put ([]++[y]++[1]) (.lst (((s.i1 y).map λ(x:Nat)=>OT.leaf (.int (x:Int)))++[.leaf (.int (3+(i:Int)))]))))) _
  rw[ek];show W K _ (rh m F G (M4 (i+1) (TT.put s.o0 (i+3) x) (TT.put s.o1 (i+3) y) (TT.put (λq=>if q∈h.take nb then i+3 else s.o2 q) (i+3) 2)) (F7 (i+4) (TT.put s.i0 x (s.i0 x++[i+3])) (TT.put s.i1 y (s.i1 y++[i+3])) (TT.put s.i2 (i+3) (h.take nb))) (s.path.drop na) (h.drop nb) (.val (.int (i:Int))) (.own [.int (TT.pv F i:Nat),.int (TT.pv G i:Nat)]) z8 z9) _
  refine Q8 (ds:=nI (s.path.drop na).reverse) rfl (L9 A8 (A4 rfl)) ?_ ⟨.val (.int (i:Int)),.own [.int (TT.pv F i:Nat),.int (TT.pv G i:Nat)],z8,z9,⟨rfl,rfl,c8,c9⟩,?_⟩ (X3 rfl rfl c8 c9)
  .rw[C7,Ae2,Bk];unfold sizeLine;lia
  rw[hst];simp only[TT.S.step,sk,hh,ex,ey,Bi];rw[e3];unfold rh
  simp[nI]
  rfl
 .rintro _ ⟨X,U,x8,c,⟨b6,b7,b8,b9⟩,rfl⟩;have em:(R8 0 (((fl F m).map PyData.int).length:Int).toNat).length=m:=by rw[P4,N];lia
  rw[em];have GI:=TT.R4 R m (Aa7 _);have Lm:=TT.aO3 GI.inv;have I2:=TT.cP2 R m (Aa7 _);have pl:=GI.p;have hl:=GI.h;have gk:=GI.k;have gle:=GI.le;have gle2:=GI.le2;obtain⟨p,hp⟩:=GI.inv.pe;obtain⟨h,hh⟩:=GI.inv.he;have R2:=cU5 hp hh;have R0:=TT.aG9 (s:=TT.gst F G m);have R1:=TT.aQ8 (s:=TT.gst F G m);have RI:∀q,3<=q->q<m+3->(TT.gst F G m).row q=_:=λq h1 h2=>TT.P9 h1 (by rw[gk];exact h2)
  generalize hs:TT.gst F G m=s at Lm I2 pl hl gk hp hh R2 R0 R1 RI k ⊢;rw[gk]at Lm;refine B1 (bG8 (λk ρ=>∃j,j+k+1=s.path.length/\ρ=rh m F G (M4 m s.o0 s.o1 s.o2) (F7 (m+3) s.i0 s.i1 s.i2) (s.path.drop j) (s.h1 j) X U x8 c) ⟨s.path.length-1,0,by rw[hp];simp,rfl⟩ ?_)
  rintro k0 _ ⟨j,M,rfl⟩;refine⟨_,J8 (y7 (U2 (A3 (G7 rfl) A7)) A8),?_⟩;have el:(nI (s.path.drop j).reverse).length=k0+1:=by rw[C7,Ae2,Bk];lia
  rw[el];by_cases hk:k0=0
  .subst hk;rw[Ab (by simp)]
   have ej:s.path.drop j=[0]:=by
    rw[hp,Ab7]at M;rw[hp,List.drop_append,List.drop_of_length_le (by simp at M;lia)]
    have:j-p.length=0:=by simp at M;lia
    rw[this];rfl
   have eh:s.h1 j=(p.reverse++h)++[1]:=by
    unfold TT.S.h1;rw[hp,Ab7]at M;rw[hp,hh,Dg (by simp at M;lia),Dm (by simp at M;lia)]
    simp
   rw[ej,eh];generalize hq:p.reverse++h=q at R2;have ql:q.length<=3000:=by
    have:=Lm 2
    rw[R2]at this;simp at this;lia
   have ei:s.i2=TT.put s.i2 2 (q.take 0):=by
    funext z;by_cases e:z=2
    .rw[e,TT.D6,I2];rfl
    .rw[TT.C3 e]
   rw[ei];refine B1 (bG8 (λk ρ=>∃j,j+k=q.length/\ρ=rh m F G (M4 m s.o0 s.o1 s.o2) (F7 (m+3) s.i0 s.i1 (TT.put s.i2 2 (q.take j))) [0] ((q++[1]).drop j) X U x8 c) ⟨q.length,0,by lia,rfl⟩ ?_)
   rintro k1 _ ⟨Y,hj1,rfl⟩;refine⟨_,J8 (y7 (U2 (A3 (G7 rfl) A7)) A8),?_⟩;have el:(nI ((q++[1]).drop Y).reverse).length=k1+1:=by rw[C7,Ae2,Bk];simp;lia
   rw[el];by_cases hk:k1=0
   .subst hk;rw[Ab (by simp)]
    have ej1:Y=q.length:=by lia
    subst ej1;rw[De];refine cG8 (i:=3) rfl (cG8 (i:=2) rfl ?_);rw[cB2,cA2];show W K _ (rh2 m F G (.list ((List.range m).map λj=>lN [s.o0 (j+3),s.o1 (j+3),s.o2 (j+3)])) (.list ((List.range (m+3)).map λz=>.tuple [lN (s.i0 z),lN (s.i1 z),lN (TT.put s.i2 2 q z)])) (nI ([0]:AD).reverse) (nI ((q++[1]).drop q.length).reverse) X U x8 c .no .no .no .no) _
    generalize hiD:(PyData.list ((List.range (m+3)).map λz=>.tuple [lN (s.i0 z),lN (s.i1 z),lN (TT.put s.i2 2 q z)]))=iD
    generalize hoD:(PyData.list ((List.range m).map λj=>lN [s.o0 (j+3),s.o1 (j+3),s.o2 (j+3)]))=oD
    generalize hpD:nI ([0]:AD).reverse=pD;generalize hhD:nI ((q++[1]).drop q.length).reverse=hD;show W K _ (rh2 m F G oD iD pD hD X U x8 c .no .no .no .no) _;have sqi:sq iD=some ((List.range (m+3)).map λz=>.tuple [lN (s.i0 z),lN (s.i1 z),lN (TT.put s.i2 2 q z)]):=by rw[<- hiD];rfl
    have sqo:sq oD=some ((List.range m).map λj=>lN [s.o0 (j+3),s.o1 (j+3),s.o2 (j+3)]):=by rw[<- hoD];rfl
    have L0:=Lm 0
    have L1:=Lm 1
    have L2':=Lm 2
    rw[R0]at L0;rw[R1]at L1;rw[R2]at L2';simp only[Ba,Ab7,Ae2,List.length_nil]at L0 L1 L2';refine B1 (G3 (ds:=[lN (s.row 0)]) (F5 (A3 (EF.toN (R7 (l:=[1]++s.i0 0) (l':=[2]) (EF.e' (R7 (l:=[1]) (l':=s.i0 0) (EF.e' (F5 (A3 A8 A7))) (F6 (F6 (A4 rfl) A8 sqi (aF5 (q:=0) (by lia))) A8 rfl rfl) (by simp;lia))) (EF.e' (F5 (A3 A8 A7))) (by simp;lia)) (by rw[R0];simp)) A7)) ?_ (show 10<14 by decide))
    show W K _ (rh2 m F G oD iD pD hD X U x8 c (.own [lN (s.row 0)]) .no .no .no) _
    refine B1 (Q8 (d:=lN (s.row 1)) rfl (EF.toN (R7 (l:=[2]++(s.i1 1).reverse) (l':=[0]) (EF.e' (R7 (l:=[2]) (l':=(s.i1 1).reverse) (EF.e' (F5 (A3 A8 A7))) (EF.e' (bX9 (F6 (F6 (A4 rfl) A8 sqi (aF5 (q:=1) (by lia))) A8 rfl rfl))) (by simp;lia))) (EF.e' (F5 (A3 A8 A7))) (by simp;lia)) (by rw[R1];simp)) (by show 1<_;unfold sizeLine;lia) ?_ (bR4 b6 b7 b8 b9 rfl rfl rfl rfl))
    show W K _ (rh2 m F G oD iD pD hD X U x8 c (.own [lN (s.row 0),lN (s.row 1)]) .no .no .no) _
    refine B1 (Q8 (d:=lN (s.row 2)) rfl (EF.toN (R7 (l:=[0]++TT.put s.i2 2 q 2) (l':=[1]) (EF.e' (R7 (l:=[0]) (l':=TT.put s.i2 2 q 2) (EF.e' (F5 (A3 A8 A7))) (F6 (F6 (A4 rfl) A8 sqi (aF5 (q:=2) (by lia))) A8 rfl rfl) (by rw[TT.D6];simp;lia))) (EF.e' (F5 (A3 A8 A7))) (by rw[TT.D6];simp;lia)) (by rw[R2,TT.D6];simp)) (by show 2<_;unfold sizeLine;lia) ?_ (bR4 b6 b7 b8 b9 rfl rfl rfl rfl))
    show W K _ (rh2 m F G oD iD pD hD X U x8 c (.own ((List.range (0+3)).map λz=>lN (s.row z))) .no .no .no) _
    refine B1 (U7 (T3 (A3 (U2 (A3 (A4 rfl) A7) sqo) A7) ?_ ?_) (λv ρ=>∃x11 x12 x13,(x11.nb=true/\x12.nb=true/\x13.nb=true)/\ρ=rh2 m F G oD iD pD hD X U x8 c (.own ((List.range (v+3)).map λz=>lN (s.row z))) x11 x12 x13) ⟨.no,.no,.no,⟨rfl,rfl,rfl⟩,rfl⟩ ?_ ?_)
    .simp <;> lia
    .simp <;> lia
    .rintro v d _ J ⟨x11,x12,x13,⟨b11,b12,b13⟩,rfl⟩;obtain⟨rfl,hv⟩:=T0 J;have hv:v<m:=by simpa using hv
     have e3:(3:Int)+(v:Int)=((v+3:Nat):Int):=by lia
     have i2v:TT.put s.i2 2 q (v+3)=s.i2 (v+3):=TT.C3 (by lia)
     have Rv:=RI (v+3) (by lia) (by lia)
     have Lv:=Lm (v+3)
     rw[Rv]at Lv;simp only[Ba,Ab7,Ae2]at Lv;refine⟨_,C8,?_⟩;refine B1 (K7 (d:=.tuple [lN (s.i0 (v+3)),lN (s.i1 (v+3)),lN (s.i2 (v+3))]) (F6 (A4 rfl) (L9 A8 (A4 rfl)) sqi ?_) ?_)
     .rw[e3,aF5 (by lia),i2v]
     show W K _ (rh2 m F G oD iD pD hD X U x8 c (.own ((List.range (v+3)).map λz=>lN (s.row z))) (.val (.int (v:Int))) (.val (.tuple [lN (s.i0 (v+3)),lN (s.i1 (v+3)),lN (s.i2 (v+3))])) x13) _
     refine B1 (G3 (ds:=nI ([s.o0 (v+3)]++s.i2 (v+3)++[s.o1 (v+3)]++s.i0 (v+3))) (R7 (EF.e' (R7 (l':=[s.o1 (v+3)]) (EF.e' (R7 (l:=[s.o0 (v+3)]) (EF.e' (F5 (A3 (F6 (d':=.int (s.o0 (v+3):Nat)) (F6 (A4 rfl) (A4 rfl) sqo (aF5 hv)) A8 rfl rfl) A7) (show 1<=16777216 by decide))) (F6 (A4 rfl) A8 rfl rfl) (by simp;lia)))
      (EF.e' (F5 (A3 (F6 (d':=.int (s.o1 (v+3):Nat)) (F6 (A4 rfl) (A4 rfl) sqo (aF5 hv)) A8 rfl rfl) A7) (show 1<=16777216 by decide))) (by simp;lia))) (F6 (A4 rfl) A8 rfl rfl) (by simp;lia)) ?_ (show 13<14 by decide))
     show W K _ (rh2 m F G oD iD pD hD X U x8 c (.own ((List.range (v+3)).map λz=>lN (s.row z))) (.val (.int (v:Int))) (.val (.tuple [lN (s.i0 (v+3)),lN (s.i1 (v+3)),lN (s.i2 (v+3))])) (.own (nI ([s.o0 (v+3)]++s.i2 (v+3)++[s.o1 (v+3)]++s.i0 (v+3))))) _
     refine Q8 (ds:=(List.range (v+3)).map λz=>lN (s.row z)) (d:=lN (s.row (v+3))) rfl (EF.toN (R7 (l:=[s.o0 (v+3)]++s.i2 (v+3)++[s.o1 (v+3)]++s.i0 (v+3)++[s.o2 (v+3)]) (l':=(s.i1 (v+3)).reverse) (EF.e' (R7 (l:=[s.o0 (v+3)]++s.i2 (v+3)++[s.o1 (v+3)]++s.i0 (v+3)) (l':=[s.o2 (v+3)]) (G7 rfl) (EF.e' (F5 (A3 (F6 (d':=.int (s.o2 (v+3):Nat)) (F6 (A4 rfl) (A4 rfl) sqo (aF5 hv)) A8 rfl rfl) A7) (show 1<=16777216 by decide))) (by simp;lia)))
      (EF.e' (bX9 (F6 (A4 rfl) A8 rfl rfl))) (by simp;lia)) (by rw[Rv];simp)) ?_ ⟨.val (.int (v:Int)),.val (.tuple [lN (s.i0 (v+3)),lN (s.i1 (v+3)),lN (s.i2 (v+3))]),.own (nI ([s.o0 (v+3)]++s.i2 (v+3)++[s.o1 (v+3)]++s.i0 (v+3))),⟨rfl,rfl,rfl⟩,?_⟩ (bR4 b6 b7 b8 b9 rfl rfl rfl rfl)
     .rw[Aa3,Bo];unfold sizeLine;lia
     .have er:(List.range (v+3)).map (λz=>lN (s.row z))++[lN (s.row (v+3))]=(List.range (v+1+3)).map λz=>lN (s.row z):=by
       rw[show v+1+3=(v+3)+1 by lia,Bq (n:=v+3),Ad2];rfl
      rw[er];rfl
    rintro _ ⟨x11,x12,x13,⟨b11,b12,b13⟩,rfl⟩;rw[P4];have e4:((((List.range m).map λj=>lN [s.o0 (j+3),s.o1 (j+3),s.o2 (j+3)]).length:Int)).toNat=m:=by simp
    rw[e4];refine aV8 (i:=10) rfl ?_;exact S3 (M3 (A3 (A4 rfl) (A3 (A4 rfl) A7))) (by rw[<- hoD])
   .have J:decide (((k1+1:Nat):Int)>1)=true:=by simp;lia
    rw[J,Ac rfl];have hlt:Y<q.length:=by lia
    have e1:(q++[1]).drop Y=q[Y]::(q++[1]).drop (Y+1):=by
     rw[Bh (by simp;lia),List.getElem_append_left hlt]
    have e2:q.take (Y+1)=q.take Y++[q[Y]]:=Bm hlt
    refine bO6 (i:=3) (j:=5) (d:=.int (q[Y]:Nat)) (u0:=F7 (m+3) s.i0 s.i1 (TT.put s.i2 2 (q.take Y))) (π:=[]++[2]++[2]) (aI5 2 (aI5 2 aE7 A8 rfl (λu _=>⟨u,rfl⟩)) A8 rfl (λu0 h=>by cases h;exact⟨_,aE4 (by lia)⟩))
     (bO5 (ds:=nI ((q++[1]).drop (Y+1)).reverse) ?_ (X3 b6 b7 b8 b9)) (by decide) ⟨_,rfl,rfl⟩ rfl rfl (bU0 (by lia)) ?_ ⟨k1-1,by lia,Y+1,by lia,?_⟩ (X3 (m:=m) (F:=F) (G:=G) (o:=M4 m s.o0 s.o1 s.o2) (i:=F7 (m+3) s.i0 s.i1 (TT.put s.i2 2 (q.take Y))) (p:=[0]) (h:=(q++[1]).drop (Y+1)) b6 b7 b8 b9)
    .show some (Sl.own (nI ((q++[1]).drop Y).reverse))=_
     rw[e1,List.reverse_cons,Y6];rfl
    .rw[Aa3,TT.D6,Ad1];unfold sizeLine;lia
    .rw[bL4 (by lia),bU5,TT.D6,<- e2];rfl
  .have J:decide (((k0+1:Nat):Int)>1)=true:=by simp;lia
   rw[J,Ac rfl];obtain⟨x,hx⟩:∃x,s.path[j]? = some x:=⟨_,Aa2 (by lia)⟩
   have e1:s.path.drop j=x::s.path.drop (j+1):=by
    obtain⟨h1,h2⟩:=Ab0.mp hx;rw[<- h2];exact Bh h1
   have e2:s.h1 (j+1)=x::s.h1 j:=by
    unfold TT.S.h1;obtain⟨h1,h2⟩:=Ab0.mp hx;rw[Bm h1,h2];simp
   refine aK8 (ds:=nI (s.h1 j).reverse) (bO5 (d:=.int (x:Int)) (ds:=nI (s.path.drop (j+1)).reverse) ?_ (X3 b6 b7 b8 b9)) rfl rfl ?_ ⟨k0-1,by lia,j+1,by lia,?_⟩ (X3 (m:=m) (F:=F) (G:=G) (o:=M4 m s.o0 s.o1 s.o2) (i:=F7 (m+3) s.i0 s.i1 s.i2) (p:=s.path.drop (j+1)) (h:=s.h1 j) b6 b7 b8 b9)
   .show some (Sl.own (nI (s.path.drop j).reverse))=_
    rw[e1];simp[nI]
   .rw[C7,Ae2];unfold TT.S.h1 PySem.sizeLine;simp only[Ab7,Ae2,Ad1]
    lia
   .rw[e2];unfold rh
    simp[nI]
end
theorem aM8:D9 ["_law_script", "_law_k"] ["_law_script", "_law_k"] (B2 X1):=⟨rfl,rfl,rfl,by decide +kernel,rfl,by decide +kernel,by decide +kernel⟩
theorem sc__law_begun:D9 ["_law_turn", "_law_at"] ["_law_turn"] (B2 u7):=⟨rfl,rfl,rfl,by decide +kernel,rfl,by decide +kernel,by decide +kernel⟩
theorem aV2:D9 ["_law_found"] ["_law_found"] (B2 u6):=⟨rfl,rfl,rfl,by decide +kernel,rfl,by decide +kernel,by decide +kernel⟩
theorem cD5 {K:Frag}{pre:AG->AG->Prop}{n:Nat}(h:∀ds d,pre ds d->ds.length=n):∀vs H Q E,spL K pre vs H Q E->vs.length=n:=λvs H Q E ⟨ds,S,d,_,r,p,_⟩=>by
 have e:=r.length
 rw[e];exact h ds d p
def cl (ns:AF)(k:Int):Int:=(ns[k.toNat]?).getD 0
def bU9 (ds:AG)(d:PyData):Prop:=∃ns k,0<=k/\ds=[lI ns,.int k]/\d=.int (cl ns k)
def bJ9 (ds:AG)(d:PyData):Prop:=∃i,ds=[.int i]/\d=.bool true
def tN (l:AD):PyData:=.tuple (nI l)
def cP9 (ds:AG)(d:PyData):Prop:=∃l:AD,l≠[]/\l.length<=10000/\ds=[lN l]/\d=tN (TT.U1 l)
theorem aR7 (M:Nat):∀l:AD,(l.map λ(x:Nat)=>(x:Int)).idxOf (M:Int)=l.idxOf M
 | []=>rfl
 | b::l=>by
  rw[Ac7,List.idxOf_cons,List.idxOf_cons,aR7 M l];by_cases e:b=M
  .subst e;simp
  .have e':¬(b:Int)=(M:Int):=by lia
   have h1:(b==M)=false:=by simpa using e
   have y:((b:Int)==(M:Int))=false:=by simpa using e'
   rw[h1,y]
section
variable {P:Program}{w:World}{K:Frag}{mg:Str->Option Value}{base:Heap}{a:Ad}
theorem bY0 (T:Tx K mg a):E9 P w K mg base CX0 1 a.V2 a.V6 ["_law_script", "_law_k"] (spV K bU9):=by
 refine T.M5.ok aM8 (v6 λds d ⟨_,_,_,e,_⟩=>by rw[e];rfl) (λc A z s H vs Q E Y h=>?_)
 obtain⟨ds,S,d,p,r,⟨y,k,m,rfl,rfl⟩,q⟩:=h;refine⟨_,(A5 (U8 (F9 aT2 (pv 1) (B0 K8 (by rfl) T.N5 Ar (A1 (pv 0) A2)) (K4 _)) (A9 (E8 (B9 C4 (pv 0) (pv 1) (λ_ _=>rfl)))) M0)
   (A9 (E8 A6))),O0 p r ?_ q⟩
 refine B1 (aJ7 (J8 (y7 (A4 rfl) (U2 (A3 (A4 rfl) A7)))) (λh=>(S3 (d:=.int (cl y k)) (F6 (A4 rfl) (A4 rfl) rfl ?_) rfl)) (λh=>O7 ?_))
 .have h:k<(y.map PyData.int).length:=As h
  rw[Aa3]at h;refine M6 k.toNat (by lia) ?_
  have j:k.toNat<y.length:=by lia
  rw[Aa9,Aa2 j];unfold cl;rw[Aa2 j];rfl
 have h:¬k<((y.map PyData.int).length:Int):=Ay h
 rw[Aa3]at h;refine(S3 A8 ?_);show PyData.int 0=.int (cl y k);unfold cl;rw[Ad6 (by lia)];rfl
theorem cQ6 (T:Tx K mg a):E9 P w K mg base CX0 1 a.l7 a.t7 ["_law_found"] (spV K bJ9):=by
 refine T.aF2.ok aV2 (v6 λds d ⟨_,e,_⟩=>by rw[e];rfl) (λz A y s H vs Q E j h=>?_)
 obtain⟨ds,S,d,k,r,⟨i,rfl,rfl⟩,q⟩:=h;refine⟨_,(A9 (E8 (bQ1 (B0 aO5 (by rfl) T.E7 boot_isinstance (A1 (pv 0) (A1 (aL4 rfl T.cH9 boot_int) A2))) (aP9 (dK1 (B0 aO5 (by rfl) T.E7 boot_isinstance (A1 (pv 0) (A1 (aL4 rfl T.bP2 boot_bool) A2)))))))),O0 k r ?_ q⟩
 refine(S3 (cL4 (bK9 (A4 rfl)) λh=>(dN8 (bK9 (A4 rfl)))) ?_)
 rfl
theorem cI8 (T:Tx K mg a):E9 P w K mg base CX0 1 a.p4 a.o7 ["_law_turn"] (spV K cP9):=by
 refine T.aF7.ok sc__law_begun (v6 λds d ⟨_,_,_,e,_⟩=>by rw[e];rfl) (λJ A X s H vs Q E hr h=>?_)
 obtain⟨ds,S,d,N,r,⟨l,Y,B,rfl,rfl⟩,q⟩:=h;refine⟨_,(A5 (B5 (i:=1) sc__law_begun.nd rfl (Or.inl rfl) (L8 Ab1 PySem.F.slot_list_index PySem.F.type_list_index (cB5 K) (pv 0) (A1 (B0 (aW2 K rfl) (by rfl) T.bT5 boot_min (A1 (pv 0) A2)) A2)))
   (A9 (E8 (Q3 P1 (by rfl) T.P6 boot_tuple (A1 (B4 (N4 K) (T9 bB5 (pv 0) (T6 (pv 1)) aA9) (T9 bB5 (pv 0) aA9 (T6 (pv 1)))) A2))))),O0 N r ?_ q⟩
 obtain⟨j,p⟩:=TT.bA0 Y;have M:lN l=lI (l.map λ(x:Nat)=>(x:Int)):=by unfold lN lI nI;simp
 have U:((TT.mn l:Nat):Int)∈(l.map λ(x:Nat)=>(x:Int))/\∀z∈(l.map λ(x:Nat)=>(x:Int)),((TT.mn l:Nat):Int)<=z:=⟨Aa8.mpr ⟨_,j,rfl⟩,λz D=>by
  obtain⟨y,R,rfl⟩:=Aa8.mp D
  have:=p y R
  lia⟩
 have c:=aR7 (TT.mn l) l
 have k:l.idxOf (TT.mn l)<=l.length:=Bw (Ac4 j)
 refine B1 (K7 (d:=.int (l.idxOf (TT.mn l):Nat)) ?_ ?_)
 .have h:=cO5 (K:=K) (m:=true) (ρ:=sl0 ["_law_turn", "_law_at"].length [lI (l.map λ(x:Nat)=>(x:Int))]) (ta:=E1 0) (A4 (i:=0) rfl) (dA7 (A3 (A4 (i:=0) rfl) A7) U) U.1
  rw[c]at h;rw[M];exact h
 refine S3 (j8 (A3 (EF.e' (bB1 (EF.e' (cJ4 (ds:=nI l) (A4 rfl) (Y7 (A4 rfl)) aJ9 (E6 l))) (EF.e' (cJ4 (ds:=nI l) (A4 rfl) aJ9 (Y7 (A4 rfl)) (E6 l))) (U0 _ _ (E6 l)) (U0 _ _ (E6 l)) ?_)) A7) ?_) ?_
 .rw[aK2 (by rw[C7];exact k),aQ0 (by rw[C7];exact k),Bk,Ad1,C7];unfold sizeLine;lia
 .rw[Z9,U0 _ _ (E6 l),U0 _ _ (E6 l)];rfl
 .show PyData.tuple _=tN _
  rw[aK2 (by rw[C7];exact k),aQ0 (by rw[C7];exact k)]
  unfold tN TT.U1 nI
  simp
end
end K40
namespace LV
open PySem L2
section
variable {K:Frag}{ρ ρ' ρ1:List Sl}{m m':Bool}{t ta tb tc:TE}{d d':PyData}{ds es:AG}
theorem cG4 {i:Nat}{k:Int}{R:AE}(n:Nat)(q:E K true t ρ d)(hi:ρ[i]? = some (.own ds))(Y:E K false tb ρ (.int k))(y:k=n)(U:n<ds.length)(X:R.nx (ρ.set i (.own (ds.set n d))))(nb:S2 ρ=true:=by rfl) :
  W K (aV3 t (dE9 (E1 i) tb cQ7)) ρ R:=λS B D σ H o I s=>by
 refine q S B σ H o I _ λx j r J=>?_
 obtain⟨p,hp,a,xs,b,c⟩:=(I.grow r).own i ds hi;refine⟨_,a,?_⟩;refine Y S B σ j o (I.grow r) _ λw M e z=>?_
 cases z
 have N:=c.length
 refine⟨p,xs,k,n,rfl,rfl,e _ _ b,by unfold ixN;rw[Ac (by lia),Ac (by lia)];simp[y],?_⟩
 exact s.nx _ σ _ _ (((I.grow r).grow e).upd hi hp ((c.mono (K1 e)).set n (J.mono (K1 e))) (L5 nb)) X
theorem Reps.rep {H:Hp}{xs:List V}(r:Reps K H xs ds):∀n:Nat,Reps K H (List.replicate n xs).flatten (List.replicate n ds).flatten
 | 0=>.nil
 | n+1=>by
  rw[Bg,Bg,Bs,Bs];exact r.append (Reps.rep r n)
theorem bJ5 (h:K0 ds=true):∀n:Nat,K0 (List.replicate n ds).flatten=true
 | 0=>rfl
 | n+1=>by rw[Bg,Bs,Z9,h,bJ5 h n];rfl
theorem cI4 {k:Int}(Y:EF K ta ρ ds)(X:E K false tb ρ (.int k))(hi:K0 ds=true)(h1 : -(2^63)<=k)(s:k<2^63)(U:ds.length*k.toNat<=sizeLine):EF K (tOp dQ5 ta tb) ρ (List.replicate k.toNat ds).flatten:=λS B σ H o I Q q=>
 Y S B σ H o I _ λp xs H1 z R c M=>X S B σ H1 o (I.grow z) _ λy j w N=>by
  cases N
  have r:Reps K j xs ds:=(M.mono U5).mono w
  refine⟨p,k,xs,rfl,rfl,w _ _ c,h1,s,by rw[r.length];exact U,λJ e=>?_⟩
  exact q J _ _ (L2.Same.tr (L2.Same.tr z w) (C9 e)) (S4 (L2.Same.tr z w) e) C2 (v9 (I.grow (L2.Same.tr z w)).lists e (r.rep _) (bJ5 hi _))
theorem aF3 {H:Hp}:∀{ts:AC} {vs:List V},Reps K H vs (ts.map tI)->(∀t∈ts,t≠[])->TupsV K H vs ts
 | [],_,r,_=>by cases r;exact trivial
 | t::ts,_,r,h=>by
  cases r with
  | cons a b=>
   refine⟨?_,aF3 b λt e=>h t (by simp[e])⟩
   cases a with
   | tup s r=>rw[r.ints]at s;exact⟨_,rfl,s,h t (by simp)⟩
theorem aK5 {H:Hp}{vs:List V}{ts:AC}(r:Reps K H vs (ts.map tI)):∀{q:AD},(∀i∈q,i<vs.length)->Reps K H (q.map λi=>vs.getD i .non) ((q.map λi=>ts.getD i []).map tI)
 | [],_=>.nil
 | i::q,h=>by
  have hi:=h i (by simp)
  have z:=r.length
  rw[Aa3]at z;obtain⟨v,h1,y⟩:=r.get' (i:=i) (d:=tI (ts.getD i [])) (by
   rw[Aa9,Aa2 (by lia)]
   simp[List.getD,Aa2 (show i<ts.length by lia)])
  have e:vs.getD i .non=v:=by simp[List.getD,h1]
  rw[Ac7,Ac7,Ac7,e];exact .cons y (aK5 r λj w=>h j (by simp[w]))
theorem aQ6 {t:TA}{ts ss:AC}(J:A K false t ρ [.list (ts.map tI)])(k:∀t∈ts,t≠[])(U:ts.length<64)(hp:ss.Perm ts)(R:ss.Pairwise F1) :
  EF K (tCB (λxs H Q=>∃(p:Addr) (ys:List V) (ts:AC),xs=[.ref p]/\SqL K H p ys/\TupsV K H ys ts/\ys.length<64 /\
   ∀a (q:AD),H a=none->q.Perm (List.range ys.length)->(q.map λi=>ts.getD i []).Pairwise F1->Q (.ref a) (upd H a (.lst (q.map λi=>ys.getD i .non)))) t) ρ (ss.map tI):=
 cE4 J (W8 bD7 ss) λH vs Q r q=>by
  cases r with
  | cons a b=>
   cases b
   cases a with
   | @lst p xs _ s r=>
    have N:=r.length
    rw[Aa3]at N;refine⟨p,xs,ts,rfl,s,aF3 r k,by lia,λa z h1 w Y=>q a _ h1 ?_⟩
    have e:(z.map λi=>ts.getD i [])=ss:=by
     have y:(z.map λi=>ts.getD i []).Perm ts:=by
      have c:(z.map λi=>ts.getD i []).Perm ((List.range xs.length).map λi=>ts.getD i []):=w.map _
      have X:(List.range xs.length).map (λi=>ts.getD i [])=ts:=by
       refine List.ext_getElem? λj=>?_
       by_cases M:j<xs.length
       .rw[N7 M];simp[List.getD,Aa2 (show j<ts.length by lia)]
       .rw[Ad6 (by simp;lia),Ad6 (by lia)]
      rw[X]at c;exact c
     exact List.Perm.eq_of_pairwise (le:=F1) (λa b _ _ h1 w=>W7 a b h1 w) Y R (y.trans hp.symm)
    have:=aK5 r (q:=z) λi hi=>Ab5.mp (w.mem_iff.mp hi)
    rw[e]at this;exact this
end
end LV
namespace K40
open PySem L2 LV PyProof.Rows
theorem aV5:D9 ["_law_cell", "_law_k"] ["_law_cell", "_law_k"] (B2 t6):=⟨rfl,rfl,rfl,by decide +kernel,rfl,by decide +kernel,by decide +kernel⟩
theorem cN3 {i j:Int}(h : -1000000000000000000<i/\i<1000000000000000000)(h' : -1000000000000000000<j/\j<1000000000000000000):CMulB i j:=by
 have:(1000000000000000000:Nat)<2^512:=by decide
 constructor <;> lia
def mx0 (c k:Int):Int:=(c % 1000000007*(k+3)*48271+(k+1)*(k+5)*69621) % 2147483647
def mx (c k:Int):Int:=mx0 c k*40692 % 2147483399
theorem dM5 (c k:Int):0<=mx0 c k/\mx0 c k<2147483647:=⟨Bv _ (by decide),Ce _ (by decide)⟩
theorem dT8 (c k:Int):0<=mx c k/\mx c k<2147483399:=⟨Bv _ (by decide),Ce _ (by decide)⟩
def bJ0 (ds:AG)(d:PyData):Prop:=∃c k,(0<=k/\k<=1000)/\ds=[.int c,.int k]/\d=.int (mx c k)
theorem cD3 {x y A B:Int}(h:0<=x/\x<=A)(h':0<=y/\y<=B):0<=x*y/\x*y<=A*B:=⟨Int.mul_nonneg h.1 h'.1,Int.mul_le_mul h.2 h'.2 h'.1 (Int.le_trans h.1 h.2)⟩
section
variable {P:Program}{w:World}{K:Frag}{mg:Str->Option Value}{base:Heap}{a:Ad}
theorem aO6 (T:Tx K mg a):E9 P w K mg base CX0 1 a.k7 a.l9 ["_law_cell", "_law_k"] (spV K bJ0):=by
 refine T.O6.ok aV5 (v6 λds d ⟨_,_,_,e,_⟩=>by rw[e];rfl) (λp A z s H vs Q E J h=>?_)
 obtain⟨ds,S,d,m,r,⟨c,k,⟨U,h1⟩,rfl,rfl⟩,q⟩:=h;have j:0<=c % 1000000007/\c % 1000000007<=1000000007:=⟨Bv _ (by decide),Int.le_of_lt (Ce _ (by decide))⟩
 have Y:=cD3 j (y:=k+3) (B:=2000) ⟨by lia,by lia⟩
 have b3:=cD3 (x:=k+1) (A:=2000) (y:=k+5) (B:=2000) ⟨by lia,by lia⟩ ⟨by lia,by lia⟩
 have X:=dM5 c k
 refine⟨_,(A9 (E8 (B4 U6 (B4 aH7 (B4 U6 (B4 G4 (B4 aH7 (B4 aH7 (B4 U6 (pv 0) A6) (B4 G4 (pv 1) A6)) A6) (B4 aH7 (B4 aH7 (B4 G4 (pv 1) A6) (B4 G4 (pv 1) A6)) A6)) A6) A6) A6))),O0 m r ?_ q⟩;refine S3 (d:=.int (mx c k)) (e_i (e_i (i:=mx0 c k) (e_i (L9 (e_i (e_i (e_i (A4 rfl) A8 ?_) (L9 (A4 rfl) A8) ?_) A8 ?_) (e_i (e_i (L9 (A4 rfl) A8) (L9 (A4 rfl) A8) ?_) A8 ?_)) A8 ?_) A8 (cN3 (by lia) (by lia))) A8 (by decide)) rfl
 .decide
 .exact cN3 (by lia) (by lia)
 .exact cN3 (by lia) (by lia)
 .exact cN3 (by lia) (by lia)
 .exact cN3 (by lia) (by lia)
 .decide
end
end K40
namespace TT
def pk:Nat->Int->AD->AD
 | 0,_,_=>[]
 | n+1,r,l=>l.getD (r % l.length).toNat 0::pk n (r / l.length) (l.eraseIdx (r % l.length).toNat)
theorem bX5 {r:Int}{l:AD}(h:l≠[]):(r % l.length).toNat<l.length:=by
 have y:0<l.length:=Cr.mpr h
 have h1:=Bv r (b:=(l.length:Int)) (by lia)
 have e:=Ce r (b:=(l.length:Int)) (by lia)
 lia
theorem aT0:∀(l:AD) (i:Nat) (h:i<l.length),(l[i]::l.eraseIdx i).Perm l
 | a::l,0,h=>.refl _
 | a::l,i+1,h=>by
  have ih:=aT0 l i (by simpa using h)
  simp only[List.getElem_cons_succ,List.eraseIdx_cons_succ];exact(List.Perm.swap _ _ _).trans (ih.cons a)
theorem bC8:∀(n:Nat) (r:Int) (l:AD),l.length=n->(pk n r l).Perm l
 | 0,r,l,h=>by rw[List.length_eq_zero_iff.mp h];exact .nil
 | n+1,r,l,h=>by
  have y:l≠[]:=λe=>by rw[e]at h;simp at h
  have hi:=bX5 (r:=r) y
  unfold pk;have e:l.getD (r % l.length).toNat 0=l[(r % l.length).toNat]:=by simp[List.getD,Aa2 hi]
  rw[e];have w:=bC8 n (r / l.length) (l.eraseIdx (r % l.length).toNat) (by rw[List.length_eraseIdx_of_lt hi];lia)
  exact(w.cons _).trans (aT0 l _ hi)
theorem dM1 {m:Nat}{l:AD}(h:l.Perm ((List.range m).map (· + 3))):Nm (m+3) λv=>([0,1,2]++l).getD v 0:=by
 have p:l.length=m:=by rw[h.length_eq];simp
 have nd:([0,1,2]++l).Nodup:=by
  have h1:l.Nodup:=h.nodup_iff.mpr (Ae0.mpr (By.imp λh e=>h (by lia)))
  have k:∀x∈l,3<=x:=λx hx=>by
   obtain⟨y,_,e⟩:=Aa8.mp (h.mem_iff.mp hx)
   lia
  refine Aa4.mpr ⟨by decide,h1,λa j b c e=>?_⟩
  have:=k b c
  simp at j;lia
 have lt:∀x∈[0,1,2]++l,x<m+3:=λx hx=>by
  rcases Aa0.mp hx with hx | hx
  .simp at hx;lia
  .obtain⟨y,s,e⟩:=Aa8.mp (h.mem_iff.mp hx)
   have:=Ab5.mp s
   lia
 have len:([0,1,2]++l).length=m+3:=by simp[p]
 have z:∀v,(r:v<m+3)->([0,1,2]++l).getD v 0=([0,1,2]++l)[v]'(by lia):=λv r=>by rw[Ac0,Aa2 (by lia)];rfl
 refine⟨λv r=>?_,λv w r q e=>?_,rfl,rfl,rfl⟩
 .show([0,1,2]++l).getD v 0<m+3
  rw[z v r];exact lt _ (Df _)
 .have e:([0,1,2]++l).getD v 0=([0,1,2]++l).getD w 0:=e
  rw[z v r,z w q]at e;exact(List.getElem_inj nd).mp e
end TT
namespace K40
open PySem L2 LV PyProof.Rows
theorem sc__law_names:D9 ["_law_cell", "_law_m", "_law_names_here", "_law_rest", "_law_k", "_law_left", "_law_ranks"] ["_law_cell", "_law_m"] (B2 i6):=⟨rfl,rfl,rfl,by decide +kernel,rfl,by decide +kernel,by decide +kernel⟩
def rs (c:Int):Nat->Int
 | 0=>c / 2
 | j+1=>rs c j / 4096
def prs (c:Int)(m:Nat):AC:=(List.range m).map λ(k:Nat)=>[mx c (40+(k:Int)),(k:Int)]
def srt (c:Int)(m:Nat):AC:=(prs c m).mergeSort λa b => !HT.M7 b a
def nm (c:Int)(m:Nat):AD:=[0,1,2]++(if c % 2=1 then TT.pk m (rs c m) ((List.range m).map (· + 3)) else(srt c m).map λt=>(t.getD 1 0).toNat+3)
theorem z5 (c:Int)(m:Nat):(srt c m).Perm (prs c m):=List.mergeSort_perm _ _
theorem cQ8 (c:Int)(m:Nat):(srt c m).Pairwise F1:=by
 have:=List.pairwise_mergeSort (le:=λa b:AF => !HT.M7 b a) (λa b d h1 e=>by
  have:=Z5 a b d (by unfold F1;simpa using h1) (by unfold F1;simpa using e)
  unfold F1 at this;simp[this]) (λa b=>by
  rcases aW6 a b with h | h <;> unfold F1 at h <;> simp[h]) (prs c m)
 refine this.imp λh=>?_
 unfold F1;simpa using h
theorem dM8 (c:Int)(m:Nat):TT.Nm (m+3) λv=>(nm c m).getD v 0:=by
 unfold nm;refine TT.dM1 ?_;split
 .exact TT.bC8 _ _ _ (by simp)
 .refine((z5 c m).map _).trans ?_
  have:(prs c m).map (λt=>(t.getD 1 0).toNat+3)=(List.range m).map (· + 3):=by
   unfold prs;rw[Ae3];rfl
  rw[this]
theorem dE2 (c:Int)(m:Nat):(nm c m).length=m+3:=by
 unfold nm;split
 .rw[Ab7,(TT.bC8 m (rs c m) _ (by simp)).length_eq];simp;lia
 .rw[Ab7,Aa3,(z5 c m).length_eq];simp[prs];lia
def cP8 (ds es:AG):Prop:=∃(c:Int) (m:Nat),m<=20/\ds=[.int c,.int (m:Int)]/\es=nI (nm c m)
theorem aX8 {α β:Type}{f:α->β}:∀(l:List α) (n:Nat),(l.map f).eraseIdx n=(l.eraseIdx n).map f
 | [],n=>rfl
 | a::l,0=>rfl
 | a::l,n+1=>by simp[List.eraseIdx_cons_succ,aX8 l n]
def f1 (c:Int):PyData->Option PyData
 | .int k=>some (tI [mx c (40+k),k])
 | _=>none
def f2:PyData->Option PyData
 | .tuple [_,.int k]=>some (.int (3+k))
 | _=>none
theorem K3 {α β:Type}{f g:α->Option β}:∀{l:List α},(∀x∈l,f x=g x)->l.filterMap f=l.filterMap g
 | [],_=>rfl
 | a::l,h=>by rw[Bc,Bc,h a (by simp),K3 λx e=>h x (by simp[e])]
theorem dC8 (c:Int)(m:Nat):(R8 0 m).filterMap (f1 c)=(prs c m).map tI:=by
 unfold R8 prs;rw[Aw,Ae3,<- List.filterMap_eq_map];refine K3 λx _=>?_
 show f1 c (.int (0+(x:Int)))=_
 rw[Int.zero_add];rfl
theorem bY8 {c:Int}{m:Nat}{t:AF}(h:t∈srt c m):∃k:Nat,t=[mx c (40+(k:Int)),(k:Int)]:=by
 have:=(z5 c m).mem_iff.mp h
 obtain⟨k,_,e⟩:=Aa8.mp this;exact⟨k,e.symm⟩
theorem dD1 (c:Int)(m:Nat):((srt c m).map tI).filterMap f2=nI ((srt c m).map λt=>(t.getD 1 0).toNat+3):=by
 unfold nI;rw[Aw,Ae3,<- List.filterMap_eq_map];refine K3 λt e=>?_
 obtain⟨k,rfl⟩:=bY8 e;show some (PyData.int (3+(k:Int)))=some (PyData.int ((((k:Int)).toNat+3:Nat):Int))
 congr 2
 lia
theorem nd1:(["_law_k", "_law_cell"]:AJ).Nodup:=by decide +kernel
theorem nd2:(["_law_rank"]:AJ).Nodup:=by decide +kernel
section
variable {P:Program}{w:World}{K:Frag}{mg:Str->Option Value}{base:Heap}{a:Ad}
theorem cF9 (T:Tx K mg a):E9 P w K mg base CX0 2 a.m8 a.m5 ["_law_cell", "_law_m"] (spL K cP8):=by
 have z:E9 P w K mg base CX0 1 _ _ _ _:=aO6 T
 refine T.aG4.ok sc__law_names (cD5 λds d ⟨_,_,_,e,_⟩=>by rw[e];rfl) (λcdv A outer s H vs Q E hr h=>?_)
 obtain⟨ds,S,es,hS,r,⟨c,m,hm,rfl,rfl⟩,q⟩:=h;refine⟨_,(A5 (B5 (i:=2) sc__law_names.nd rfl (Or.inl rfl) (C5 (A1 A6 (A1 A6 (A1 A6 A2)))))
   (A5 (U8 (F9 cZ2 (B4 U6 (pv 0) A6) A6 (K4 _)) (A5 (B5 (i:=3) sc__law_names.nd rfl (Or.inl rfl) (B4 aC0 (pv 0) A6))
   (A5 (O8 Au rfl (J9 rfl T.K6 (A1 (pv 1) A2)) (B7 (i:=4) sc__law_names.nd rfl (Or.inl rfl)) (A9 (B5 (i:=3) sc__law_names.nd rfl (Or.inl rfl) (B4 aC0 (pv 3) A6))))
   (A5 (B5 (i:=5) sc__law_names.nd rfl (Or.inl rfl) (Q3 (aV0 rfl) (by rfl) T.aE0 boot_list (A1 (cW4 rfl T.K6 (A1 A6 (A1 (B4 G4 (pv 1) A6) A2))) A2)))
   (A5 (O8 Au rfl (J9 rfl T.K6 (A1 (pv 1) A2)) (B7 (i:=4) sc__law_names.nd rfl (Or.inl rfl)) (A5 (F8 (L8 Ab1 Ah Ag E4 (pv 2) (A1 (L8 Ab1 PySem.F.slot_list_pop PySem.F.type_list_pop cJ9 (pv 5) (A1 (B4 U6 (pv 3) (B0 K8 (by rfl) T.N5 Ar (A1 (pv 5) A2))) A2)) A2)))
   (A9 (B5 (i:=3) sc__law_names.nd rfl (Or.inl rfl) (B4 aC0 (pv 3) (B4 G4 (B0 K8 (by rfl) T.N5 Ar (A1 (pv 5) A2)) A6))))))
   (A9 (E8 (pv 2))))))) M0)
   (A5 (B5 (i:=6) sc__law_names.nd rfl (Or.inl rfl) (B0 (t5 K) (by rfl) T.R3 boot_sorted (A1 (M1 (T:=["_law_k"]) (N':=["_law_k", "_law_cell"]) (is:=[0]) rfl (.of rfl rfl rfl (by exact⟨rfl,trivial⟩) rfl rfl rfl (by first | exact⟨⟨_,rfl,.inl rfl,.inl rfl⟩,trivial⟩ | exact⟨⟨_,rfl,.inr rfl,.inl rfl⟩,trivial⟩)) (J9 rfl T.K6 (A1 (pv 1) A2)) (L6 (by decide)) λ_ _ _ _=>⟨(B7 (i:=0) nd1 rfl (Or.inl rfl)),M8,(E2 (A1 (C6 z (hr.mono (by decide)) rfl T.Q7 T.O6.kp T.R6 .nil G6 (A1 (pv 1) (A1 (B4 G4 A6 (pv 0)) A2))) (A1 (pv 0) A2)))⟩) A2)))
   (A9 (E8 (B4 (N4 K) (pv 2) (M1 (T:=["_law_rank"]) (N':=["_law_rank"]) (is:=[]) rfl (.of rfl rfl rfl trivial rfl rfl rfl trivial) (S0 (pv 6)) (L6 (by decide)) λ_ _ _ _=>⟨(B7 (i:=0) nd2 rfl (Or.inl rfl)),M8,(B4 G4 A6 (B9 (ixK K) (pv 0) A6 (λ_ _=>rfl)))⟩))))))),aR8 hS r ?_ q⟩
 refine B1 (G3 (F5 (A3 A8 (A3 A8 (A3 A8 A7)))) ?_ (show 2<7 by decide))
 show W K _ [.val (.int c),.val (.int (m:Int)),.own (nI [0,1,2]),.no,.no,.no,.no] _
 refine B1 (aJ7 (J8 (cY4 (e_i (A4 rfl) A8 (by decide)) A8)) (λh=>?_) (λh=>O7 ?_))
 .have h:c % 2=1:=As h
  refine B1 (K7 (d:=.int (rs c 0)) (e_i (A4 rfl) A8 ⟨by decide,by decide⟩) ?_)
  refine B1 (U7 (T3 (A3 (A4 rfl) A7) ?_ ?_) (λj ρ=>∃X,X.nb=true/\ρ=[.val (.int c),.val (.int (m:Int)),.own (nI [0,1,2]),.val (.int (rs c j)),X,.no,.no]) ⟨.no,rfl,rfl⟩ ?_ ?_)
  .lia
  .lia
  .rintro j d _ J ⟨X,B,rfl⟩;obtain⟨rfl,hj⟩:=T0 J;refine⟨_,C8,?_⟩;exact K7 (d:=.int (rs c (j+1))) (e_i (A4 rfl) A8 ⟨by decide,by decide⟩) ⟨.val (.int (j:Int)),rfl,rfl⟩
  rintro _ ⟨X,B,rfl⟩;rw[P4,Ac8];refine B1 (G3 (ds:=nI ((List.range m).map (· + 3))) ?_ ?_ (show 5<7 by decide))
  .have:=dE1 (K:=K) (ρ:=[.val (.int c),.val (.int (m:Int)),.own (nI [0,1,2]),.val (.int (rs c m)),X,.no,.no]) (i:=3) (j:=(m:Int)+3) (A3 A8 (A3 (L9 (A4 (i:=1) rfl) A8) A7)) (by lia)
   have e:R8 3 ((m:Int)+3-3).toNat=nI ((List.range m).map (· + 3)):=by
    have e':((m:Int)+3-3).toNat=m:=by lia
    rw[e'];unfold R8 nI;rw[Ae3];refine Al λx _=>?_
    show PyData.int (3+(x:Int))=PyData.int ((x+3:Nat):Int)
    congr 1;lia
   rw[e]at this;exact this
  refine B1 (U7 (T3 (A3 (A4 rfl) A7) ?_ ?_) (λj ρ=>∃X y l r,X.nb=true/\TT.pk m (rs c m) ((List.range m).map (· + 3))=y++TT.pk (m-j) r l/\l.length=m-j/\y.length<=j/\ρ=[.val (.int c),.val (.int (m:Int)),.own (nI ([0,1,2]++y)),.val (.int r),X,.own (nI l),.no]) ⟨X,[],(List.range m).map (· + 3),rs c m,B,by simp,by simp,by simp,rfl⟩ ?_ ?_)
  .lia
  .lia
  .rintro j d _ J ⟨X,y,l,Y,B,U,M,hpl,rfl⟩;obtain⟨rfl,hj⟩:=T0 J;have hj:j<m:=by lia
   have N:l≠[]:=λe=>by rw[e]at M;simp at M;lia
   have hpos:0<l.length:=Cr.mpr N
   have p:=TT.bX5 (r:=Y) N
   have hnn:=Bv Y (b:=(l.length:Int)) (by lia)
   generalize hn:(Y % (l.length:Int)).toNat=n at p;refine⟨_,C8,?_⟩;show W K _ [.val (.int c),.val (.int (m:Int)),.own (nI ([0,1,2]++y)),.val (.int Y),.val (.int (j:Int)),.own (nI l),.no] _;refine B1 (aK8 (i:=2) (j:=5) (ds:=nI ([0,1,2]++y)) (d:=.int (l[n]:Nat)) (cH7 n (ds:=nI l) rfl (e_i (A4 rfl) (U2 (A3 (G7 rfl) A7)) ?_) ?_ ?_ ?_) rfl rfl ?_ ?_)
   .rw[C7];lia
   .rw[C7,<- hn];lia
   .unfold nI;rw[Aa9,Aa2 p];rfl
   .lia
   .rw[C7];simp;unfold sizeLine;lia
   have el:(nI l).eraseIdx n=nI (l.eraseIdx n):=by unfold nI;rw[aX8]
   have el2:((nI (l.eraseIdx n)).length:Int)+1=(l.length:Int):=by rw[C7,List.length_eraseIdx_of_lt p];lia
   have ea:nI ([0,1,2]++y)++[PyData.int (l[n]:Nat)]=nI ([0,1,2]++(y++[l[n]])):=by simp[nI]
   show W K _ [.val (.int c),.val (.int (m:Int)),.own (nI ([0,1,2]++y)++[PyData.int (l[n]:Nat)]),.val (.int Y),.val (.int (j:Int)),.own ((nI l).eraseIdx n),.no] _
   rw[el,ea];refine K7 (d:=.int (Y / (l.length:Int))) ?_ ⟨.val (.int (j:Int)),y++[l[n]],l.eraseIdx n,Y / (l.length:Int),rfl,?_,?_,?_,rfl⟩
   .rw[<- el2];exact e_i (A4 rfl) (L9 (U2 (A3 (G7 rfl) A7)) A8) ⟨by lia,by lia⟩
   .rw[U];obtain⟨k,hk⟩:∃k,m-j=k+1:=⟨m-j-1,by lia⟩
    have hk':m-(j+1)=k:=by lia
    rw[hk,hk'];show y++(l.getD (Y % (l.length:Int)).toNat 0::TT.pk k (Y / (l.length:Int)) (l.eraseIdx (Y % (l.length:Int)).toNat))=_;rw[hn,Ac0,Aa2 p]
    simp
   .rw[List.length_eraseIdx_of_lt p];lia
   .simp;lia
  rintro _ ⟨X,y,l,Y,B,U,M,hpl,rfl⟩;rw[P4,Ac8,Nat.sub_self]at U;refine cQ4 (ds:=nI ([0,1,2]++y)) rfl ?_;show nI _=nI (nm c m);unfold nm;rw[Ac h,U];simp[TT.pk]
 have h:¬c % 2=1:=Ay h
 have D:(srt c m).length=m:=by rw[(z5 c m).length_eq];simp[prs]
 have c1:=K5 (K:=K) (m:=true) (ρ:=[.val (.int c),.val (.int (m:Int)),.own (nI [0,1,2]),.no,.no,.no,.no]) (n:=1) (is:=[0]) (g:=G5 0) (tt:=aE1)
  (te:=aM6 (C0 (X9 (spV K bJ0) [] E0 (C0 (E1 1) (C0 (tOp (rI0 λi j=>V.int (i+j)) (tC (.int 40)) (E1 0)) O1))) (C0 (E1 0) O1))) (f1 c) (T3 (A3 (A4 (i:=1) rfl) A7) (by lia) (by lia)) (by rw[P4];unfold sizeLine;lia) (λd J=>by
   obtain⟨i,hi⟩:=List.mem_iff_getElem?.mp J;obtain⟨rfl,hi⟩:=T0 hi;have hi:i<m:=by lia
   exact⟨_,C8,Z1,M3 (A3 (H9 (A3 (A4 rfl) (A3 (L9 A8 (A4 rfl)) A7)) ⟨c,40+(i:Int),by lia,rfl,rfl⟩) (A3 (A4 rfl) A7))⟩)
 rw[Ac8,dC8]at c1;refine B1 (G3 (ds:=(srt c m).map tI) (aQ6 (ts:=prs c m) (A3 (EF.e' c1) A7) (λt ht=>?_) ?_ (z5 c m) (cQ8 c m)) ?_ (show 6<7 by decide))
 .obtain⟨k,_,rfl⟩:=Aa8.mp ht;simp
 .simp[prs];lia
 show W K _ [.val (.int c),.val (.int (m:Int)),.own (nI [0,1,2]),.no,.no,.no,.own ((srt c m).map tI)] _
 have c2:=K5 (K:=K) (m:=false) (ρ:=[.val (.int c),.val (.int (m:Int)),.own (nI [0,1,2]),.no,.no,.no,.own ((srt c m).map tI)]) (n:=1) (is:=[]) (g:=G5 0) (tt:=aE1)
  (te:=tOp (rI0 λi j=>V.int (i+j)) (tC (.int 3)) (tOp (rIx K) (E1 0) (tC (.int 1)))) f2 (W9 (G7 (i:=6) rfl)) (by rw[Aa3,D];unfold sizeLine;lia) (λd J=>by
   obtain⟨t,ht,rfl⟩:=Aa8.mp J;obtain⟨k,rfl⟩:=bY8 ht;exact⟨_,C8,Z1,L9 A8 (F6 (Y1 rfl) A8 rfl rfl)⟩)
 rw[dD1]at c2
 have:=aT7 (R:={nx:=λ_=>False,rl:=λe=>e=nI (nm c m)}) (bB1 (G7 (i:=2) rfl) (EF.e' c2) (E6 _) (E6 _) (by rw[C7,C7,Aa3,D];unfold sizeLine;simp;lia)) (by
  show _=nI (nm c m)
  unfold nm;rw[Ab h,<- Y6])
 exact this
end
end K40
namespace TT
def pfg (N:Nat->Int):Nat->Nat×Nat
 | 0=>(0,0)
 | j+1=>((pfg N j).1+(N j % ((j:Int)+1-(pfg N j).1)).toNat,(pfg N j).2+(N j / 64 % ((((pfg N j).1+(N j % ((j:Int)+1-(pfg N j).1)).toNat:Nat):Int)+1-(pfg N j).2)).toNat)
def rF (N:Nat->Int)(j:Nat):Nat:=(pfg N (j+1)).1
def rG (N:Nat->Int)(j:Nat):Nat:=(pfg N (j+1)).2
theorem dP5 (N:Nat->Int):∀j,pv (rF N) j=(pfg N j).1
 | 0=>rfl
 | _+1=>rfl
theorem dQ2 (N:Nat->Int):∀j,pv (rG N) j=(pfg N j).2
 | 0=>rfl
 | _+1=>rfl
theorem bJ2 (N:Nat->Int)(j:Nat):rF N j=(pfg N j).1+(N j % ((j:Int)+1-(pfg N j).1)).toNat:=rfl
theorem cE9 (N:Nat->Int)(j:Nat):rG N j=(pfg N j).2+(N j / 64 % ((rF N j:Int)+1-(pfg N j).2)).toNat:=rfl
theorem bA4 (N:Nat->Int):∀j,(pfg N j).1<=j/\(pfg N j).2<=(pfg N j).1/\(pfg N (j+1)).1<=j/\(pfg N (j+1)).2<=(pfg N (j+1)).1
 | j=>by
  have e:(pfg N j).1<=j/\(pfg N j).2<=(pfg N j).1:=by
   cases j with
   | zero=>exact⟨Aa7 _,Aa7 _⟩
   | succ i=>
    have:=bA4 N i
    exact⟨by lia,this.2.2.2⟩
  have h1:rF N j<=j:=by
   rw[bJ2];have h:=Ce (N j) (b:=(j:Int)+1-(pfg N j).1) (by lia)
   have y:=Bv (N j) (b:=(j:Int)+1-(pfg N j).1) (by lia)
   lia
  have z:(pfg N j).1<=rF N j:=by rw[bJ2];lia
  have w:rG N j<=rF N j:=by
   rw[cE9];have h:=Ce (N j / 64) (b:=(rF N j:Int)+1-(pfg N j).2) (by lia)
   have y:=Bv (N j / 64) (b:=(rF N j:Int)+1-(pfg N j).2) (by lia)
   lia
  exact⟨e.1,e.2,h1,w⟩
theorem p6 (N:Nat->Int)(m:Nat):Rws (rF N) (rG N) m where
 f1:=λi _=>by rw[dP5,bJ2];lia
 f2:=λi _=>(bA4 N i).2.2.1
 g1:=λi _=>by rw[dQ2,cE9];lia
 g2:=λi _=>(bA4 N i).2.2.2
end TT
namespace K40
open PySem L2 LV PyProof.Rows
theorem sc__law_built:D9 ["_law_cell", "_law_cells", "_law_m", "_law_first", "_law_second", "_law_rest", "_law_i", "_law_number", "_law_low", "_law_turns", "_law_outs", "_law_names_here", "_law_called", "_law_triples", "_law_v"] ["_law_cell", "_law_cells", "_law_m"] (B2 i8):=⟨rfl,rfl,rfl,by decide +kernel,rfl,by decide +kernel,by decide +kernel⟩
def rr (c:Int)(j:Nat):Int:=if c % 2=1 then rs c j else c / 2
def nu (c:Int)(cells:AF)(j:Nat):Int:=if c % 2=1 then rs c j % 4096 else mx (cl cells j) j
def nf (c:Int)(m:Nat)(v:Nat):Nat:=(nm c m).getD v 0
def bK6 (ds:AG)(d:PyData):Prop:=∃(c:Int) (cells:AF) (m:Nat) (dr tr:AA),m<=7/\TT.Bt (TT.rF (nu c cells)) (TT.rG (nu c cells)) m (nf c m) dr tr/\ds=[.int c,lI cells,.int (m:Int)]/\d=.tuple [.tuple (dr.map tN),.tuple (tr.map tN)]
def rb (c:Int)(cells:AF)(m:Nat)(f g:AF)(r:Int)(x6 x7 x8:Sl):List Sl:=[.val (.int c),.val (lI cells),.val (.int (m:Int)),.own (f.map PyData.int),.own (g.map PyData.int),.val (.int r),x6,x7,x8,.no,.no,.no,.no,.no,.no]
theorem dB5 {c:Int}{cells:AF}{m:Nat}{f g:AF}{r:Int}{x6 x7 x8:Sl}(e:x6.nb=true)(y:x7.nb=true)(w:x8.nb=true):S2 (rb c cells m f g r x6 x7 x8)=true:=by
 unfold rb;simp only[s9,e,y,w,Bool.true_and];rfl
theorem aN7 (F:Nat->Nat)(j:Nat):fl F (j+1)=fl F j++[(F j:Int)]:=by simp[fl,Bq]
def rc (c:Int)(cells:AF)(m:Nat)(x3 x4 r:PyData)(x6 x7 x8:Sl)(tD oD:PyData)(nmD L T:AG)(x14:Sl):List Sl:=[.val (.int c),.val (lI cells),.val (.int (m:Int)),.val x3,.val x4,.val r,x6,x7,x8,.val tD,.val oD,.own nmD,.own L,.own T,x14]
theorem dA3 {c:Int}{cells:AF}{m:Nat}{x3 x4 r:PyData}{x6 x7 x8:Sl}{tD oD:PyData}{nmD L T:AG}{x14:Sl}(y:x6.nb=true)(w:x7.nb=true)(z:x8.nb=true)(e:x14.nb=true):S2 (rc c cells m x3 x4 r x6 x7 x8 tD oD nmD L T x14)=true:=by
 unfold rc;simp only[s9,y,w,z,e,Bool.true_and];rfl
def f3 (f:Nat->Nat):PyData->Option PyData
 | .int k=>some (.int (f k.toNat:Nat))
 | _=>none
theorem cG5 (f:Nat->Nat)(l:AD):(nI l).filterMap (f3 f)=nI (l.map f):=by
 unfold nI;rw[Aw,Ae3,<- List.filterMap_eq_map];exact K3 λx _=>rfl
theorem aT5 {α:Type}(a:α):∀n:Nat,(List.replicate n [a]).flatten=List.replicate n a
 | 0=>rfl
 | n+1=>by rw[Bg,Bs,aT5 a n];rfl
theorem EF.to {K:Frag}{t:TE}{ρ:List Sl}{ds es:AG}(h:LV.EF K t ρ ds)(e:ds=es):LV.EF K t ρ es:=e▸h
theorem dE0 {F G:Nat->Nat}{m v:Nat}(R:TT.Rws F G m)(z:v<m+3):(TT.gst F G m).row v≠[]:=by
 have e:=TT.R4 R m (Aa7 _)
 obtain⟨p,hp⟩:=e.inv.pe;by_cases y:v=0
 .subst y;rw[TT.aG9];simp
 .by_cases h1:v=1
  .subst h1;rw[TT.aQ8];simp
  .by_cases w:v=2
   .subst w;rw[TT.aI2,hp];simp
   .rw[TT.P9 (by lia) (by rw[e.k];exact z)];simp
theorem bY7 {c:Int}{m p:Nat}(h:p<m+3):atI (nI (nm c m)) (p:Int)=some (.int (nf c m p:Nat)):=by
 refine M6 p rfl ?_;unfold nI nf;rw[Aa9,Ac0,Aa2 (by rw[dE2];exact h)];rfl
theorem bM1 {L:AG}{f:Nat->Nat}{n j:Nat}{g:Nat->PyData}{x:PyData}(y:f j<L.length)(inj:∀v,v<j->f v≠f j)(h:∀v,v<j->L[f v]? = some (g v))(w:x=g j):∀v,v<j+1->(L.set (f j) x)[f v]? = some (g v):=λv r=>by
 by_cases e:v=j
 .subst e;rw[Av y,w]
 .rw[Ad0 (λz=>inj v (by lia) z.symm)];exact h v (by lia)
theorem aT6 {x:PyData}(e:imm x=true):∀{L:AG} (n:Nat),K0 L=true->K0 (L.set n x)=true
 | [],_,h=>h
 | a::L,0,h=>by simp[K0]at h ⊢;exact⟨e,h.2⟩
 | a::L,n+1,h=>by simp[K0]at h ⊢;exact⟨h.1,aT6 e n h.2⟩
theorem cO9 (l:AD):imm (tN l)=true:=by unfold tN;simp[imm,E6]
theorem nd3:(["_law_place", "_law_names_here"]:AJ).Nodup:=by decide +kernel
section
variable {P:Program}{w:World}{K:Frag}{mg:Str->Option Value}{base:Heap}{a:Ad}
theorem cK9 (T:Tx K mg a):E9 P w K mg base CX0 3 a.p3 a.m6 ["_law_cell", "_law_cells", "_law_m"] (spV K bK6):=by
 have M:E9 P w K mg base CX0 1 _ _ _ _:=aO6 T
 have Y:E9 P w K mg base CX0 1 _ _ _ _:=bY0 T
 have J:E9 P w K mg base CX0 1 _ _ _ _:=cD8 T
 have R:E9 P w K mg base CX0 2 _ _ _ _:=cF9 T
 have U:E9 P w K mg base CX0 1 _ _ _ _:=cI8 T
 refine T.aI7.ok sc__law_built (v6 λds d ⟨_,_,_,_,_,_,_,e,_⟩=>by rw[e];rfl) (λcdv A outer s H vs Q E hr h=>?_)
 obtain⟨ds,S,d,hS,r,⟨c,y,m,dr,tr,hm,B,rfl,rfl⟩,q⟩:=h;refine⟨_,(A5 (B5 (i:=3) sc__law_built.nd rfl (Or.inl rfl) (C5 A2))
   (A5 (B5 (i:=4) sc__law_built.nd rfl (Or.inl rfl) (C5 A2))
   (A5 (B5 (i:=5) sc__law_built.nd rfl (Or.inl rfl) (B4 aC0 (pv 0) A6))
   (A5 (O8 Au rfl (J9 rfl T.K6 (A1 (pv 2) A2)) (B7 (i:=6) sc__law_built.nd rfl (Or.inl rfl)) (A5 (B5 (i:=7) sc__law_built.nd rfl (Or.inl rfl) (C6 M (hr.mono (by decide)) rfl T.Q7 T.O6.kp T.R6 .nil G6 (A1 (C6 Y (hr.mono (by decide)) rfl T.N9 T.M5.kp T.O2 .nil G6 (A1 (pv 1) (A1 (pv 6) A2))) (A1 (pv 6) A2))))
   (A5 (U8 (F9 cZ2 (B4 U6 (pv 0) A6) A6 (K4 _)) (A5 (B5 (i:=7) sc__law_built.nd rfl (Or.inl rfl) (B4 U6 (pv 5) A6))
   (A9 (B5 (i:=5) sc__law_built.nd rfl (Or.inl rfl) (B4 aC0 (pv 5) A6)))) M0)
   (A5 (B5 (i:=8) sc__law_built.nd rfl (Or.inl rfl) (bI8 (F9 aD0 (pv 6) A6 (K4 _)) (B9 C4 (pv 3) (aT8 aE3 A6) (λ_ _=>rfl)) A6))
   (A5 (F8 (L8 Ab1 Ah Ag E4 (pv 3) (A1 (B4 G4 (pv 8) (B4 U6 (pv 7) (B4 S1 (B4 G4 (pv 6) A6) (pv 8)))) A2)))
   (A5 (B5 (i:=8) sc__law_built.nd rfl (Or.inl rfl) (bI8 (F9 aD0 (pv 6) A6 (K4 _)) (B9 C4 (pv 4) (aT8 aE3 A6) (λ_ _=>rfl)) A6))
   (A9 (F8 (L8 Ab1 Ah Ag E4 (pv 4) (A1 (B4 G4 (pv 8) (B4 U6 (B4 aC0 (pv 7) A6) (B4 S1 (B4 G4 (B9 C4 (pv 3) (aT8 aE3 A6) (λ_ _=>rfl)) A6) (pv 8)))) A2))))))))))
   (A5 (bC5 (C6 J (hr.mono (by decide)) rfl T.bA5 T.aF9.kp T.bB4 .nil G6 (A1 (pv 3) (A1 (pv 4) A2))) (aK6 (n:=2) rfl (N2 (B7 (i:=9) sc__law_built.nd rfl (Or.inl rfl)) (N2 (B7 (i:=10) sc__law_built.nd rfl (Or.inl rfl)) aB5))))
   (A5 (B5 (i:=11) sc__law_built.nd rfl (Or.inr rfl) (C6 R (hr.mono (by decide)) rfl T.bG4 T.aG4.kp T.bG2 .nil G6 (A1 (pv 0) (A1 (pv 2) A2))))
   (A5 (B5 (i:=12) sc__law_built.nd rfl (Or.inl rfl) (B4 cE5 (C5 (A1 (E2 A2) A2)) (B4 G4 (pv 2) A6)))
   (A5 (B5 (i:=13) sc__law_built.nd rfl (Or.inl rfl) (B4 cE5 (C5 (A1 (E2 A2) A2)) (pv 2)))
   (A5 (O8 Au rfl (J9 rfl T.K6 (A1 (B4 G4 (pv 2) A6) A2)) (B7 (i:=14) sc__law_built.nd rfl (Or.inl rfl)) (A9 (bC5 (C6 U (hr.mono (by decide)) rfl T.bE9 T.aF7.kp T.bC3 .nil G6 (A1 (M1 (T:=["_law_place"]) (N':=["_law_place", "_law_names_here"]) (is:=[11]) rfl (.of rfl rfl rfl (by exact⟨rfl,trivial⟩) rfl rfl rfl (by first | exact⟨⟨_,rfl,.inl rfl,.inl rfl⟩,trivial⟩ | exact⟨⟨_,rfl,.inr rfl,.inl rfl⟩,trivial⟩)) (S0 (B9 C4 (pv 9) (pv 14) (λ_ _=>rfl))) (L6 (by decide)) λ_ _ _ _=>⟨(B7 (i:=0) nd3 rfl (Or.inl rfl)),M8,(B9 (ixK K) (pv 1) (pv 0) (λ_ _=>rfl))⟩) A2)) (bQ9 (pv 12) (B9 C4 (pv 11) (pv 14) (λ_ _=>rfl)) aO9))))
   (A5 (O8 Au rfl (J9 rfl T.K6 (A1 (pv 2) A2)) (B7 (i:=14) sc__law_built.nd rfl (Or.inl rfl)) (A9 (bC5 (Q3 P1 (by rfl) T.P6 boot_tuple (A1 (M1 (T:=["_law_place"]) (N':=["_law_place", "_law_names_here"]) (is:=[11]) rfl (.of rfl rfl rfl (by exact⟨rfl,trivial⟩) rfl rfl rfl (by first | exact⟨⟨_,rfl,.inl rfl,.inl rfl⟩,trivial⟩ | exact⟨⟨_,rfl,.inr rfl,.inl rfl⟩,trivial⟩)) (S0 (B9 C4 (pv 10) (pv 14) (λ_ _=>rfl))) (L6 (by decide)) λ_ _ _ _=>⟨(B7 (i:=0) nd3 rfl (Or.inl rfl)),M8,(B9 (ixK K) (pv 1) (pv 0) (λ_ _=>rfl))⟩) A2)) (bQ9 (pv 13) (B4 S1 (B9 C4 (pv 11) (B4 G4 A6 (pv 14)) (λ_ _=>rfl)) A6) aO9))))
   (A9 (E8 (E2 (A1 (Q3 P1 (by rfl) T.P6 boot_tuple (A1 (pv 12) A2)) (A1 (Q3 P1 (by rfl) T.P6 boot_tuple (A1 (pv 13) A2)) A2))))))))))))))),O0 hS r ?_ q⟩
 generalize hN:nu c y=N at B;refine B1 (G3 (F5 A7) ?_ (show 3<15 by decide))
 refine B1 (G3 (F5 A7) ?_ (show 4<15 by decide))
 refine B1 (K7 (d:=.int (c / 2)) (e_i (A4 rfl) A8 ⟨by decide,by decide⟩) ?_)
 have r0:rr c 0=c / 2:=by unfold rr rs;split <;> rfl
 rw[<- r0];refine B1 (U7 (T3 (A3 (A4 rfl) A7) ?_ ?_) (λj ρ=>∃x6 x7 F,(x6.nb=true/\x7.nb=true/\F.nb=true)/\ρ=rb c y m (fl (TT.rF N) j) (fl (TT.rG N) j) (rr c j) x6 x7 F) ⟨.no,.no,.no,⟨rfl,rfl,rfl⟩,rfl⟩ ?_ ?_)
 .lia
 .lia
 .rintro j d _ hd ⟨x6,x7,F,⟨b6,b7,b8⟩,rfl⟩;obtain⟨rfl,hj⟩:=T0 hd;have hj:j<m:=by lia
  have PF:=TT.bA4 N j
  have nuj:N j=nu c y j:=by rw[hN]
  have nn:0<=N j:=by
   rw[nuj];unfold nu;split
   .exact Bv _ (by decide)
   .exact(dT8 _ _).1
  refine⟨_,C8,?_⟩;refine B1 (K7 (d:=.int (mx (cl y j) j)) (H9 (A3 (H9 (A3 (A4 rfl) (A3 (A4 rfl) A7)) ⟨y,j,by lia,rfl,rfl⟩) (A3 (A4 rfl) A7)) ⟨_,j,by lia,rfl,rfl⟩) ?_)
  show W K _ (rb c y m (fl (TT.rF N) j) (fl (TT.rG N) j) (rr c j) (.val (.int (j:Int))) (.val (.int (mx (cl y j) j))) F) _
  refine B1 (cF0 (rb c y m (fl (TT.rF N) j) (fl (TT.rG N) j) (rr c (j+1)) (.val (.int (j:Int))) (.val (.int (N j))) F) (J8 (cY4 (e_i (A4 rfl) A8 (by decide)) A8)) (λh=>B1 (K7 (d:=.int (rr c j % 4096)) (e_i (A4 rfl) A8 (by decide)) (K7 (d:=.int (rr c j / 4096)) (e_i (A4 rfl) A8 ⟨by decide,by decide⟩) ?_))) (λh=>O7 ?_) ?_)
  .have h:c % 2=1:=As h
   have e1:rr c (j+1)=rr c j / 4096:=by unfold rr;rw[Ac h,Ac h];rfl
   have e2:N j=rr c j % 4096:=by rw[nuj];unfold nu rr;rw[Ac h,Ac h]
   rw[e1,e2];rfl
  .have h:¬c % 2=1:=Ay h
   have e1:rr c (j+1)=rr c j:=by unfold rr;rw[Ab h,Ab h]
   have e2:N j=mx (cl y j) j:=by rw[nuj];unfold nu;rw[Ab h]
   rw[e1,e2]
  have low:∀(X:Nat->Nat) (p:Nat),p=TT.pv X j->((j:Int)>0->atI ((fl X j).map PyData.int) (-1)=some (.int (p:Int))):=λX p hp h=>by
   obtain⟨i,rfl⟩:∃i,j=i+1:=⟨j-1,by lia⟩
   rw[aN7,Ad2,hp];exact aN9
  refine B1 (K7 (d:=.int ((TT.pfg N j).1:Nat)) (dM6 (J8 (y7 (A4 rfl) A8)) (λh=>LV.E.imm (F6 (G7 rfl) (aR9 A8) rfl (low (TT.rF N) _ (TT.dP5 N j).symm (As h)))) (λh=>?_)) ?_)
  .have h:¬(j:Int)>0:=Ay h
   have:j=0:=by lia
   subst this;exact A8
  show W K _ (rb c y m (fl (TT.rF N) j) (fl (TT.rG N) j) (rr c (j+1)) (.val (.int (j:Int))) (.val (.int (N j))) (.val (.int ((TT.pfg N j).1:Nat)))) _
  have eF:((TT.pfg N j).1:Int)+N j % ((j:Int)+1-((TT.pfg N j).1:Int))=(TT.rF N j:Int):=by
   rw[TT.bJ2]
   have:=Bv (N j) (b:=(j:Int)+1-(TT.pfg N j).1) (by lia)
   lia
  refine B1 (Q8 rfl (L9 (A4 rfl) (e_i (A4 rfl) (L9 (L9 (A4 rfl) A8) (A4 rfl)) (by lia))) (by rw[Aa3];simp[fl];unfold sizeLine;lia) ?_ (dB5 rfl rfl rfl))
  rw[eF];have eF2:(fl (TT.rF N) j).map PyData.int++[PyData.int (TT.rF N j:Int)]=(fl (TT.rF N) (j+1)).map PyData.int:=by rw[aN7];simp
  rw[eF2];show W K _ (rb c y m (fl (TT.rF N) (j+1)) (fl (TT.rG N) j) (rr c (j+1)) (.val (.int (j:Int))) (.val (.int (N j))) (.val (.int ((TT.pfg N j).1:Nat)))) _;refine B1 (K7 (d:=.int ((TT.pfg N j).2:Nat)) (dM6 (J8 (y7 (A4 rfl) A8)) (λh=>LV.E.imm (F6 (G7 rfl) (aR9 A8) rfl (low (TT.rG N) _ (TT.dQ2 N j).symm (As h)))) (λh=>?_)) ?_)
  .have h:¬(j:Int)>0:=Ay h
   have:j=0:=by lia
   subst this;exact A8
  show W K _ (rb c y m (fl (TT.rF N) (j+1)) (fl (TT.rG N) j) (rr c (j+1)) (.val (.int (j:Int))) (.val (.int (N j))) (.val (.int ((TT.pfg N j).2:Nat)))) _
  have rFj:TT.rF N j=(TT.pfg N (j+1)).1:=rfl
  have rFle:(TT.pfg N j).1<=TT.rF N j:=by rw[TT.bJ2];lia
  have eG:((TT.pfg N j).2:Int)+N j / 64 % ((TT.rF N j:Int)+1-((TT.pfg N j).2:Int))=(TT.rG N j:Int):=by
   rw[TT.cE9]
   have:=Bv (N j / 64) (b:=(TT.rF N j:Int)+1-(TT.pfg N j).2) (by lia)
   lia
  have hlF:atI ((fl (TT.rF N) (j+1)).map PyData.int) (-1)=some (.int (TT.rF N j:Int)):=by rw[aN7,Ad2];exact aN9
  refine Q8 rfl (L9 (A4 rfl) (e_i (e_i (A4 rfl) A8 ⟨by decide,by decide⟩) (L9 (L9 (F6 (G7 rfl) (aR9 A8) rfl hlF) A8) (A4 rfl)) (by lia))) (by rw[Aa3];simp[fl];unfold sizeLine;lia) ?_ (dB5 rfl rfl rfl)
  rw[eG];have eG2:(fl (TT.rG N) j).map PyData.int++[PyData.int (TT.rG N j:Int)]=(fl (TT.rG N) (j+1)).map PyData.int:=by rw[aN7];simp
  rw[eG2];exact⟨.val (.int (j:Int)),.val (.int (N j)),.val (.int ((TT.pfg N j).2:Nat)),⟨rfl,rfl,rfl⟩,rfl⟩
 rintro _ ⟨x6,x7,F,⟨b6,b7,b8⟩,rfl⟩;rw[P4,Ac8];refine aV8 (i:=3) rfl (aV8 (i:=4) rfl ?_);refine B1 (cZ3 (m:=true) (H9 (A3 (A4 rfl) (A3 (A4 rfl) A7)) ⟨TT.rF N,TT.rG N,m,TT.p6 N m,by lia,rfl,rfl⟩) (aY8 (P5 C8 (P5 C8 aL3))) ?_)
 refine B1 (G3 (aB1 (A3 (A4 rfl) (A3 (A4 rfl) A7)) ⟨c,m,by lia,rfl,rfl⟩) ?_ (show 11<15 by decide))
 have ND:=B.N
 have LT:=(TT.R4 (TT.p6 N m) m (Aa7 _)).inv.lt
 have LR:=TT.aO3 (TT.R4 (TT.p6 N m) m (Aa7 _)).inv
 rw[(TT.R4 (TT.p6 N m) m (Aa7 _)).k]at LT LR;refine B1 (G3 (ds:=List.replicate (m+3) (.tuple [])) ?_ ?_ (show 12<15 by decide))
 .refine EF.to (cI4 (k:=(m:Int)+3) (ds:=[.tuple []]) (F5 (A3 (M3 A7) A7)) (L9 (A4 rfl) A8) rfl (by lia) (by lia) ?_) ?_
  .show 1*((m:Int)+3).toNat<=_;unfold sizeLine;lia
  .have e:((m:Int)+3).toNat=m+3:=by lia
   rw[aT5,e]
 refine B1 (G3 (ds:=List.replicate m (.tuple [])) ?_ ?_ (show 13<15 by decide))
 .refine EF.to (cI4 (k:=(m:Int)) (ds:=[.tuple []]) (F5 (A3 (M3 A7) A7)) (A4 rfl) rfl (by lia) (by lia) ?_) ?_
  .show 1*(m:Int).toNat<=_;unfold sizeLine;lia
  .rw[aT5,Ac8]
 generalize htD:(PyData.list ((List.range (m+3)).map λv=>lN ((TT.gst (TT.rF N) (TT.rG N) m).row v)))=tD
 generalize hoD:(PyData.list ((List.range m).map λv=>lN [(TT.gst (TT.rF N) (TT.rG N) m).o0 (v+3),(TT.gst (TT.rF N) (TT.rG N) m).o1 (v+3),(TT.gst (TT.rF N) (TT.rG N) m).o2 (v+3)]))=oD
 show W K _ (rc c y m (lI (fl (TT.rF N) m)) (lI (fl (TT.rG N) m)) (.int (rr c m)) x6 x7 F tD oD (nI (nm c m)) (List.replicate (m+3) (.tuple [])) (List.replicate m (.tuple [])) .no) _
 have sqt:sq tD=some ((List.range (m+3)).map λv=>lN ((TT.gst (TT.rF N) (TT.rG N) m).row v)):=by rw[<- htD];rfl
 have sqo:sq oD=some ((List.range m).map λv=>lN [(TT.gst (TT.rF N) (TT.rG N) m).o0 (v+3),(TT.gst (TT.rF N) (TT.rG N) m).o1 (v+3),(TT.gst (TT.rF N) (TT.rG N) m).o2 (v+3)]):=by rw[<- hoD];rfl
 have imr:∀n:Nat,K0 (List.replicate n (PyData.tuple []))=true:=λn=>by
  induction n with
  | zero=>rfl
  | succ n ih=>rw[Bg];simp[K0,ih];rfl
 refine B1 (U7 (T3 (A3 (L9 (A4 rfl) A8) A7) ?_ ?_) (λj ρ=>∃D L,D.nb=true/\L.length=m+3/\K0 L=true/\(∀v,v<j->L[nf c m v]? = some (tN (TT.U1 (((TT.gst (TT.rF N) (TT.rG N) m).row v).map (nf c m)))))/\ρ=rc c y m (lI (fl (TT.rF N) m)) (lI (fl (TT.rG N) m)) (.int (rr c m)) x6 x7 F tD oD (nI (nm c m)) L (List.replicate m (.tuple [])) D) ⟨.no,_,rfl,by simp,imr _,λv hv=>by lia,rfl⟩ ?_ ?_)
 .lia
 .lia
 .rintro j d _ hd ⟨D,L,b14,hL,hiL,hv,rfl⟩;obtain⟨rfl,hj⟩:=T0 hd;have hj:j<m+3:=by lia
  refine⟨_,C8,?_⟩;show W K _ (rc c y m (lI (fl (TT.rF N) m)) (lI (fl (TT.rG N) m)) (.int (rr c m)) x6 x7 F tD oD (nI (nm c m)) L (List.replicate m (.tuple [])) (.val (.int (j:Int)))) _;have cm:=K5 (K:=K) (m:=true) (ρ:=rc c y m (lI (fl (TT.rF N) m)) (lI (fl (TT.rG N) m)) (.int (rr c m)) x6 x7 F tD oD (nI (nm c m)) L (List.replicate m (.tuple [])) (.val (.int (j:Int)))) (n:=1) (is:=[11]) (g:=G5 0) (tt:=aE1) (te:=tOp (rIx K) (E1 1) (E1 0)) (f3 (nf c m)) (W9 (ds:=nI ((TT.gst (TT.rF N) (TT.rG N) m).row j)) (F6 (A4 (i:=9) rfl) (A4 (i:=14) rfl) sqt (aF5 hj))) (by rw[C7];have:=LR j;unfold sizeLine;lia) (λd hd=>by
   obtain⟨p,hp,rfl⟩:=Aa8.mp hd;exact⟨_,C8,Z1,LV.E.imm (d:=.int (nf c m p:Nat)) (F6 (Y1 rfl) (A4 rfl) rfl (bY7 (LT j p hp)))⟩)
  rw[cG5]at cm;refine cG4 (nf c m j) (H9 (A3 (EF.e' cm) A7) ⟨_,?_,?_,rfl,rfl⟩) rfl (F6 (G7 rfl) (A4 rfl) rfl (bY7 hj)) rfl ?_ ⟨.val (.int (j:Int)),L.set (nf c m j) (tN (TT.U1 (((TT.gst (TT.rF N) (TT.rG N) m).row j).map (nf c m)))),rfl,by rw[Dh];exact hL,aT6 (cO9 _) _ hiL,bM1 (n:=0) (by rw[hL];exact ND.lt j hj) (λv hv e=>by have:=ND.inj v j (by lia) hj e;lia) hv rfl,rfl⟩ (dA3 b6 b7 b8 rfl)
  .intro e;exact dE0 (TT.p6 N m) hj (List.map_eq_nil_iff.mp e)
  .rw[Aa3];have:=LR j;lia
  .rw[hL];exact ND.lt j hj
 rintro _ ⟨D,L,b14,hL,hiL,hv,rfl⟩;have e3:(R8 0 ((m:Int)+3).toNat).length=m+3:=by rw[P4];lia
 rw[e3]at hv;refine B1 (U7 (T3 (A3 (A4 rfl) A7) ?_ ?_) (λj ρ=>∃D T,D.nb=true/\T.length=m/\K0 T=true/\(∀v,v<j->T[nf c m (v+3)-3]? = some (tN [nf c m ((TT.gst (TT.rF N) (TT.rG N) m).o0 (v+3)),nf c m ((TT.gst (TT.rF N) (TT.rG N) m).o1 (v+3)),nf c m ((TT.gst (TT.rF N) (TT.rG N) m).o2 (v+3))]))/\ρ=rc c y m (lI (fl (TT.rF N) m)) (lI (fl (TT.rG N) m)) (.int (rr c m)) x6 x7 F tD oD (nI (nm c m)) L T D) ⟨D,_,b14,by simp,imr _,λv hv=>by lia,rfl⟩ ?_ ?_)
 .lia
 .lia
 .rintro j d _ hd ⟨y14,T',c14,hT,hiT,hvT,rfl⟩;obtain⟨rfl,hj⟩:=T0 hd;have hj:j<m:=by lia
  refine⟨_,C8,?_⟩;have rI:(TT.gst (TT.rF N) (TT.rG N) m).row (j+3)=_:=TT.P9 (by lia) (by rw[(TT.R4 (TT.p6 N m) m (Aa7 _)).k];lia)
  have l0:(TT.gst (TT.rF N) (TT.rG N) m).o0 (j+3)<m+3:=LT (j+3) _ (by rw[rI];simp)
  have l1:(TT.gst (TT.rF N) (TT.rG N) m).o1 (j+3)<m+3:=LT (j+3) _ (by rw[rI];simp)
  have l2:(TT.gst (TT.rF N) (TT.rG N) m).o2 (j+3)<m+3:=LT (j+3) _ (by rw[rI];simp)
  have ge3:3<=nf c m (j+3):=by
   have:=ND.lo (by lia) (q:=j+3) (by lia)
   lia
  have lt3:nf c m (j+3)<m+3:=ND.lt (j+3) (by lia)
  have hat:atI (nI (nm c m)) (3+(j:Int))=some (.int (nf c m (j+3):Nat)):=by
   rw[show(3:Int)+(j:Int)=((j+3:Nat):Int) by lia];exact bY7 (by lia)
  show W K _ (rc c y m (lI (fl (TT.rF N) m)) (lI (fl (TT.rG N) m)) (.int (rr c m)) x6 x7 F tD oD (nI (nm c m)) L T' (.val (.int (j:Int)))) _
  have cm:=K5 (K:=K) (m:=true) (ρ:=rc c y m (lI (fl (TT.rF N) m)) (lI (fl (TT.rG N) m)) (.int (rr c m)) x6 x7 F tD oD (nI (nm c m)) L T' (.val (.int (j:Int)))) (n:=1) (is:=[11]) (g:=G5 0) (tt:=aE1) (te:=tOp (rIx K) (E1 1) (E1 0)) (f3 (nf c m)) (W9 (ds:=nI [(TT.gst (TT.rF N) (TT.rG N) m).o0 (j+3),(TT.gst (TT.rF N) (TT.rG N) m).o1 (j+3),(TT.gst (TT.rF N) (TT.rG N) m).o2 (j+3)]) (F6 (A4 (i:=10) rfl) (A4 (i:=14) rfl) sqo (aF5 hj))) (by rw[C7];show 3<_;unfold sizeLine;lia) (λd hd=>by
   obtain⟨p,hp,rfl⟩:=Aa8.mp hd;have hp:p<m+3:=by
    rcases Aa1.mp hp with rfl | hp
    .exact l0
    .rcases Aa1.mp hp with rfl | hp
     .exact l1
     .rw[Ad8.mp hp];exact l2
   exact⟨_,C8,Z1,LV.E.imm (d:=.int (nf c m p:Nat)) (F6 (Y1 rfl) (A4 rfl) rfl (bY7 hp))⟩)
  rw[cG5]at cm;refine cG4 (nf c m (j+3)-3) (j8 (A3 (EF.e' cm) A7) (E6 _)) rfl (L9 (F6 (G7 rfl) (L9 A8 (A4 rfl)) rfl hat) A8) (by lia) ?_ ⟨.val (.int (j:Int)),T'.set (nf c m (j+3)-3) (tN [nf c m ((TT.gst (TT.rF N) (TT.rG N) m).o0 (j+3)),nf c m ((TT.gst (TT.rF N) (TT.rG N) m).o1 (j+3)),nf c m ((TT.gst (TT.rF N) (TT.rG N) m).o2 (j+3))]),rfl,by rw[Dh];exact hT,aT6 (cO9 _) _ hiT,bM1 (n:=0) (f:=λv=>nf c m (v+3)-3) (g:=λv=>tN [nf c m ((TT.gst (TT.rF N) (TT.rG N) m).o0 (v+3)),nf c m ((TT.gst (TT.rF N) (TT.rG N) m).o1 (v+3)),nf c m ((TT.gst (TT.rF N) (TT.rG N) m).o2 (v+3))]) (by rw[hT];show nf c m (j+3)-3<m;lia) (λv hv e=>by
   have e:nf c m (v+3)-3=nf c m (j+3)-3:=e
   have g3:=ND.lo (by lia) (q:=v+3) (by lia)
   have:=ND.inj (v+3) (j+3) (by lia) (by lia) (by lia)
   lia) hvT rfl,rfl⟩ (dA3 b6 b7 b8 rfl)
  rw[hT];lia
 rintro _ ⟨y14,T',c14,hT,hiT,hvT,rfl⟩;rw[P4,Ac8]at hvT;refine S3 (M3 (A3 (j8 (A3 (G7 rfl) A7) hiL) (A3 (j8 (A3 (G7 rfl) A7) hiT) A7))) ?_;have eL:L=dr.map tN:=by
  refine List.ext_getElem? λz=>?_
  by_cases hz:z<m+3
  .obtain⟨v,hv1,rfl⟩:=ND.surj z hz;rw[hv v hv1,Aa9,B.dr v hv1];rfl
  .rw[Ad6 (by lia),Ad6 (by rw[Aa3,B.dl];lia)]
 have eT:T'=tr.map tN:=by
  refine List.ext_getElem? λz=>?_
  by_cases hz:z<m
  .obtain⟨v,hv1,hv2⟩:=ND.surj (z+3) (by lia)
   have h3:3<=v:=by
    have:=ND.lo (by lia) hv1
    lia
   obtain⟨u,rfl⟩:∃u,v=u+3:=⟨v-3,by lia⟩
   have hzz:z=nf c m (u+3)-3:=by lia
   rw[hzz,hvT u (by lia),Aa9,B.tr (u+3) h3 hv1];rfl
  .rw[Ad6 (by lia),Ad6 (by rw[Aa3,B.tl];lia)]
 rw[eL,eT]
end
theorem dM4 {F G:Nat->Nat}{m:Nat}{f:Nat->Nat}(R:TT.Rws F G m)(N:TT.Nm (m+3) f):∃dr tr,TT.Bt F G m f dr tr:=by
 have w:∀q,∃v,q<m+3->v<m+3/\f v=q:=λq=>by
  by_cases h:q<m+3
  .obtain⟨v,h1,j⟩:=N.surj q h;exact⟨v,λ_=>⟨h1,j⟩⟩
  .exact⟨0,λz=>absurd z h⟩
 have ⟨g,k⟩:∃g:Nat->Nat,∀q,q<m+3->g q<m+3/\f (g q)=q:=⟨λq=>Classical.choose (w q),λq h=>Classical.choose_spec (w q) h⟩
 have r:∀v,v<m+3->g (f v)=v:=λv y=>N.inj _ _ (k _ (N.lt v y)).1 y (k _ (N.lt v y)).2
 refine⟨(List.range (m+3)).map λq=>TT.U1 (((TT.gst F G m).row (g q)).map f),(List.range m).map λq=>[f ((TT.gst F G m).o0 (g (q+3))),f ((TT.gst F G m).o1 (g (q+3))),f ((TT.gst F G m).o2 (g (q+3)))],R,N,by simp,λv y=>?_,by simp,λv c y=>?_⟩
 .rw[N7 (N.lt v y),r v y]
 .have h:=N.lo (by lia) y
  have p:=N.lt v y
  rw[N7 (by lia)]
  have e:f v-3+3=f v:=by lia
  rw[e,r v y]
end K40
namespace TT
variable {F G:Nat->Nat}{m:Nat}{f:Nat->Nat}{d t:AA}
end TT
namespace LV
open PySem PyProof.Rows L2
theorem aV7 {α:Type}[DecidableEq α]:∀{l m:List α},l.Nodup->(∀x∈l,x∈m)->l.length<=m.length
 | [],_,_,_=>Cj _
 | a::l,m,nd,h=>by
  obtain⟨h1,z⟩:=Aa5.mp nd;have y:=h a (by simp)
  have:=aV7 (l:=l) (m:=m.erase a) z λx w=>(List.mem_erase_of_ne (show x≠a from λe=>h1 (by rw[<- e];exact w))).mpr (h x (by simp[w]))
  rw[Ct y]at this
  have:=Cw y
  simp;lia
end LV
namespace K40
open PySem L2 LV PyProof.Rows
theorem cU3:D9 ["drawing", "p", "q"] ["drawing", "p", "q"] (B2 bP0):=⟨rfl,rfl,rfl,by decide +kernel,rfl,by decide +kernel,by decide +kernel⟩
theorem cO6 (l:AD):tN l=tI (l.map λ(x:Nat)=>(x:Int)):=by unfold tN tI nI;simp
structure Dw (m:Nat)(dr tr:AA):Prop where
 m7:m<=7
 bt:∃F G f,TT.Bt F G m f dr tr
theorem Dw.len {m:Nat}{dr tr:AA}(h:Dw m dr tr):dr.length=m+3:=by
 obtain⟨_,_,_,_,B⟩:=h;exact B.dl
theorem bO8 {dr:AA}{p:Nat}(h:p<dr.length):dr[p]? = some (TT.trn dr p):=by
 unfold TT.trn;rw[Aa2 h];rfl
def pD (x:Int×Int):PyData:=tI [x.1,x.2]
theorem cF8 (x y:Int×Int):PyData.eqv (pD x) (pD y)=decide (x=y):=by
 unfold pD;rw[cQ5];refine Cd.mpr ?_;constructor
 .intro h;simp at h;exact Prod.ext h.1 h.2
 .rintro rfl;rfl
theorem dC5 (x:Int×Int):imm (pD x)=true:=bD7 _
theorem aB3 (ps:List (Int×Int)):K0 (ps.map pD)=true:=W8 dC5 ps
theorem cH0 (x:Int×Int)(ps:List (Int×Int)):(ps.map pD).any (λz=>PyData.eqv z (pD x))=decide (x∈ps):=by
 induction ps with
 | nil=>rfl
 | cons y ps e=>
  rw[Ac7,List.any_cons,e,cF8];by_cases h:y=x
  .subst h;simp
  .have:¬x=y:=λz=>h z.symm
   simp[h,this]
theorem dI1 (q:Int)(l:AD):(nI l).any (λz=>PyData.eqv z (.int q))=decide (q∈l.map λ(x:Nat)=>(x:Int)):=by
 unfold nI;induction l with
 | nil=>rfl
 | cons y l e=>
  rw[Ac7,List.any_cons,e,bG0];by_cases h:(y:Int)=q
  .subst h;simp
  .have:¬q=(y:Int):=λz=>h z.symm
   simp[h,this]
theorem aR6 (x:Int×Int):FitN 1 (pD x):=aZ7 _
theorem dJ5 (ps:List (Int×Int)):Fit (.list (ps.map pD)):=(aP1 (n:=1) λd e=>by obtain⟨x,_,rfl⟩:=Aa8.mp e;exact aR6 x).fit
def td (dr:AA)(p q:Int):Bool:=(decide (0<=p)&&decide (p<(dr.length:Int)))&&decide (q∈(TT.trn dr p.toNat).map λ(x:Nat)=>(x:Int))
def aO1 (ds:AG)(d:PyData):Prop:=∃(dr:AA) (p q:Int),ds=[.tuple (dr.map tN),.int p,.int q]/\d=.bool (td dr p q)
def gp (ps:List (Int×Int))(k:Nat):Int×Int:=ps.getD k (0,0)
theorem aQ4 {ps:List (Int×Int)}{k:Nat}(h:k<ps.length):ps[k]? = some (gp ps k):=by
 unfold gp;rw[Aa2 h,Ac0,Aa2 h];rfl
section
variable {P:Program}{w:World}{K:Frag}{mg:Str->Option Value}{base:Heap}{a:Ad}
theorem bW5 (T:Tx K mg a):E9 P w K mg base CX0 1 a.bP5 a.bO4 ["drawing", "p", "q"] (spV K aO1):=by
 refine T.bO0.ok cU3 (v6 λds d ⟨_,_,_,e,_⟩=>by rw[e];rfl) (λX A z s H vs Q E J h=>?_)
 obtain⟨ds,S,d,U,r,⟨y,p,q,rfl,rfl⟩,k⟩:=h;refine⟨_,(A9 (E8 (bQ1 (cE3 dN2 aT2 A6 (pv 1) (B0 (aD5 K) (by rfl) T.N5 Ar (A1 (pv 0) A2))) (aP9 (aG0 (cP1 K J) (pv 2) (B9 (ixK K) (pv 0) (pv 1) (λ_ _=>rfl)) rfl))))),O0 U r ?_ k⟩
 refine S3 (d:=.bool (td y p q)) ?_ rfl;have Y:(y.map tN).length=y.length:=Aa3 _;have h:=cL4 (K:=K) (m:=true) (ρ:=sl0 ["drawing", "p", "q"].length [.tuple (y.map tN),.int p,.int q]) (b:=decide (q∈(TT.trn y p.toNat).map λ(x:Nat)=>(x:Int))) (cV1 (r:=rI0 λi j=>.bl (decide (i<=j))) (r':=rI0 λi j=>.bl (decide (i<j))) (g:=λi j=>decide (i<=j)) (g':=λi j=>decide (i<j)) (A8 (i:=0)) (A4 (i:=1) rfl) (U2 (ds:=y.map tN) (A3 (A4 (i:=0) rfl) A7))) (λh=>by
  rw[Y]at h;have c:=Aj _ _▸h;have h1:(0:Int)<=p:=As c.1;have M:p<(y.length:Int):=As c.2;have e:=dB6 (K:=K) (m:=false) (ρ:=sl0 ["drawing", "p", "q"].length [.tuple (y.map tN),.int p,.int q]) (A4 (i:=2) rfl) (F6 (d':=tN (TT.trn y p.toNat)) (ds:=y.map tN) (A4 (i:=0) rfl) (A4 (i:=1) rfl) rfl (M6 p.toNat (by lia) (by rw[Aa9,bO8 (by lia)];rfl))) (ds:=nI (TT.trn y p.toNat)) rfl (cW0 _) (by rw[cO6];exact(aZ7 _).fit)
  rw[dI1]at e;exact e)
 rw[Y]at h;exact h
end
def bN1 (ts:AC):AC:=ts.mergeSort λa b => !HT.M7 b a
theorem V0 (ts:AC):(bN1 ts).Perm ts:=List.mergeSort_perm _ _
theorem aB4 (ts:AC):(bN1 ts).Pairwise F1:=by
 have:=List.pairwise_mergeSort (le:=λa b:AF => !HT.M7 b a) (λa b d h1 e=>by
  have:=Z5 a b d (by unfold F1;simpa using h1) (by unfold F1;simpa using e)
  unfold F1 at this;simp[this]) (λa b=>by
  rcases aW6 a b with h | h <;> unfold F1 at h <;> simp[h]) ts
 refine this.imp λh=>?_
 unfold F1;simpa using h
def toL (x:Int×Int):AF:=[x.1,x.2]
def ofL (l:AF):Int×Int:=(l.getD 0 0,l.getD 1 0)
def sp (ps:List (Int×Int)):List (Int×Int):=(bN1 (ps.map toL)).map ofL
theorem cQ9 (ps:List (Int×Int)):(sp ps).Perm ps:=by
 have h:=(V0 (ps.map toL)).map ofL
 rw[Ae3]at h;have e:ps.map (ofL ∘ toL)=ps:=(Al (g:=id) (λx _=>rfl)).trans (Dy _)
 rw[e]at h;exact h
theorem dI0 (ps:List (Int×Int)):(bN1 (ps.map toL)).map tI=(sp ps).map pD:=by
 unfold sp;rw[Ae3];refine Al λl e=>?_
 obtain⟨x,_,rfl⟩:=Aa8.mp ((V0 _).mem_iff.mp e);rfl
theorem bL0 {K:Frag}{ρ:List Sl}{t:TA}{ps:List (Int×Int)}(w:LV.A K false t ρ [.list (ps.map pD)])(y:ps.length<64) :
  EF K (tCB (λxs H Q=>∃(p:Addr) (ys:List V) (ts:AC),xs=[.ref p]/\SqL K H p ys/\TupsV K H ys ts/\ys.length<64 /\
   ∀a (q:AD),H a=none->q.Perm (List.range ys.length)->(q.map λi=>ts.getD i []).Pairwise F1->Q (.ref a) (upd H a (.lst (q.map λi=>ys.getD i .non)))) t) ρ ((sp ps).map pD):=by
 have e:ps.map pD=(ps.map toL).map tI:=by rw[Ae3];rfl
 rw[e]at w;rw[<- dI0];exact aQ6 w (λt z=>by obtain⟨x,_,rfl⟩:=Aa8.mp z;simp[toL]) (by rw[Aa3];exact y) (V0 _) (aB4 _)
def ga {α:Type}(g:Nat->List α)(n:Nat):List α:=((List.range n).map g).flatten
theorem U9 {α:Type}(g:Nat->List α)(n:Nat):ga g (n+1)=ga g n++g n:=by
 unfold ga;rw[Bq,Ad2,List.flatten_append];simp
theorem dB8 {α:Type}{g:Nat->List α}{n:Nat}{x:α}:x∈ga g n↔∃i,i<n/\x∈g i:=by
 unfold ga;rw[List.mem_flatten];constructor
 .rintro⟨l,hl,hx⟩;obtain⟨i,hi,rfl⟩:=Aa8.mp hl;exact⟨i,Ab5.mp hi,hx⟩
 .rintro⟨i,hi,hx⟩;exact⟨g i,Aa8.mpr ⟨i,Ab5.mpr hi,rfl⟩,hx⟩
end K40
namespace TT
variable {F G:Nat->Nat}{m:Nat}{f:Nat->Nat}{d t:AA}
end TT
namespace TT
open Classical
def par (w:Nat->Bool):AD->Bool
 | []=>false
 | a::l=>xor (w a) (par w l)
theorem X7 (w:Nat->Bool):∀l m:AD,par w (l++m)=xor (par w l) (par w m)
 | [],m=>by simp[par]
 | a::l,m=>by simp[par,X7 w l m]
theorem a8 {w:Nat->Bool}:∀{l:AD},(∀a∈l,w a=false)->par w l=false
 | [],_=>rfl
 | a::l,h=>by simp[par,h a (by simp),a8 (l:=l) λb e=>h b (by simp[e])]
theorem X2 (w u:Nat->Bool):∀l:AD,par (λa=>xor (w a) (u a)) l=xor (par w l) (par u l)
 | []=>rfl
 | a::l=>by
  simp only[par,X2 w u l];cases w a <;> cases u a <;> cases par w l <;> cases par u l <;> rfl
theorem aB6 {w u:Nat->Bool}:∀{l:AD},(∀a∈l,w a=u a)->par w l=par u l
 | [],_=>rfl
 | a::l,h=>by simp[par,h a (by simp),aB6 (l:=l) λb e=>h b (by simp[e])]
theorem aB2 {w:Nat->Bool}{s:Nat}:∀{l:AD},l.Nodup->s∈l->(∀a∈l,a≠s->w a=false)->par w l=w s
 | [],_,h,_=>by cases h
 | a::l,nd,h,hz=>by
  rw[Aa5]at nd;by_cases e:a=s
  .subst e
   simp[par,a8 (l:=l) λb y=>hz b (by simp[y]) λe=>nd.1 (e▸y)]
  .have z:s∈l:=by rcases Aa1.mp h with h | h;exact absurd h.symm e;exact h
   simp[par,hz a (by simp) e,aB2 nd.2 z λb y=>hz b (by simp[y])]
theorem cX1 {w:Nat->Bool}{s t:Nat}(z:s≠t){l:AD}(nd:l.Nodup)(k:s∈l)(j:t∈l)(c:∀a∈l,a≠s->a≠t->w a=false):par w l=xor (w s) (w t):=by
 have e:par w l=par (λa=>xor (if a=s then w s else false) (if a=t then w t else false)) l:=aB6 λa r=>by
  by_cases h1:a=s
  .subst h1;simp[z]
  .by_cases y:a=t
   .subst y;simp[h1]
   .simp[h1,y,c a r h1 y]
 rw[e,X2,aB2 nd k λa _ h=>by simp[h],aB2 nd j λa _ h=>by simp[h]]
 simp
theorem lin_iff:∀{l:AD} {a b:Nat},lin l a b↔∃p s,l=p++a::b::s
 | [],a,b=>by simp[lin]
 | [c],a,b=>by
  simp only[lin,false_iff];rintro⟨p,s,e⟩
  have:=congrArg List.length e
  simp at this
  lia
 | c::d::l,a,b=>by
  rw[B6,lin_iff (l:=d::l)];constructor
  .rintro (⟨rfl,rfl⟩ | ⟨p,s,e⟩)
   .exact⟨[],l,rfl⟩
   .exact⟨c::p,s,by rw[e];rfl⟩
  .rintro⟨p,s,e⟩;cases p with
   | nil=>simp at e;exact .inl ⟨e.1.symm,e.2.1.symm⟩
   | cons c' p=>simp at e;exact .inr ⟨p,s,e.2⟩
theorem adj_iff {l:AD}{a b:Nat}:adj l a b↔(∃p s,l=p++a::b::s)\/∃p,l=p++[a]/\l.head? = some b:=by
 unfold adj;rw[lin_iff];cases l with
 | nil=>simp
 | cons c l=>
  simp only[List.take_succ_cons,List.take_zero,List.head?_cons,Option.some.injEq];constructor
  .rintro⟨p,s,e⟩;rcases Ac5 s with y | ⟨w,d,y⟩
   .subst y;have e':(c::l)++[c]=(p++[a])++[b]:=by rw[e];simp
    have:=List.append_inj' e' rfl
    exact .inr ⟨p,this.1,by simpa using this.2⟩
   .subst y;have e':(c::l)++[c]=(p++a::b::w)++[d]:=by rw[e];simp
    exact .inl ⟨p,w,(List.append_inj' e' rfl).1⟩
  .rintro (⟨p,s,e⟩ | ⟨p,e,rfl⟩)
   .exact⟨p,s++[c],by rw[e];simp⟩
   .exact⟨p,[],by rw[e];simp⟩
theorem O3 {l p s:AD}{u:Nat}(nd:l.Nodup)(e:l=p++u::s):l.idxOf u=p.length:=by
 have hp:u∉p:=λy=>by rw[e]at nd;exact(Aa4.mp nd).2.2 u y u (by simp) rfl
 rw[e,List.idxOf_append,Ab hp];simp
theorem pot {l:AD}(nd:l.Nodup){w:Nat->Bool}(h:par w l=false):∃G:Nat->Bool,∀a b,adj l a b->xor (G a) (G b)=w b:=by
 refine⟨λu=>par w (l.take (l.idxOf u+1)),λa b z=>?_⟩
 have y:∀(p s:AD) (u:Nat),l=p++u::s->l.take (l.idxOf u+1)=p++[u]:=λp s u e=>by
  rw[O3 nd e,e,show p++u::s=(p++[u])++s by simp]
  exact List.take_left' (by simp)
 rcases adj_iff.mp z with⟨p,s,e⟩ | ⟨p,e,k⟩
 .dsimp only
  rw[y p (b::s) a e,y (p++[a]) s b (by rw[e];simp),X7,X7,X7]
  simp only[par];cases par w p <;> cases w a <;> cases w b <;> rfl
 .dsimp only
  rw[y p [] a e];cases l with
  | nil=>simp at k
  | cons c r=>
   simp at k;subst k
   rw[<- e,h,y [] r c rfl]
   simp[par]
structure Cyc (r:Nat->AD)(z:Nat->Nat->Bool):Prop where
 sym:∀p q,z p q=z q p
 sup:∀p q,z p q=true->q∈r p
 ev:∀p,par (z p) (r p)=false
def H1 (r:Nat->AD):Prop:=∀z,Cyc r z->∃f:Nat->Nat->Bool,(∀q a b,adj (r q) a b->f q a=f a b)/\∀p s q,adj (r p) s q->xor (f p s) (f p q)=z p q
theorem aI8 {l:AD}(nd:l.Nodup)(r:3<=l.length){a b:Nat}(h1:adj l a b)(Y:adj l b a):False:=by
 have q:a≠b:=λe=>by
  subst e;rcases adj_iff.mp h1 with⟨p,s,e⟩ | ⟨p,e,z⟩
  .rw[e]at nd
   have:=(Aa4.mp nd).2.1
   simp at this
  .cases p with
   | nil=>rw[e]at r;simp at r
   | cons c p=>rw[e]at z nd;simp at z;subst z;simp at nd
 rcases adj_iff.mp h1 with⟨p,s,e⟩ | ⟨p,e,z⟩
 .rcases adj_iff.mp Y with⟨k,m,e'⟩ | ⟨k,e',w⟩
  .have J:=O3 nd e
   have M:=O3 nd e'
   have X:=O3 (p:=p++[a]) (u:=b) (s:=s) nd (by rw[e];simp)
   have U:=O3 (p:=k++[b]) (u:=a) (s:=m) nd (by rw[e'];simp)
   simp at X U
   lia
  .
   cases p with
   | cons c p=>rw[e]at w nd;simp at w;subst w;simp at nd
   | nil=>
    cases s with
    | nil=>rw[e]at r;simp at r
    | cons d s=>
     rw[e]at e' nd;rcases Ac5 (d::s) with h | ⟨y,g,h⟩
     .cases h
     .rw[h]at e' nd;have j:([]++a::b::y.concat g)=(a::b::y)++[g]:=by simp
      rw[j]at e' nd
      have:=(List.append_inj' e' rfl).2
      simp at this
      subst this;simp at nd
 .rcases adj_iff.mp Y with⟨k,m,e'⟩ | ⟨k,e',w⟩
  .cases k with
   | cons c k=>rw[e']at z nd;simp at z;subst z;simp at nd
   | nil=>
    cases m with
    | nil=>rw[e']at r;simp at r
    | cons d s=>
     rw[e']at e nd;rcases Ac5 (d::s) with h | ⟨y,g,h⟩
     .cases h
     .rw[h]at e nd;have j:([]++b::a::y.concat g)=(b::a::y)++[g]:=by simp
      rw[j]at e nd
      have:=(List.append_inj' e rfl).2
      simp at this
      subst this;simp at nd
  .have:=List.append_inj' (e.symm.trans e') rfl
   exact q (by simpa using this.2)
theorem cF5 {g:Nat->Bool}:∀(a:Nat) (l:AD),(∀s q,lin (a::l) s q->g s=g q)->∀c∈l,g c=g a
 | a,[],_,c,hc=>by cases hc
 | a,b::l,h,c,hc=>by
  have e:g a=g b:=h a b (by rw[B6];exact .inl ⟨rfl,rfl⟩)
  rcases Aa1.mp hc with rfl | hc
  .exact e.symm
  .rw[e];exact cF5 b l (λs q y=>h s q (by rw[B6];exact .inr y)) c hc
theorem cL9:H1 S.first.row:=by
 intro z Z;have y:S.first.row 0=[1,2]:=rfl;have w:S.first.row 1=[2,0]:=rfl;have r:S.first.row 2=[0,1]:=rfl;have rh:∀q,3<=q->S.first.row q=[]:=λq e=>aR3 (s:=S.first) e
 have k:=Z.ev 0
 have j:=Z.ev 1
 have c:=Z.ev 2
 rw[y]at k;rw[w]at j;rw[r]at c;simp only[par,Bool.xor_false]at k j c;have m:=Z.sym 0 1;have Y:=Z.sym 0 2;have X:=Z.sym 1 2;refine⟨λp q=>if(p=0/\q=1)\/(p=1/\q=2)\/(p=2/\q=0) then z 0 1 else false,λq a b h=>?_,λp s q h=>?_⟩
 .have e:q<3:=by
   by_cases e:q<3
   .exact e
   .rw[rh q (by lia)]at h;exact absurd (D1 h).1 (by simp)
  rcases (show q=0\/q=1\/q=2 by lia) with rfl | rfl | rfl
  .rw[y]at h;simp[adj,lin]at h;rcases h with⟨rfl,rfl⟩ | ⟨rfl,rfl⟩ <;> simp
  .rw[w]at h;simp[adj,lin]at h;rcases h with⟨rfl,rfl⟩ | ⟨rfl,rfl⟩ <;> simp
  .rw[r]at h;simp[adj,lin]at h;rcases h with⟨rfl,rfl⟩ | ⟨rfl,rfl⟩ <;> simp
 .have e:p<3:=by
   by_cases e:p<3
   .exact e
   .rw[rh p (by lia)]at h;exact absurd (D1 h).1 (by simp)
  rcases (show p=0\/p=1\/p=2 by lia) with rfl | rfl | rfl
  .rw[y]at h;simp[adj,lin]at h;rcases h with⟨rfl,rfl⟩ | ⟨rfl,rfl⟩ <;> simp <;> grind
  .rw[w]at h;simp[adj,lin]at h;rcases h with⟨rfl,rfl⟩ | ⟨rfl,rfl⟩ <;> simp <;> grind
  .rw[r]at h;simp[adj,lin]at h;rcases h with⟨rfl,rfl⟩ | ⟨rfl,rfl⟩ <;> simp <;> grind
theorem bx1:∀A X V Y B:Bool,xor A (xor X (xor V (xor Y B)))=false->xor A (xor X (xor false (xor Y B)))=V:=by decide
theorem bx2:∀A X V Y B:Bool,xor A (xor X (xor V (xor Y B)))=false->xor A (xor X (xor Y B))=V:=by decide
theorem bx3:∀A T V B:Bool,xor A (xor T (xor V B))=false->xor A (xor T B)=V:=by decide
theorem bx4:∀A Z V B:Bool,xor A (xor Z (xor V B))=false->xor A (xor Z (xor false B))=V:=by decide
section
variable {row row':Nat->AD}{v x y:Nat}{L C R:AD}
theorem Edit.sym' (E:Edit row row' v x y L C R){p q:Nat}(h:q∈row' p):p∈row' q:=by
 obtain⟨b,e⟩:=aF6 h;exact(D1 (E.tri' _ _ _ e)).2
theorem Edit.mem_old (E:Edit row row' v x y L C R){p q:Nat}(hp:p≠v)(m:q≠v)(h:q∈row' p):q∈row p:=by
 by_cases k:p=2
 .subst k;rw[E.new2]at h;rw[E.two];simp only[Aa0,Aa1]at h ⊢;grind
 by_cases c:p=x
 .subst c;obtain⟨u,z,w,e,r⟩:=E.rx;rw[r]at h;rw[e];simp only[Aa0,Aa1]at h ⊢;grind
 by_cases s:p=y
 .subst s;obtain⟨u,w,e,r⟩:=E.ry;rw[r]at h;rw[e];simp only[Aa0,Aa1]at h ⊢;grind
 by_cases j:p∈C
 .obtain⟨u,z,w,e,r⟩:=E.rc p j;rw[r]at h;rw[e];simp only[Aa0,Aa1]at h ⊢;grind
 .rw[E.rest p k hp c s j]at h;exact h
theorem Edit.par_old (E:Edit row row' v x y L C R){w:Nat->Nat->Bool}(Z:Cyc row' w){p:Nat}(hp:p≠v):par (w p) (row p)=w p v:=by
 obtain⟨⟨f1,f2,f3,N,Q⟩,U,nd2⟩:=E.facts;have ev:=Z.ev p;have no:∀q,q∉row' p->w p q=false:=λq J=>by
  cases h:w p q with
  | false=>rfl
  | true=>exact absurd (Z.sup p q h) J
 have nd':=E.nd' p
 by_cases s:p=2
 .subst s;rw[E.new2]at ev;rw[E.two];have j:par (w 2) C=false:=a8 λc j=>no c (by
   rw[E.new2]
   have:=U c j
   simp only[Aa4,Aa5,Aa0,Aa1,not_or]at nd2;simp only[Aa0,Aa1,not_or];grind)
  simp only[X7,par,j]at ev ⊢;exact bx1 _ _ _ _ _ ev
 by_cases m:p=x
 .subst m;obtain⟨u,z,X,r,k⟩:=E.rx;rw[k]at ev;rw[r];simp only[X7,par]at ev ⊢;exact bx2 _ _ _ _ _ ev
 by_cases Y:p=y
 .subst Y;obtain⟨u,X,r,k⟩:=E.ry;rw[k]at ev;rw[r];simp only[X7,par]at ev ⊢;exact bx3 _ _ _ _ ev
 by_cases j:p∈C
 .obtain⟨u,z,X,r,k⟩:=E.rc p j;have M:w p 2=false:=no 2 (by
   have:=E.nd p
   rw[r]at this;have D:=E.v2;rw[k];simp only[Aa4,Aa5,Aa0,Aa1,not_or]at this ⊢;grind)
  rw[k]at ev;rw[r];simp only[X7,par,M]at ev ⊢;exact bx4 _ _ _ _ ev
 .have e:=E.rest p s hp m Y j
  rw[e]at ev;rw[ev,no v (by rw[e];exact E.fresh p)]
theorem cV7 (E:Edit row row' v x y L C R)(h:H1 row):H1 row':=by
 intro Q Z;obtain⟨⟨f1,f2,f3,f4,f5⟩,fC,nd2⟩:=E.facts;have v2:=E.v2;have M:=E.nd' v;have hD3:3<=(row' v).length:=by rw[E.newv];simp
 obtain⟨G,hG⟩:=pot M (Z.ev v);have nv:∀{q},q∈row' v->q≠v:=λ{q} Y e=>E.self' v (e▸Y)
 have j:∀{a b},adj (row' v) a b->a∈row' b/\b∈row' a/\a≠v/\b≠v:=λ{a b} m=>by
  have U:=E.tri' _ _ _ m
  have t2:=E.tri' _ _ _ U
  exact⟨(D1 t2).2,(D1 U).1,nv (D1 m).1,nv (D1 m).2⟩
 let r:Nat->Nat->Bool:=λp q=>if adj (row' v) p q then G p else if adj (row' v) q p then G q else false
 have lksym:∀p q,r p q=r q p:=λp q=>by
  simp only[r];by_cases h1:adj (row' v) p q <;> by_cases J:adj (row' v) q p
  .exact(aI8 M hD3 h1 J).elim
  .simp[h1,J]
  .simp[h1,J]
  .simp[h1,J]
 let z:Nat->Nat->Bool:=λp q=>if p=v\/q=v then false else xor (Q p q) (r p q)
 have zz:∀p q,p≠v->q≠v->z p q=xor (Q p q) (r p q):=λp q h1 J=>by simp[z,h1,J]
 have Z0:Cyc row z:=by
  refine⟨λp q=>?_,λp q F=>?_,λp=>?_⟩
  .simp only[z];rw[Z.sym p q,lksym p q];by_cases h1:p=v <;> by_cases J:q=v <;> simp[h1,J]
  .by_cases h1:p=v\/q=v
   .simp only[z]at F;rw[Ac h1]at F;cases F
   .have B:p≠v/\q≠v:=by simpa using h1
    rw[zz p q B.1 B.2]at F;refine E.mem_old B.1 B.2 ?_;cases hz':Q p q with
    | true=>exact Z.sup p q hz'
    | false=>
     rw[hz']at F;by_cases a1:adj (row' v) p q
     .exact(j a1).2.1
     .by_cases a2:adj (row' v) q p
      .exact(j a2).1
      .simp[r,a1,a2]at F
  .by_cases hp:p=v
   .subst hp;rw[E.oldv];rfl
   .have D:par (z p) (row p)=par (λq=>xor (Q p q) (r p q)) (row p):=aB6 λq Y=>zz p q hp λe=>E.fresh p (e▸Y)
    rw[D,X2,E.par_old Z hp];by_cases hm:p∈row' v
    .obtain⟨s,X⟩:=aF6 hm;obtain⟨t,P⟩:=aS5 hm;have hst:s≠t:=λe=>aI8 M hD3 X (e▸P)
     have e2:=cX1 (w:=r p) hst (E.nd p) (E.mem_old hp (j X).2.2.2 (j X).2.1) (E.mem_old hp (j P).2.2.1 (j P).1) (λq _ h1 J=>by
      simp only[r];rw[Ab λk=>h1 (T4 M k X),Ab λk=>J (V8 M k P)])
     have l1:r p s=G p:=by simp[r,X]
     have l2:r p t=G t:=by
      simp only[r];rw[Ab λk=>hst (T4 M X k),Ac P]
     rw[e2,l1,l2,Z.sym p v,<- hG t p P];cases G t <;> cases G p <;> rfl
    .rw[a8 λq _=>by simp only[r];rw[Ab λk=>hm (D1 k).1,Ab λk=>hm (D1 k).2]]
     cases F:Q p v with
     | false=>rfl
     | true=>exact absurd (E.sym' (Z.sup p v F)) hm
 obtain⟨f,fr,fb⟩:=h z Z0;have fb':∀p q,q∈row p->xor (f p q) (f q p)=z p q:=λp q Y=>by
  obtain⟨s,X⟩:=aS5 Y
  have:=fb p s q X
  have U:=E.tri _ _ _ X
  rw[<- this,fr _ _ _ X,fr _ _ _ U];cases f q p <;> cases f p q <;> rfl
 have lkC:∀c∈C,r 2 c=false:=λc hc=>by
  have fc:=fC c hc
  have aD:∀a b,adj (row' v) a b↔EE x y C a b\/(a=y/\b=2)\/(a=2/\b=x):=λa b=>by
   rw[E.newv];unfold adj EE
   have:x::(C++[y,2])++List.take 1 (x::(C++[y,2]))=(x::C)++y::[2,x]:=by simp
   rw[this,C1];simp only[B6,aC5,or_false]
   simp
  simp only[r];have m1:¬adj (row' v) 2 c:=λk=>by
   rcases (aD _ _).mp k with h | h | h
   .have:=v7 h;grind
   .exact absurd h.1.symm f3
   .exact fc.1 h.2
  have m2:¬adj (row' v) c 2:=λk=>by
   rcases (aD _ _).mp k with h | h | h
   .have:=v7 h;grind
   .exact fc.2.1 h.1
   .exact fc.2.2.1 h.1
  rw[Ab m1,Ab m2]
 have k2:∀c∈C,f 2 c=f 2 x:=cF5 (g:=f 2) x C λs q X=>by
  have Y:q∈C:=O4 X
  have he:EE x y C s q:=by
   unfold EE
   have:x::(C++[y])=(x::C)++[y]:=rfl
   rw[lin_iff]at X ⊢;obtain⟨p,w,e⟩:=X;exact⟨p,w++[y],by rw[this,e];simp⟩
  have:=fb 2 s q (m9 E he)
  have fc:=fC q Y
  have z2:z 2 q=false:=by
   rw[zz 2 q (Ne.symm v2) fc.2.2.2,lkC q Y];cases F:Q 2 q with
   | false=>rfl
   | true=>
    have:=Z.sup 2 q F
    rw[E.new2]at this;simp only[Aa4,Aa5,Aa0,Aa1,not_or]at nd2 this;grind
  rw[z2]at this;cases h1:f 2 s <;> cases J:f 2 q <;> simp[h1,J]at this ⊢
 generalize hκ:f 2 x=κ at k2;have aD:∀a b,adj (row' v) a b↔EE x y C a b\/(a=y/\b=2)\/(a=2/\b=x):=λa b=>by
  rw[E.newv];unfold adj EE
  have:x::(C++[y,2])++List.take 1 (x::(C++[y,2]))=(x::C)++y::[2,x]:=by simp
  rw[this,C1];simp only[B6,aC5,or_false]
  simp
 have fk:∀a b,adj (row' v) a b->f a b=κ:=λa b k=>by
  have ee:∀{a b},EE x y C a b->f 2 a=κ:=λ{a b} he=>by
   rcases (v7 he).1 with rfl | hc
   .exact hκ
   .exact k2 a hc
  rcases (aD a b).mp k with he | ⟨rfl,rfl⟩ | ⟨rfl,rfl⟩
  .rw[<- fr 2 a b (m9 E he)];exact ee he
  .
   obtain⟨t,P⟩:∃t,EE x a C t a:=by
    unfold EE;rcases Ac5 (x::C) with h | ⟨p,t,h⟩
    .cases h
    .refine⟨t,lin_iff.mpr ⟨p,[],?_⟩⟩
     have:x::(C++[a])=(x::C)++[a]:=rfl
     rw[this,h];simp
   have h1:=m9 E P
   have U:=E.tri _ _ _ h1
   rw[<- fr _ _ _ U,<- fr _ _ _ h1];exact ee P
  .exact hκ
 refine⟨λp q=>if p=v then xor κ (G q) else if q=v then xor κ (xor (G p) (Q v p)) else if adj (row' v) p q then xor κ (G p) else f p q,λq a b m=>?_,λp s q N=>?_⟩
 .have U:=E.tri' _ _ _ m
  have t2:=E.tri' _ _ _ U
  have gp:∀{a b},adj (row' v) a b->xor (G b) (Q v b)=G a:=λ{a b} h=>by rw[<- hG a b h];cases G a <;> cases G b <;> rfl
  dsimp only
  by_cases Y:q=v
  .subst Y;have i:=j m;rw[Ac rfl,Ab i.2.2.1,Ab i.2.2.2,Ac m]
  by_cases k:a=v
  .subst k;have i:=j U;rw[Ab Y,Ac rfl,Ac rfl,gp U]
  by_cases hb:b=v
  .subst hb;rw[Ab Y,Ab k,Ac t2,Ab k,Ac rfl,gp t2]
  .have n1:¬adj (row' v) q a:=λh=>hb (T4 (E.nd' q) m (E.tri' _ _ _ h))
   have n2:¬adj (row' v) a b:=λh=>Y (T4 (E.nd' a) U (E.tri' _ _ _ h))
   rw[Ab Y,Ab k,Ab n1,Ab k,Ab hb,Ab n2];rcases (bS3 E q a b).mp m with⟨h1,_⟩ | h1
   .exact fr _ _ _ h1
   .unfold W' at h1;grind
 .have U:=E.tri' _ _ _ N
  have t2:=E.tri' _ _ _ U
  dsimp only
  by_cases hp:p=v
  .subst hp;rw[Ac rfl,Ac rfl,<- hG s q N];cases κ <;> cases G s <;> cases G q <;> rfl
  by_cases X:s=v
  .subst X;have i:=j U;have n1:¬adj (row' s) p q:=λh=>aI8 M hD3 U h
   rw[Ab hp,Ac rfl,Ab hp,Ab i.2.2.1,Ab n1];have D:=fb' p q (E.mem_old hp i.2.2.1 i.1);rw[fk q p U,zz p q hp i.2.2.1]at D;have l1:r p q=G q:=by simp only[r];rw[Ab n1,Ac U]
   rw[l1]at D;have e2:=hG q p U;rw[<- e2];cases h1:f p q <;> cases J:Q p q <;> cases h3:G q <;> cases h4:G p <;> cases h5:κ <;> simp[h1,J,h3,h5]at D ⊢
  by_cases Y:q=v
  .subst Y;have i:=j t2;rw[Ab hp,Ab X,Ac t2,Ab hp,Ac rfl,Z.sym p q];cases κ <;> cases G p <;> cases Q q p <;> rfl
  .have n1:¬adj (row' v) p s:=λh=>Y (T4 (E.nd' p) N (E.tri' _ _ _ h))
   have n2:¬adj (row' v) q p:=λh=>X (V8 (E.nd' p) N (E.tri' _ _ _ (E.tri' _ _ _ h)))
   have o:adj (row p) s q:=by
    rcases (bS3 E p s q).mp N with⟨h1,_⟩ | h1
    .exact h1
    .unfold W' at h1;grind
   have D:=fb p s q o
   rw[zz p q hp Y]at D;rw[Ab hp,Ab X,Ab n1,Ab hp,Ab Y];by_cases n3:adj (row' v) p q
   .have l1:r p q=G p:=by simp only[r];rw[Ac n3]
    rw[Ac n3];rw[l1,fk p q n3]at D;cases h1:f p s <;> cases J:Q p q <;> cases h3:G p <;> cases h5:κ <;> simp[h1,J,h3,h5]at D ⊢
   .have l1:r p q=false:=by simp only[r];rw[Ab n3,Ab n2]
    rw[Ab n3,D,l1];simp
end
theorem cO1 {F G:Nat->Nat}{m:Nat}(R:Rws F G m):∀i,i<=m->H1 (gst F G i).row
 | 0,_=>cL9
 | i+1,hi=>by
  have I:=R4 R i (by lia)
  have f1:=R.f1 i (by lia)
  have f2:=R.f2 i (by lia)
  have z:=R.g1 i (by lia)
  have r:=R.g2 i (by lia)
  have h1:=I.p
  have k:=I.h
  obtain⟨x,c,y,j,e,w,E,_⟩:=bF9 I.inv (a:=F i-pv F i) (b:=G i-pv G i) (by lia) (by lia)
  exact cV7 E (cO1 R i (by lia))
theorem bX8 (w:Nat->Bool)(f:Nat->Nat):∀l:AD,par w (l.map f)=par (λa=>w (f a)) l
 | []=>rfl
 | a::l=>by simp[par,bX8 w f l]
theorem cD1 {w:Nat->Bool}{l m:AD}(h:l.Perm m):par w l=par w m:=by
 induction h with
 | nil=>rfl
 | cons a _ y=>simp[par,y]
 | swap a b l=>simp only[par];cases w a <;> cases w b <;> cases par w l <;> rfl
 | trans _ _ h1 e=>exact h1.trans e
theorem H1.named {n:Nat}{r r':Nat->AD}{f:Nat->Nat}(G:Good n r)(F:Nm n f)(h:∀v,v<n->r' (f v)=U1 ((r v).map f))(D:∀q,n<=q->r' q=[])(H:H1 r):H1 r':=by
 intro z' Z;have G':=G.named F h D;have gi:∀q,∃v,q<n->v<n/\f v=q:=λq=>by
  by_cases k:q<n
  .obtain⟨v,h1,Y⟩:=F.surj q k;exact⟨v,λ_=>⟨h1,Y⟩⟩
  .exact⟨0,λz=>absurd z k⟩
 let g:Nat->Nat:=λq=>Classical.choose (gi q)
 have P:∀q,q<n->g q<n/\f (g q)=q:=λq k=>Classical.choose_spec (gi q) k
 have J:∀v,v<n->g (f v)=v:=λv j=>F.inj _ _ (P _ (F.lt v j)).1 j (P _ (F.lt v j)).2
 have M:∀v,v<n->∀x,x∈r' (f v)↔∃a,a∈r v/\x=f a:=λv j x=>by
  rw[h v j,aX7,Aa8];exact⟨λ⟨a,h1,Y⟩=>⟨a,h1,Y.symm⟩,λ⟨a,h1,Y⟩=>⟨a,h1,Y.symm⟩⟩
 have m:∀v,v<n->∀x y,adj (r' (f v)) x y↔∃a b,x=f a/\y=f b/\adj (r v) a b:=λv j x y=>by rw[h v j,aW7,bU4]
 have Z0:Cyc r λp q=>if p<n/\q<n then z' (f p) (f q) else false:=by
  refine⟨λp q=>?_,λp q R=>?_,λp=>?_⟩
  .by_cases h1:p<n <;> by_cases Y:q<n <;> simp[h1,Y,Z.sym (f p) (f q)]
  .by_cases h1:p<n/\q<n
   .rw[Ac h1]at R;obtain⟨a,B,e⟩:=(M p h1.1 _).mp (Z.sup _ _ R);rw[F.inj q a h1.2 (G.lt p a B) e];exact B
   .rw[Ab h1]at R;cases R
  .by_cases hp:p<n
   .have ev:=Z.ev (f p)
    rw[h p hp,cD1 (p7 _),bX8]at ev;rw[<- ev];exact aB6 λq k=>by simp[hp,G.lt p q k]
   .rw[G.hi p (by lia)];rfl
 obtain⟨f0,fr,fb⟩:=H _ Z0;refine⟨λp q=>f0 (g p) (g q),λq a b X=>?_,λp s q U=>?_⟩
 .have k:q<n:=by
   by_cases k:q<n
   .exact k
   .rw[D q (by lia)]at X;exact absurd (D1 X).1 (by simp)
  obtain⟨v,j,rfl⟩:=F.surj q k;obtain⟨c,d,rfl,rfl,w⟩:=(m v j a b).mp X;have Q:=G.lt v c (D1 w).1;have N:=G.lt v d (D1 w).2;dsimp only;rw[J v j,J c Q,J d N];exact fr _ _ _ w
 .have k:p<n:=by
   by_cases k:p<n
   .exact k
   .rw[D p (by lia)]at U;exact absurd (D1 U).1 (by simp)
  obtain⟨v,j,rfl⟩:=F.surj p k;obtain⟨c,d,rfl,rfl,w⟩:=(m v j s q).mp U;have Q:=G.lt v c (D1 w).1;have N:=G.lt v d (D1 w).2;dsimp only;rw[J v j,J c Q,J d N,fb _ _ _ w]
  simp[j,N]
theorem Bt.h1 {F G:Nat->Nat}{m:Nat}{f:Nat->Nat}{d t:AA}(B:Bt F G m f d t):H1 (trn d):=by
 refine H1.named (aQ7 B.R) B.N (λv y=>?_) (λq e=>?_) (cO1 B.R m (Aa7 _))
 .unfold trn;rw[B.dr v y];rfl
 .unfold trn;rw[Ad6 (by rw[B.dl];exact e)];rfl
structure Tk (r:Nat->AD)(n:Nat)(rim:AD)(R:Nat->Prop):Prop where
 nd:rim.Nodup
 ends:∃mid,rim=0::(mid++[1])
 out:∀p∈rim,¬R p
 lt:∀p∈rim,p<n
 at_:3<=rim.length->∀a p b,adj rim a p->adj rim p b->∃I O u w,r p=u++w/\w++u=a::(I++b::O)/\(∀q∈I,¬R q)/\(∀q∈O,R q)/\O≠[]
 inn:∀p,p<n->¬R p->p∉rim->∀q∈r p,¬R q
 con:∀u,R u->∃z:Nat->Nat->Bool,(∀p q,z p q=z q p)/\(∀p q,z p q=true->q∈r p/\R p/\R q)/\∀p,par (z p) (r p)=xor (decide (p=u)) (decide (p=2))
def ed (X Y:Nat)(p q:Nat):Bool:=(decide (p=X)&&decide (q=Y))||(decide (p=Y)&&decide (q=X))
theorem bA1 (X Y p q:Nat):ed X Y p q=ed X Y q p:=by
 unfold ed;by_cases h1:p=X <;> by_cases e:q=Y <;> by_cases y:p=Y <;> by_cases w:q=X <;> simp[h1,e,y,w] <;> grind
theorem bW7 {X Y p q:Nat}(h:ed X Y p q=true):(p=X/\q=Y)\/(p=Y/\q=X):=by
 unfold ed at h;simpa using h
theorem bG3 {n:Nat}{r:Nat->AD}(G:Good n r){X Y:Nat}(h:Y∈r X)(p:Nat):par (ed X Y p) (r p)=xor (decide (p=X)) (decide (p=Y)):=by
 have y:X≠Y:=λe=>G.self X (by rw[<- e]at h;exact h)
 by_cases h1:p=X
 .subst h1;rw[aB2 (G.nd p) h λa _ z=>by unfold ed;simp[y,z]]
  unfold ed;simp[y]
 .by_cases w:p=Y
  .subst w;rw[aB2 (G.nd p) (G.sym h) λa _ z=>by unfold ed;simp[h1,z]]
   unfold ed;simp[h1]
  .rw[a8 λa _=>by unfold ed;simp[h1,w]]
   simp[h1,w]
theorem dN9 {P:Nat->Prop}:(∃k,P k)->∃k,P k/\∀j,j<k->¬P j:=by
 intro ⟨k,y⟩;induction k using Nat.strongRecOn with
 | _ k w=>
  by_cases h:∃j,j<k/\P j
  .obtain⟨j,e,hp⟩:=h;exact w j e hp
  .exact⟨k,y,λj e hp=>h ⟨j,e,hp⟩⟩
theorem seg {f w:Nat->Bool}:∀(s:Nat) (l:AD) (b:Nat),(∀a q,lin (s::(l++[b])) a q->xor (f a) (f q)=w q)->xor (f s) (f b)=par w (l++[b])
 | s,[],b,h=>by
  have:=h s b (by simp[lin])
  simp[par,this]
 | s,c::l,b,h=>by
  have h1:=h s c (by rw[Ab6,B6];exact .inl ⟨rfl,rfl⟩)
  have e:=seg c l b λa q y=>h a q (by rw[Ab6,B6];exact .inr y)
  simp only[Ab6,par];rw[<- h1,<- e];cases f s <;> cases f c <;> cases f b <;> rfl
theorem bO3 {l u w:AD}{s q:Nat}(e:l=u++w)(h:adj (w++u) s q):adj l s q:=by
 rw[e];exact(X8 u w s q).mp h
theorem aS0 {l m:AD}{s q:Nat}(h:lin l s q):adj (l++m) s q:=by
 rw[lin_iff]at h;obtain⟨p,t,e⟩:=h;exact adj_iff.mpr (.inl ⟨p,t++m,by rw[e];simp⟩)
section
variable {r:Nat->AD}{n:Nat}{rim:AD}{R:Nat->Prop}
def gi (rim:AD)(k:Nat):Nat:=rim.getD k 0
theorem v3 {k:Nat}(h:k<rim.length):rim[k]? = some (gi rim k):=by
 unfold gi;rw[Ac0,Aa2 h];rfl
theorem P7 {k:Nat}(h:k<rim.length):gi rim k∈rim:=Az (v3 h)
theorem bN8 (nd:rim.Nodup){j k:Nat}(y:j<rim.length)(w:k<rim.length)(e:gi rim j=gi rim k):j=k:=by
 have h1:=v3 y
 have z:=v3 w
 rw[<- e]at z;rw[Aa2 y]at h1;rw[Aa2 w]at z;have e':rim[j]=rim[k]:=by rw[Ab4 h1,Ab4 z]
 by_cases p:j<k
 .exact absurd e' (List.pairwise_iff_getElem.mp nd j k y w p)
 .by_cases c:k<j
  .exact absurd e'.symm (List.pairwise_iff_getElem.mp nd k j w y c)
  .lia
theorem cP3 {k:Nat}(h:k+1<rim.length):adj rim (gi rim k) (gi rim (k+1)):=by
 refine adj_iff.mpr (.inl ⟨rim.take k,rim.drop (k+2),?_⟩);have h1:=v3 (rim:=rim) (k:=k) (by lia)
 have e:=v3 h
 rw[Aa2 (by lia)]at h1
 rw[Aa2 h]at e;rw[<- Ab4 h1,<- Ab4 e];rw[<- List.drop_eq_getElem_cons h,<- List.drop_eq_getElem_cons (show k<rim.length by lia),Ad3]
theorem bV1 (h:0<rim.length):adj rim (gi rim (rim.length-1)) (gi rim 0):=by
 refine adj_iff.mpr (.inr ⟨rim.take (rim.length-1),?_,?_⟩)
 .have h1:=v3 (rim:=rim) (k:=rim.length-1) (by lia)
  rw[Aa2 (by lia)]at h1
  rw[<- Ab4 h1]
  have:=Ad3 (rim.length-1) rim
  rw[Bh (by lia),List.drop_eq_nil_of_le (by lia)]at this
  exact this.symm
 .rw[List.head?_eq_getElem?];exact v3 h
def nxt (rim:AD)(k:Nat):Nat:=if k+1=rim.length then gi rim 0 else gi rim (k+1)
def prv (rim:AD)(k:Nat):Nat:=if k=0 then gi rim (rim.length-1) else gi rim (k-1)
theorem Tk.row (T:Tk r n rim R)(e:3<=rim.length){k:Nat}(y:k<rim.length):∃I O u w,r (gi rim k)=u++w/\w++u=prv rim k::(I++nxt rim k::O)/\(∀q∈I,¬R q)/\(∀q∈O,R q)/\O≠[]:=by
 refine T.at_ e _ _ _ ?_ ?_
 .unfold prv;by_cases h:k=0
  .rw[Ac h,h];exact bV1 (by lia)
  .rw[Ab h]
   have:=cP3 (rim:=rim) (k:=k-1) (by lia)
   rwa [show k-1+1=k by lia]at this
 .unfold nxt;by_cases h:k+1=rim.length
  .rw[Ac h]
   have:=bV1 (rim:=rim) (by lia)
   rwa [show rim.length-1=k by lia]at this
  .rw[Ab h];exact cP3 (by lia)
theorem Tk.tie (T:Tk r n rim R)(j:3<=rim.length){k:Nat}(c:k<rim.length):nxt rim k∈r (gi rim k)/\prv rim k∈r (gi rim k):=by
 obtain⟨I,O,u,w,y,z,_⟩:=T.row j c
 have:∀q,q∈prv rim k::(I++nxt rim k::O)->q∈r (gi rim k):=λq e=>by
  rw[y,Aa0];rw[<- z,Aa0]at e;exact e.symm
 exact⟨this _ (by simp),this _ (by simp)⟩
theorem cK0 {z f:Nat->Nat->Bool}(c:∀p s q,adj (r p) s q->xor (f p s) (f p q)=z p q){p:Nat}(Y:∀q,z p q=false){q q':Nat}(h:q∈r p)(h':q'∈r p):f p q=f p q':=by
 cases e:r p with
 | nil=>rw[e]at h;cases h
 | cons a l=>
  have w:=cF5 (g:=f p) a l λs t k=>by
   have:=c p s t (by rw[e];unfold adj;rw[lin_iff]at k ⊢;obtain⟨x,y,e'⟩:=k;exact⟨x,y++List.take 1 (a::l),by rw[e'];simp⟩)
   rw[Y t]at this;cases h1:f p s <;> cases m:f p t <;> simp[h1,m]at this ⊢
  have j:∀t∈r p,f p t=f p a:=λt ht=>by
   rw[e]at ht;rcases Aa1.mp ht with rfl | ht
   .rfl
   .exact w t ht
  rw[j q h,j q' h']
theorem Tk.cross (G:Good n r)(H:H1 r)(T:Tk r n rim R){i j c l:Nat}(hij:i+2<=j)(hj:j<rim.length)(hic:i<c)(hcj:c<j)(hl:l<rim.length)(hlo:l<i\/j<l)(hAB:gi rim j∈r (gi rim i))(hcl:gi rim l∈r (gi rim c)):False:=by
 have h3:3<=rim.length:=by lia
 have inj:=λ{a b:Nat} (ha:a<rim.length) (hb:b<rim.length)=>bN8 T.nd ha hb
 obtain⟨IA,OA,uA,wA,a1,a2,a3,a4,a5⟩:=T.row h3 (k:=i) (by lia)
 obtain⟨IB,OB,uB,wB,b1,b2,b3,b4,b5⟩:=T.row h3 (k:=j) hj;generalize hA:gi rim i=A at *;generalize hB:gi rim j=B at *;obtain⟨m,N⟩:=List.exists_mem_of_ne_nil _ a5;obtain⟨U,D⟩:=List.exists_mem_of_ne_nil _ b5;have rA:=T.out A (hA▸P7 (by lia))
 have rB:=T.out B (hB▸P7 hj)
 have AB:A≠B:=λe=>by have:=inj (a:=i) (b:=j) (by lia) hj (by rw[hA,hB];exact e);lia
 have mA:∀q,q∈prv rim i::(IA++nxt rim i::OA)↔q∈r A:=λq=>by rw[a1,Aa0,<- a2,Aa0];exact Or.comm
 have mB:∀q,q∈prv rim j::(IB++nxt rim j::OB)↔q∈r B:=λq=>by rw[b1,Aa0,<- b2,Aa0];exact Or.comm
 have tA:m∈r A:=(mA m).mp (by simp[N])
 have tB:U∈r B:=(mB U).mp (by simp[D])
 obtain⟨zA,sA,pA,vA⟩:=T.con m (a4 m N);obtain⟨zB,sB,pB,vB⟩:=T.con U (b4 U D)
 let z:Nat->Nat->Bool:=λp q=>xor (ed A B p q) (xor (xor (ed A m p q) (zA p q)) (xor (ed B U p q) (zB p q)))
 have Z:Cyc r z:=by
  refine⟨λp q=>?_,λp q h=>?_,λp=>?_⟩
  .simp only[z];rw[bA1 A B,bA1 A m,bA1 B U,sA p q,sB p q]
  .have e1:∀{X Y},Y∈r X->ed X Y p q=true->q∈r p:=λ{X Y} hXY h=>by
    rcases bW7 h with⟨rfl,rfl⟩ | ⟨rfl,rfl⟩
    .exact hXY
    .exact G.sym hXY
   simp only[z]at h;by_cases c1:ed A B p q=true
   .exact e1 hAB c1
   by_cases c2:ed A m p q=true
   .exact e1 tA c2
   by_cases c3:zA p q=true
   .exact(pA p q c3).1
   by_cases c4:ed B U p q=true
   .exact e1 tB c4
   by_cases c5:zB p q=true
   .exact(pB p q c5).1
   .simp[c1,c2,c3,c4,c5]at h
  .have e:par (z p) (r p)=xor (par (ed A B p) (r p)) (xor (xor (par (ed A m p) (r p)) (par (zA p) (r p))) (xor (par (ed B U p) (r p)) (par (zB p) (r p)))):=by
    rw[<- X2,<- X2,<- X2,<- X2]
   rw[e,bG3 G hAB,bG3 G tA,bG3 G tB,vA,vB];cases decide (p=A) <;> cases decide (p=B) <;> cases decide (p=m) <;> cases decide (p=U) <;> cases decide (p=2) <;> rfl
 obtain⟨f,fr,fb⟩:=H z Z;have fb':∀p q,q∈r p->xor (f p q) (f q p)=z p q:=λp q hq=>by
  obtain⟨s,hs⟩:=aS5 hq;rw[<- fb p s q hs,fr _ _ _ hs,fr _ _ _ (G.tri _ _ _ hs)];cases f q p <;> cases f p q <;> rfl
 have clean:∀p,¬R p->p≠A->p≠B->∀q,z p q=false:=λp hp h1 J q=>by
  have n1:ed A B p q=false:=by unfold ed;simp[h1,J]
  have n2:ed A m p q=false:=by
   unfold ed
   have:p≠m:=λe=>hp (e▸a4 m N)
   simp[h1,this]
  have n3:zA p q=false:=by
   cases h:zA p q with
   | false=>rfl
   | true=>exact absurd (pA p q h).2.1 hp
  have n4:ed B U p q=false:=by
   unfold ed
   have:p≠U:=λe=>hp (e▸b4 U D)
   simp[J,this]
  have n5:zB p q=false:=by
   cases h:zB p q with
   | false=>rfl
   | true=>exact absurd (pB p q h).2.1 hp
  simp[z,n1,n2,n3,n4,n5]
 have cg:∀k,k<rim.length->k≠i->k≠j->∀q,z (gi rim k) q=false:=λk hk h1 J=>clean _ (T.out _ (P7 hk)) (λe=>h1 (inj hk (by lia) (by rw[hA];exact e))) (λe=>J (inj hk hj (by rw[hB];exact e)))
 let y:Nat->Bool:=λk=>f (gi rim k) (nxt rim k)
 have F:∀k,k<rim.length->k≠i->k≠j->∀q∈r (gi rim k),f (gi rim k) q=y k:=λk hk h1 J q hq=>cK0 fb (cg k hk h1 J) hq (T.tie h3 hk).1
 have M:∀k k',k<rim.length->k≠i->k≠j->k'<rim.length->k'≠i->k'≠j->gi rim k'∈r (gi rim k)->y k=y k':=λk k' h1 J h3 h4 h5 h6 ht=>by
  have e:=fb' _ _ ht
  rw[cg k h1 J h3,F k h1 J h3 _ ht,F k' h4 h5 h6 _ (G.sym ht)]at e;cases hx:y k <;> cases hy:y k' <;> simp[hx,hy]at e ⊢
 have nx:∀k,k+1<rim.length->gi rim (k+1)∈r (gi rim k):=λk hk=>by
  have:=(T.tie h3 (k:=k) (by lia)).1
  unfold nxt at this
  rwa [Ab (by lia)]at this
 have ins:∀d,i+1+d<j->y (i+1+d)=y (i+1):=by
  intro d;induction d with
  | zero=>intro _;rfl
  | succ d ih=>
   intro hd;rw[<- ih (by lia)]
   exact(M _ _ (by lia) (by lia) (by lia) (by lia) (by lia) (by lia) (nx (i+1+d) (by lia))).symm
 have lo:∀d,d<i->y d=y 0:=by
  intro d;induction d with
  | zero=>intro _;rfl
  | succ d ih=>
   intro hd;rw[<- ih (by lia)]
   exact(M _ _ (by lia) (by lia) (by lia) (by lia) (by lia) (by lia) (nx d (by lia))).symm
 have hi:∀d,j+1+d<rim.length->y (j+1+d)=y (j+1):=by
  intro d;induction d with
  | zero=>intro _;rfl
  | succ d ih=>
   intro hd;rw[<- ih (by lia)]
   exact(M _ _ (by lia) (by lia) (by lia) (by lia) (by lia) (by lia) (nx (j+1+d) (by lia))).symm
 have cross:y c=y l:=M c l (by lia) (by lia) (by lia) hl (by lia) (by lia) hcl
 have cc:y c=y (i+1):=by have:=ins (c-(i+1)) (by lia);rwa [show i+1+(c-(i+1))=c by lia]at this
 have nB:nxt rim j=gi rim (j+1)\/j+1=rim.length:=by
  unfold nxt;by_cases h:j+1=rim.length
  .exact .inr h
  .rw[Ab h];exact .inl rfl
 have side:∀{P Q o:Nat} {I O u w:AD} {a b:Nat},r P=u++w->w++u=a::(I++b::O)->(∀q∈I,¬R q)->¬R a->¬R b->(∀q,¬R q->z P q=decide (q=Q))->¬R Q->Q∈r P->(∀q∈O,R q)->a≠Q->b≠Q->f P a=f P b->False:=by
  intro P Q o I O u w a b e1 e2 hI ha hb hz hQ hm hO haQ hbQ e;have nd:(a::(I++b::O)).Nodup:=by
   rw[<- e2]
   have:=G.nd P
   rw[e1]at this;exact(Dd.nodup_iff).mp this
  have mI:Q∈I:=by
   have:Q∈a::(I++b::O):=by
    rw[<- e2,Aa0];rw[e1,Aa0]at hm;exact hm.symm
   simp only[Aa1,Aa0]at this;rcases this with h | h | h | h
   .exact absurd h.symm haQ
   .exact h
   .exact absurd h.symm hbQ
   .exact absurd (hO Q h) hQ
  have s:=seg (f:=f P) (w:=z P) a I b λs q hs=>fb P s q (bO3 e1 (by
   rw[e2,show a::(I++b::O)=(a::(I++[b]))++O by simp]
   exact aS0 hs))
  have ndI:(I++[b]).Nodup:=by
   rw[Aa5]at nd
   have:=nd.2
   rw[show I++b::O=(I++[b])++O by simp]at this
   exact(Aa4.mp this).1
  rw[aB2 ndI (s:=Q) (by simp[mI]) λq hq hne=>by
   rw[hz q (by
    rcases Aa0.mp hq with h | h
    .exact hI q h
    .rw[Ad8.mp h];exact hb)]
   simp[hne],hz Q hQ,e]at s
  simp at s
 have zA':∀q,¬R q->z A q=decide (q=B):=λq hq=>by
  have n1:ed A B A q=decide (q=B):=by unfold ed;simp[AB]
  have n2:ed A m A q=false:=by
   unfold ed;have h1:q≠m:=λe=>hq (e▸a4 m N)
   have J:A≠m:=λe=>rA (e▸a4 m N)
   simp[h1,J]
  have n3:zA A q=false:=by
   cases h:zA A q with
   | false=>rfl
   | true=>exact absurd (pA A q h).2.1 rA
  have n4:ed B U A q=false:=by
   unfold ed;have J:A≠U:=λe=>rA (e▸b4 U D)
   simp[AB,J]
  have n5:zB A q=false:=by
   cases h:zB A q with
   | false=>rfl
   | true=>exact absurd (pB A q h).2.1 rA
  simp[z,n1,n2,n3,n4,n5]
 have zB':∀q,¬R q->z B q=decide (q=A):=λq hq=>by
  have n1:ed A B B q=decide (q=A):=by unfold ed;simp[Ne.symm AB]
  have n2:ed A m B q=false:=by
   unfold ed;have J:B≠m:=λe=>rB (e▸a4 m N)
   simp[Ne.symm AB,J]
  have n3:zA B q=false:=by
   cases h:zA B q with
   | false=>rfl
   | true=>exact absurd (pA B q h).2.1 rB
  have n4:ed B U B q=false:=by
   unfold ed;have h1:q≠U:=λe=>hq (e▸b4 U D)
   have J:B≠U:=λe=>rB (e▸b4 U D)
   simp[h1,J]
  have n5:zB B q=false:=by
   cases h:zB B q with
   | false=>rfl
   | true=>exact absurd (pB B q h).2.1 rB
  simp[z,n1,n2,n3,n4,n5]
 have see:∀{P Q k},(∀q,¬R q->z P q=decide (q=Q))->k<rim.length->k≠i->k≠j->gi rim k≠Q->gi rim k∈r P->f P (gi rim k)=y k:=λ{P Q k} hz hk h1 J hne hm=>by
  have e:=fb' P (gi rim k) hm
  rw[hz _ (T.out _ (P7 hk)),Ao hne,F k hk h1 J _ (G.sym hm)]at e;cases hx:f P (gi rim k) <;> cases hy:y k <;> simp[hx,hy]at e ⊢
 by_cases i0:i=0
 .
  have hjl:j<l:=by lia
  have pB':prv rim j=gi rim (j-1):=by unfold prv;rw[Ab (by lia)]
  have nB':nxt rim j=gi rim (j+1):=by unfold nxt;rw[Ab (by lia)]
  have g1:gi rim (j-1)≠A:=λe=>by have:=inj (a:=j-1) (b:=i) (by lia) (by lia) (by rw[hA];exact e);lia
  have g2:gi rim (j+1)≠A:=λe=>by have:=inj (a:=j+1) (b:=i) (by lia) (by lia) (by rw[hA];exact e);lia
  rw[pB',nB']at b2;have t:=mB;rw[pB',nB']at t;refine side (o:=0) b1 b2 b3 (T.out _ (P7 (by lia))) (T.out _ (P7 (by lia))) zB' rA (G.sym hAB) b4 g1 g2 ?_
  rw[see zB' (by lia) (by lia) (by lia) g1 ((t _).mp (by simp)),see zB' (by lia) (by lia) (by lia) g2 ((t _).mp (by simp))]
  have e1:=ins (j-1-(i+1)) (by lia)
  rw[show i+1+(j-1-(i+1))=j-1 by lia]at e1
  have e2:=hi (l-(j+1)) (by lia)
  rw[show j+1+(l-(j+1))=l by lia]at e2
  rw[e1,<- cc,cross,e2]
 .have pA':prv rim i=gi rim (i-1):=by unfold prv;rw[Ab i0]
  have nA':nxt rim i=gi rim (i+1):=by unfold nxt;rw[Ab (by lia)]
  have g1:gi rim (i-1)≠B:=λe=>by have:=inj (a:=i-1) (b:=j) (by lia) hj (by rw[hB];exact e);lia
  have g2:gi rim (i+1)≠B:=λe=>by have:=inj (a:=i+1) (b:=j) (by lia) hj (by rw[hB];exact e);lia
  rw[pA',nA']at a2;have t:=mA;rw[pA',nA']at t;refine side (o:=0) a1 a2 a3 (T.out _ (P7 (by lia))) (T.out _ (P7 (by lia))) zA' rB hAB a4 g1 g2 ?_
  rw[see zA' (by lia) (by lia) (by lia) g1 ((t _).mp (by simp)),see zA' (by lia) (by lia) (by lia) g2 ((t _).mp (by simp))]
  rw[<- cc,cross,lo (i-1) (by lia)]
  rcases hlo with h | h
  .exact(lo l h).symm
  .have e2:=hi (l-(j+1)) (by lia)
   rw[show j+1+(l-(j+1))=l by lia]at e2
   have e3:=hi (rim.length-1-(j+1)) (by lia)
   rw[show j+1+(rim.length-1-(j+1))=rim.length-1 by lia]at e3
   rw[e2,<- e3]
   have:=(T.tie h3 (k:=rim.length-1) (by lia)).1
   unfold nxt at this;rw[Ac (by lia)]at this
   exact(M (rim.length-1) 0 (by lia) (by lia) (by lia) (by lia) (by lia) (by lia) this).symm
theorem Tk.free (G:Good n r)(H:H1 r)(T:Tk r n rim R)(z:3<=rim.length):∃i,0<i/\i+1<rim.length/\∀j,j<rim.length->gi rim j∈r (gi rim i)->j+1=i\/j=i+1:=by
 obtain⟨k,⟨i,q,s,Y⟩,y⟩:=dN9 (P:=λk=>∃i,i+k<rim.length/\2<=k/\gi rim (i+k)∈r (gi rim i)) ⟨rim.length-1,0,by lia,by lia,by
  have:=(T.tie z (k:=0) (by lia)).2
  unfold prv at this;rw[Ac rfl]at this
  rwa [show 0+(rim.length-1)=rim.length-1 by lia]⟩
 refine⟨i+1,by lia,by lia,λl m w=>?_⟩
 by_cases h1:l=i
 .exact .inl (by lia)
 by_cases U:l=i+2
 .exact .inr (by lia)
 exfalso
 have X:l≠i+1:=λe=>G.self _ (by rw[e]at w;exact w)
 by_cases p:i<=l/\l<=i+k
 .exact y (l-(i+1)) (by lia) ⟨i+1,by lia,by lia,by rwa [show i+1+(l-(i+1))=l by lia]⟩
 .exact T.cross G H (i:=i) (j:=i+k) (c:=i+1) (l:=l) (by lia) q (by lia) (by lia) m (by lia) Y w
end
section
variable {r:Nat->AD}{n:Nat}{R:Nat->Prop}
theorem U4 {l u w m:AD}(nd:l.Nodup)(e:l=u++w)(y:w++u=m):m.Nodup:=by
 rw[<- y];rw[e]at nd;exact(Dd.nodup_iff).mp nd
theorem Y5 {l u w m:AD}(e:l=u++w)(y:w++u=m)(q:Nat):q∈m↔q∈l:=by
 rw[<- y,e,Aa0,Aa0];exact Or.comm
theorem X5 {l u w m:AD}(e:l=u++w)(y:w++u=m)(a b:Nat):adj m a b↔adj l a b:=by
 rw[<- y,e];exact X8 u w a b
theorem o6 {A B C D:AD}{s:Nat}(nd:(A++s::B).Nodup)(e:A++s::B=C++s::D):A=C/\B=D:=by
 have w:=O3 nd rfl
 have z:=O3 nd e
 have y:A.length=C.length:=by lia
 have:=List.append_inj e y
 exact⟨this.1,by simpa using this.2⟩
theorem bM4 {l x1 x2 u w A B:AD}{s:Nat}(nd:l.Nodup)(e:l=x1++s::x2)(q:l=u++w)(z:w++u=A++s::B):(s::x2)++x1=s::(B++A):=by
 have nd2:(w++u).Nodup:=U4 nd q rfl
 by_cases h:s∈w
 .obtain⟨J,M,Y⟩:=Ad5 h;have k:x1++s::x2=(u++J)++s::M:=by rw[<- e,q,Y];simp
  have y:J++s::(M++u)=A++s::B:=by rw[<- z,Y];simp
  obtain⟨j,c⟩:=o6 (by rw[<- e];exact nd) k
  obtain⟨b3,p⟩:=o6 (by rw[y,<- z];exact nd2) y
  rw[j,c,<- b3,<- p];simp
 .have N:s∈u:=by
   have:s∈w++u:=by rw[z];simp
   rcases Aa0.mp this with h' | h'
   .exact absurd h' h
   .exact h'
  obtain⟨X,U,m⟩:=Ad5 N;have k:x1++s::x2=X++s::(U++w):=by rw[<- e,q,m];simp
  have y:(w++X)++s::U=A++s::B:=by rw[<- z,m];simp
  obtain⟨j,c⟩:=o6 (by rw[<- e];exact nd) k
  obtain⟨b3,p⟩:=o6 (by rw[y,<- z];exact nd2) y
  rw[j,c,<- b3,<- p];simp
theorem dR9 {l u w J O:AD}{a p t:Nat}(nd:l.Nodup)(k:l=u++w)(j:w++u=a::(J++p::O))(h:adj l t p)(z:t≠a):∃J',J=J'++[t]:=by
 have nd':=U4 nd k j
 have c:=(X5 k j t p).mpr h
 rcases Ac5 J with y | ⟨J',q,y⟩
 .subst y
  have:adj (a::([]++p::O)) a p:=adj_iff.mpr (.inl ⟨[],O,rfl⟩)
  exact absurd (V8 nd' c this) z
 .subst y
  have:adj (a::(J'.concat q++p::O)) q p:=adj_iff.mpr (.inl ⟨a::J',O,by simp⟩)
  have e:=V8 nd' c this
  subst e;exact⟨J',by simp⟩
theorem dT6 {l u w J O:AD}{b p t:Nat}(nd:l.Nodup)(z:l=u++w)(k:w++u=p::(J++b::O))(h:adj l p t)(y:t≠b):∃J',J=t::J':=by
 have nd':=U4 nd z k
 have j:=(X5 z k p t).mpr h
 cases J with
 | nil=>
  have:adj (p::([]++b::O)) p b:=adj_iff.mpr (.inl ⟨[],O,rfl⟩)
  exact absurd (T4 nd' j this) y
 | cons c J'=>
  have:adj (p::(c::J'++b::O)) p c:=adj_iff.mpr (.inl ⟨[],J'++b::O,rfl⟩)
  have e:=T4 nd' j this
  subst e;exact⟨J',rfl⟩
theorem dQ1 {l:AD}{a b p:Nat}(nd:l.Nodup)(h1:adj l p a)(U:adj l b p)(k:a≠b):∃M u w,l=u++w/\w++u=a::(M++b::[p]):=by
 obtain⟨u,w,e⟩:=Ad5 (D1 h1).2;have j:(a::w)++u=a::(w++u):=rfl;have nd':=U4 nd e j;have z:=(X5 e j p a).mpr h1;have y:=(X5 e j b p).mpr U;rcases Ac5 (w++u) with c | ⟨M,s,c⟩
 .rw[c]at y z nd';have q:=(D1 y).1;have Q:=(D1 y).2;simp at q;exact absurd q.symm k
 .rw[c]at z y nd'
  have:adj (a::M.concat s) s a:=adj_iff.mpr (.inr ⟨a::M,by simp,rfl⟩)
  have X:=V8 nd' z this
  subst X;have Y:a::M.concat p=a::(M++p::[]):=by simp
  rw[Y]at y nd';obtain⟨m,N⟩:=dR9 (J:=M) (l:=a::(M++[p])) (u:=[]) (w:=a::(M++[p])) (O:=[]) nd' rfl (by simp) y (Ne.symm k)
  exact⟨m,u,a::w,e,by rw[j,c,N];simp⟩
theorem bF8 {X Y I:AD}{a p b s q:Nat}(nd:(X++a::p::b::Y).Nodup)(h:adj (X++a::(I++b::Y)) s q):(adj (X++a::p::b::Y) s q/\s≠p/\q≠p)\/lin (a::(I++[b])) s q:=by
 obtain⟨c,j⟩:∃c,(X++[a]).take 1=[c]:=by cases X <;> simp
 have w:c∈X++[a]:=by
  have:=Be (l:=X++[a]) (i:=1) (a:=c) (by rw[j];simp)
  exact this
 have M:∀Z,(X++a::Z).take 1=[c]:=λZ=>by
  rw[show X++a::Z=(X++[a])++Z by simp,Dg (by simp)];exact j
 unfold adj at h ⊢;rw[M]at h ⊢;have U:X++a::(I++b::Y)++[c]=X++a::(I++b::(Y++[c])):=by simp
 have J:X++a::p::b::Y++[c]=X++a::p::b::(Y++[c]):=by simp
 rw[U,C1]at h;have h:lin (X++[a]) s q\/lin ((a::I)++[b]) s q\/lin (b::(Y++[c])) s q:=by
  rcases h with h | h
  .exact .inl h
  .rw[show a::(I++b::(Y++[c]))=(a::I)++b::(Y++[c]) by simp]at h
   exact .inr ((C1 b (Y++[c]) s q (a::I)).mp h)
 rw[J,C1,B6,B6];have z:∀t,t∈X++[a]->t≠p:=λt ht e=>by
  subst e;rw[show X++a::t::b::Y=(X++[a])++t::b::Y by simp]at nd
  exact(Aa4.mp nd).2.2 t ht t (by simp) rfl
 have k:∀t,t∈b::Y->t≠p:=λt ht e=>by
  subst e;rw[show X++a::t::b::Y=(X++[a])++t::b::Y by simp]at nd
  have:=(Aa4.mp nd).2.1
  rw[Aa5]at this;exact this.1 ht
 rcases h with h | h | h
 .have m:=Y2 h
  exact .inl ⟨.inl h,z s m.1,z q m.2⟩
 .exact .inr (by simpa using h)
 .have m:=Y2 h
  have y:∀t,t∈b::(Y++[c])->t≠p:=λt ht=>by
   rw[show b::(Y++[c])=(b::Y)++[c] by simp,Aa0]at ht
   rcases ht with ht | ht
   .exact k t ht
   .rw[Ad8.mp ht];exact z c w
  exact .inl ⟨.inr (.inr (.inr h)),y s m.1,y q m.2⟩
theorem Tk.off (G:Good n r){X Y I O u w:AD}{a p b:Nat}(T:Tk r n (X++a::p::b::Y) R)(hf:∀q∈X++a::p::b::Y,q∈r p->q=a\/q=b)(e1:r p=u++w)(e2:w++u=a::(I++b::O))(hI:∀q∈I,¬R q)(hO:∀q∈O,R q)(hO':O≠[]) :
  Tk r n (X++a::(I++b::Y)) (λq=>R q\/q=p):=by
 have nd:=T.nd
 have ndp:=U4 (G.nd p) e1 e2
 have mp:=λq=>Y5 e1 e2 q
 have h3:3<=(X++a::p::b::Y).length:=by simp;lia
 have pm:p∈X++a::p::b::Y:=by simp
 have am:a∈X++a::p::b::Y:=by simp
 have bm:b∈X++a::p::b::Y:=by simp
 have m:∀q∈I,q∉X++a::p::b::Y:=λq U hm=>by
  have:q∈r p:=(mp q).mp (by simp[U])
  have nd':=ndp
  simp only[Aa5,Aa4,Aa0,Aa1,not_or]at nd';rcases hf q hm this with rfl | rfl
  .exact nd'.1.1 U
  .exact nd'.2.2.2 q U q (.inl rfl) rfl
 have Ip:∀q∈I,q≠p:=λq U e=>m q U (e▸pm)
 have old:∀q,q∈X++a::(I++b::Y)->q∈I\/(q∈X++a::p::b::Y/\q≠p):=λq U=>by
  have:∀t,t∈X++a::b::Y->t≠p:=λt ht e=>by
   subst e;have nd':=nd;simp only[Aa5,Aa4,Aa0,Aa1,not_or]at nd' ht;grind
  simp only[Aa0,Aa1]at U;rcases U with h | h | h | h | h
  .exact .inr ⟨by simp[h],this q (by simp[h])⟩
  .exact .inr ⟨by simp[h],this q (by simp[h])⟩
  .exact .inl h
  .exact .inr ⟨by simp[h],this q (by simp[h])⟩
  .exact .inr ⟨by simp[h],this q (by simp[h])⟩
 have adjap:adj (X++a::p::b::Y) a p:=adj_iff.mpr (.inl ⟨X,b::Y,rfl⟩)
 have adjpb:adj (X++a::p::b::Y) p b:=adj_iff.mpr (.inl ⟨X++[a],Y,by simp⟩)
 have j:∀{s q},lin (a::(I++[b])) s q->adj (r p) s q:=λ{s q} h=>(X5 e1 e2 s q).mp (by
  rw[show a::(I++b::O)=(a::(I++[b]))++O by simp];exact aS0 h)
 have nR:∀q,q∈X++a::p::b::Y->q≠p->¬(R q\/q=p):=λq U D h=>h.elim (T.out q U) D
 refine⟨?_,?_,λq U=>?_,λq U=>?_,λh3' s q t hs ht=>?_,λq U hR hn t ht=>?_,λc hc=>?_⟩
 .have ndI:I.Nodup:=by
   simp only[Aa5,Aa4]at ndp;exact ndp.2.1
  have nd':=nd
  simp only[Aa5,Aa4,Aa0,Aa1,not_or]at nd' ⊢;have hh:∀q∈I,q∉X/\q≠a/\q≠b/\q∉Y:=λq U=>by
   have:=m q U
   simp only[Aa0,Aa1,not_or]at this;grind
  grind
 .obtain⟨mid,e⟩:=T.ends;have hl:(b::Y).getLast? = some 1:=by
   have:=congrArg List.getLast? e
   rw[show X++a::p::b::Y=(X++[a,p])++(b::Y) by simp,List.getLast?_append]at this
   have e9:(0::(mid++[1])).getLast? = some 1:=by rw[show 0::(mid++[1])=(0::mid)++[1] from rfl,List.getLast?_append];rfl
   rw[e9]at this;cases h:(b::Y).getLast? with
   | none=>simp at h
   | some v=>rw[h]at this;simpa using this
  have hh:(X++[a]).head? = some 0:=by
   have:=congrArg List.head? e
   cases X with
   | nil=>simpa using this
   | cons c X=>simpa using this
  obtain⟨Z,eZ⟩:∃Z,b::Y=Z++[1]:=by
   rcases Ac5 (b::Y) with h | ⟨Z,c,h⟩
   .cases h
   .rw[h]at hl;simp at hl;exact⟨Z,by rw[h,hl];simp⟩
  obtain⟨V,eV⟩:∃V,X++[a]=0::V:=by
   cases h:X++[a] with
   | nil=>simp at h
   | cons c V=>rw[h]at hh;simp at hh;exact⟨V,by rw[hh]⟩
  refine⟨V++I++Z,?_⟩;rw[show X++a::(I++b::Y)=(X++[a])++I++(b::Y) by simp,eV,eZ];simp
 .rcases old q U with h | ⟨h,h'⟩
  .exact λz=>z.elim (hI q h) (Ip q h)
  .exact nR q h h'
 .rcases old q U with h | ⟨h,_⟩
  .exact G.lt p q ((mp q).mp (by simp[h]))
  .exact T.lt q h
 .rcases bF8 nd hs with⟨hs,s1,s2⟩ | hs
  .rcases bF8 nd ht with⟨ht,t1,t2⟩ | ht
   .
    obtain⟨J,P,u',w',Q,F,c3,c4,c5⟩:=T.at_ h3 s q t hs ht;have np:p∉r q:=λhm=>by
     rcases hf q (D1 hs).2 (G.sym hm) with rfl | rfl
     .exact t2 (T4 nd ht adjap)
     .exact s1 (V8 nd hs adjpb)
    exact⟨J,P,u',w',Q,F,λk N z=>z.elim (c3 k N) λe=>np ((Y5 Q F p).mp (by rw[<- e];simp[N])),λk N=>.inl (c4 k N),c5⟩
   .
    have qm:=(D1 hs).2
    have qa:q=a:=by
     have:=N1 (u:=a::I) (c:=b) (by simpa using ht)
     rcases Aa1.mp this with h | h
     .exact h
     .exact absurd qm (m q h)
    subst qa;obtain⟨J,P,u',w',Q,F,c3,c4,c5⟩:=T.at_ h3 s q p hs adjap;have h1:adj (r q) t p:=G.tri _ _ _ (j ht);have tm:t∈I++[b]:=O4 ht;have D:t≠s:=λe=>by
     subst e;rcases Aa0.mp tm with h | h
     .exact m t h (D1 hs).1
     .have tb:t=b:=by simpa using h
      subst tb;have ap:adj (X++q::p::t::Y) t q:=hs;have lin2:∃l1 l2,X++q::(I++t::Y)=l1++q::(I++t::l2):=⟨X,Y,rfl⟩;rcases adj_iff.mp ap with⟨x1,x2,ex⟩ | ⟨x1,ex,hx⟩
      .have i1:=O3 nd (show X++q::p::t::Y=(X++[q,p])++t::Y by simp)
       have i2:=O3 nd (p:=x1) (u:=t) (s:=q::x2) ex
       have i3:=O3 nd (p:=X) (u:=q) (s:=p::t::Y) rfl
       have i4:=O3 nd (p:=x1++[t]) (u:=q) (s:=x2) (by rw[ex];simp)
       simp at i1 i2 i3 i4
       lia
      .have hX:X=[]:=by
        cases X with
        | nil=>rfl
        | cons c X=>
         rw[Ab6,List.head?_cons]at hx;have hx':c=q:=by simpa using hx
         have nd2:=nd
         rw[hx',Ab6,Aa5]at nd2;exact absurd (by simp) nd2.1
       have hY:Y=[]:=by
        rcases Ac5 Y with h | ⟨Y',g,h⟩
        .exact h
        .have e5:X++q::p::t::Y=(X++q::p::t::Y')++[g]:=by rw[h];simp
         have:=List.append_inj' (e5.symm.trans ex) rfl
         have tg:g=t:=by simpa using this.2
         have nd2:=nd
         rw[e5,tg]at nd2
         have:=(Aa4.mp nd2).2.2 t (by simp) t (by simp)
         exact absurd rfl this
       have hIe:I=[]:=by
        cases I with
        | nil=>rfl
        | cons c I=>
         have l1:adj (r p) q c:=j (by rw[Ab6,B6];exact .inl ⟨rfl,rfl⟩)
         have l2:adj (r p) q t:=j ht
         have:c=t:=T4 (G.nd p) l1 l2
         exact absurd bm (this▸m c (by simp))
       rw[hX,hY,hIe]at h3';simp at h3'
    obtain⟨J',hJ⟩:=dR9 (G.nd q) Q F h1 D;refine⟨J',p::P,u',w',Q,by rw[F,hJ];simp,λk N z=>?_,λk N=>?_,by simp⟩
    .have B:=U4 (G.nd q) Q F
     rcases z with z | z
     .exact c3 k (by rw[hJ];simp[N]) z
     .subst z;rw[hJ]at B;simp only[Aa5,Aa4,Aa0,Aa1,not_or]at B;grind
    .rcases Aa1.mp N with h | h
     .exact .inr h
     .exact .inl (c4 k h)
  .rcases bF8 nd ht with⟨ht,t1,t2⟩ | ht
   .
    have qm:=(D1 ht).1
    have qb:q=b:=by
     have:=O4 hs
     rcases Aa0.mp this with h | h
     .exact absurd qm (m q h)
     .simpa using h
    subst qb;obtain⟨J,P,u',w',Q,F,c3,c4,c5⟩:=T.at_ h3 p q t adjpb ht;have h1:adj (r q) p s:=G.tri _ _ _ (G.tri _ _ _ (j hs));have sm:s∈a::I:=by
     have:=N1 (u:=a::I) (c:=q) (by simpa using hs)
     exact this
    have D:s≠t:=λe=>by
     subst e;rcases Aa1.mp sm with h | h
     .subst h;have ap:adj (X++s::p::q::Y) q s:=ht;rcases adj_iff.mp ap with⟨x1,x2,ex⟩ | ⟨x1,ex,hx⟩
      .have i1:=O3 nd (show X++s::p::q::Y=(X++[s,p])++q::Y by simp)
       have i2:=O3 nd (p:=x1) (u:=q) (s:=s::x2) ex
       have i3:=O3 nd (p:=X) (u:=s) (s:=p::q::Y) rfl
       have i4:=O3 nd (p:=x1++[q]) (u:=s) (s:=x2) (by rw[ex];simp)
       simp at i1 i2 i3 i4
       lia
      .have hX:X=[]:=by
        cases X with
        | nil=>rfl
        | cons c X=>
         rw[Ab6,List.head?_cons]at hx;have hx':c=s:=by simpa using hx
         have nd2:=nd
         rw[hx',Ab6,Aa5]at nd2;exact absurd (by simp) nd2.1
       have hY:Y=[]:=by
        rcases Ac5 Y with h | ⟨Y',g,h⟩
        .exact h
        .have e5:X++s::p::q::Y=(X++s::p::q::Y')++[g]:=by rw[h];simp
         have:=List.append_inj' (e5.symm.trans ex) rfl
         have tg:g=q:=by simpa using this.2
         have nd2:=nd
         rw[e5,tg]at nd2
         have:=(Aa4.mp nd2).2.2 q (by simp) q (by simp)
         exact absurd rfl this
       have hIe:I=[]:=by
        cases I with
        | nil=>rfl
        | cons c I=>
         have l1:adj (r p) s c:=j (by rw[Ab6,B6];exact .inl ⟨rfl,rfl⟩)
         have l2:adj (r p) s q:=j hs
         have:c=q:=T4 (G.nd p) l1 l2
         exact absurd bm (this▸m c (by simp))
       rw[hX,hY,hIe]at h3';simp at h3'
     .exact m s h (D1 ht).2
    obtain⟨J',hJ⟩:=dT6 (G.nd q) Q F h1 D;have c2':w'++u'=p::(s::J'++t::P):=by rw[F,hJ]
    have B:=U4 (G.nd q) Q c2'
    obtain⟨u2,w2,d1,d2⟩:∃u2 w2,r q=u2++w2/\w2++u2=s::(J'++t::(P++[p])):=by
     have hm:s∈r q:=(Y5 Q c2' s).mp (by simp)
     obtain⟨x1,x2,ex⟩:=Ad5 hm;refine⟨x1,s::x2,ex,?_⟩;have ru:=bM4 (G.nd q) ex Q (show w'++u'=[p]++s::(J'++t::P) by rw[c2'];simp)
     rw[ru];simp
    refine⟨J',P++[p],u2,w2,d1,d2,λk N z=>?_,λk N=>?_,by simp⟩
    .rcases z with z | z
     .exact c3 k (by rw[hJ];simp[N]) z
     .subst z;simp only[Ab6,Aa5,Aa4,Aa0,Aa1,not_or]at B;grind
    .rcases Aa0.mp N with h | h
     .exact .inl (c4 k h)
     .exact .inr (by simpa using h)
   .
    have qI:q∈I:=by
     have h1:=O4 hs
     have h2:=N1 (u:=a::I) (c:=b) (by simpa using ht)
     rcases Aa0.mp h1 with h | h
     .exact h
     .have qb:q=b:=by simpa using h
      rcases Aa1.mp h2 with h2 | h2
      .have nd':=ndp
       simp only[Aa5,Aa0,Aa1,not_or]at nd';exact absurd (h2.symm.trans qb) nd'.1.2.1
      .exact h2
    have a1:adj (r q) p s:=G.tri _ _ _ (G.tri _ _ _ (j hs))
    have a2:adj (r q) t p:=G.tri _ _ _ (j ht)
    have D:s≠t:=λe=>by
     subst e;exact aI8 (G.nd p) (by
      have h1:=(Y5 e1 e2 a).mp (by simp)
      have:(r p).length=(a::(I++b::O)).length:=by rw[<- e2,e1];simp;lia
      rw[this]
      have:0<O.length:=Cr.mpr hO'
      simp;lia) (j hs) (j ht)
    obtain⟨M,u',w',Q,F⟩:=dQ1 (G.nd q) a1 a2 D;have B:=U4 (G.nd q) Q F;have hq0:¬R q:=hI q qI;have inner:=T.inn q (G.lt p q ((mp q).mp (by simp[qI]))) hq0 (m q qI)
    refine⟨M,[p],u',w',Q,F,λk N z=>?_,λk N=>.inr (by simpa using N),by simp⟩
    rcases z with z | z
    .exact inner k ((Y5 Q F k).mp (by simp[N])) z
    .subst z;simp only[Aa5,Aa4,Aa0,Aa1,not_or]at B;grind
 .have hR1:¬R q:=λz=>hR (.inl z)
  have hqp:q≠p:=λz=>hR (.inr z)
  have hn1:q∉X++a::p::b::Y:=λhm=>hn (by
   simp only[Aa0,Aa1]at hm ⊢;rcases hm with h | h | h | h | h
   .exact .inl h
   .exact .inr (.inl h)
   .exact absurd h hqp
   .exact .inr (.inr (.inr (.inl h)))
   .exact .inr (.inr (.inr (.inr h))))
  rintro (z | z)
  .exact T.inn q U hR1 hn1 t ht z
  .subst z
   have:=(mp q).mpr (G.sym ht)
   simp only[Aa1,Aa0]at this;rcases this with h | h | h | h
   .exact hn (by simp[h])
   .exact hn (by simp[h])
   .exact hn (by simp[h])
   .exact hR1 (hO q h)
 .by_cases hcR:R c
  .obtain⟨z,z1,z2,z3⟩:=T.con c hcR;exact⟨z,z1,λx y h=>⟨(z2 x y h).1,.inl (z2 x y h).2.1,.inl (z2 x y h).2.2⟩,z3⟩
  .have cp:c=p:=hc.elim (λz=>absurd z hcR) id
   subst cp;obtain⟨o,ho⟩:=List.exists_mem_of_ne_nil _ hO';have to:o∈r c:=(mp o).mp (by simp[ho])
   obtain⟨z,z1,z2,z3⟩:=T.con o (hO o ho);refine⟨λx y=>xor (ed c o x y) (z x y),λx y=>by show xor (ed c o x y) (z x y)=xor (ed c o y x) (z y x);rw[bA1,z1],λx y h=>?_,λx=>?_⟩
   .by_cases h1:ed c o x y=true
    .rcases bW7 h1 with⟨rfl,rfl⟩ | ⟨rfl,rfl⟩
     .exact⟨to,.inr rfl,.inl (hO _ ho)⟩
     .exact⟨G.sym to,.inl (hO _ ho),.inr rfl⟩
    .have h2:z x y=true:=by
      cases hz:z x y with
      | true=>rfl
      | false=>simp[h1,hz]at h
     exact⟨(z2 x y h2).1,.inl (z2 x y h2).2.1,.inl (z2 x y h2).2.2⟩
   .rw[X2,bG3 G to,z3];cases decide (x=c) <;> cases decide (x=o) <;> cases decide (x=2) <;> rfl
end
section
variable {r:Nat->AD}{n:Nat}{rim:AD}{R:Nat->Prop}
theorem Tk.first (G:Good n r):∃mid u w,r 2=u++w/\w++u=0::(mid++1::[])/\Tk r n (0::(mid++[1])) (λq=>q=2):=by
 have k:=G.out
 obtain⟨u,w,e⟩:=Ad5 (D1 k).2;have y:(0::w)++u=0::(w++u):=rfl;have nd':=U4 (G.nd 2) e y;have j:=(X5 e y 1 0).mpr k;obtain⟨mid,F⟩:∃mid,w++u=mid++[1]:=by
  rcases Ac5 (w++u) with m | ⟨M,p,m⟩
  .rw[m]at j
   have:=(D1 j).1
   simp at this
  .rw[m]at j nd'
   have:adj (0::M.concat p) p 0:=adj_iff.mpr (.inr ⟨0::M,by simp,rfl⟩)
   have ep:=V8 nd' j this
   exact⟨M,by rw[m,<- ep];simp⟩
 refine⟨mid,u,0::w,e,by rw[y,F],?_⟩
 rw[F]at y nd';have X:=λq=>Y5 e y q
 have n2:(2:Nat)∉0::(mid++[1]):=λh=>G.self 2 ((X 2).mp h)
 refine⟨nd',⟨mid,rfl⟩,λp hp z=>n2 (z▸hp),λp hp=>G.lt 2 p ((X p).mp hp),λh3 a p b Q D=>?_,λp hp hR hn q s z=>?_,λc hc=>?_⟩
 .have B:=(X5 e y a p).mp Q
  have P:=(X5 e y p b).mp D
  have Y:a≠b:=λe=>by subst e;exact aI8 nd' h3 Q D
  obtain⟨M,u',w',J,N⟩:=dQ1 (G.nd p) (G.tri _ _ _ (G.tri _ _ _ B)) (G.tri _ _ _ P) Y;have U:=U4 (G.nd p) J N;refine⟨M,[2],u',w',J,N,λq s z=>?_,λq s=>by simpa using s,by simp⟩
  subst z;simp only[Aa5,Aa4,Aa0,Aa1,not_or]at U;grind
 .subst z;exact hn ((X p).mpr (G.sym s))
 .subst hc;exact⟨λ_ _=>false,λ_ _=>rfl,(λ_ _ h=>by cases h),λp=>by rw[a8 λ_ _=>rfl];cases decide (p=2) <;> rfl⟩
def frA (r:Nat->AD)(rim:AD)(k:Nat):Bool:=rim.all λq=>decide (q∈r (gi rim k))==(decide (q=gi rim (k-1))||decide (q=gi rim (k+1)))
def frs (r:Nat->AD)(rim:AD):AD:=(List.range (rim.length-2)).filterMap λk=>if frA r rim (k+1) then some (gi rim (k+1)) else none
def pl (r:Nat->AD)(rim:AD):Nat:=mn (frs r rim)
def cmo (t:AD)(a b:Nat):AD:=(t.drop (t.idxOf a+1)++t.take (t.idxOf a)).take ((t.drop (t.idxOf a+1)++t.take (t.idxOf a)).idxOf b)
def ix (r:Nat->AD)(rim:AD):Nat:=rim.idxOf (pl r rim)
def com (r:Nat->AD)(rim:AD):AD:=cmo (r (pl r rim)) (gi rim (ix r rim-1)) (gi rim (ix r rim+1))
def aN0 (r:Nat->AD)(rim:AD):AD:=rim.take (ix r rim)++com r rim++rim.drop (ix r rim+1)
def bN9 (r:Nat->AD)(rim o:AD):AD:=if 2<pl r rim then o++[pl r rim] else o
def bO2 (r:Nat->AD)(rim:AD)(ps:List (Nat×Nat)):List (Nat×Nat):=(ps++(com r rim).map λq=>(q,pl r rim))++(if 2<pl r rim then [(pl r rim,gi rim (ix r rim-1)),(pl r rim,gi rim (ix r rim+1))] else [])
def cH6 (r:Nat->AD):Nat->AD->AD->List (Nat×Nat)->AD×List (Nat×Nat)
 | 0,_,o,ps=>(o,ps)
 | k+1,rim,o,ps=>if rim.length<=2 then(o,ps) else cH6 r k (aN0 r rim) (bN9 r rim o) (bO2 r rim ps)
def St (r:Nat->AD)(n:Nat)(rim:AD)(R:Nat->Prop):Prop:=(rim=[0,2,1]/\∀q,¬R q)\/Tk r n rim R
theorem frA_iff {k:Nat}:frA r rim k=true↔∀q∈rim,(q∈r (gi rim k)↔q=gi rim (k-1)\/q=gi rim (k+1)):=by
 unfold frA;rw[Ac9];have e:∀q,(decide (q∈r (gi rim k))==(decide (q=gi rim (k-1))||decide (q=gi rim (k+1))))=true↔(q∈r (gi rim k)↔q=gi rim (k-1)\/q=gi rim (k+1)):=λq=>by
  rw[beq_iff_eq,<- Bool.decide_or,Cd]
 exact⟨λh q y=>(e q).mp (h q y),λh q y=>(e q).mpr (h q y)⟩
theorem frs_mem {p:Nat}:p∈frs r rim↔∃k,0<k/\k+1<rim.length/\frA r rim k=true/\p=gi rim k:=by
 unfold frs;rw[List.mem_filterMap];constructor
 .rintro⟨k,e,h⟩;have e:=Ab5.mp e;split at h
  .rename_i hf;exact⟨k+1,by lia,by lia,hf,(Ab4 h).symm⟩
  .cases h
 .rintro⟨k,h0,h1,hf,rfl⟩;refine⟨k-1,Ab5.mpr (by lia),?_⟩
  rw[show k-1+1=k by lia,Ac hf]
theorem dC2 (nd:rim.Nodup){k:Nat}(y:k<rim.length):rim.idxOf (gi rim k)=k:=by
 have w:=P7 (rim:=rim) y
 have e:=Cs.mpr w
 refine bN8 nd e y ?_;have h1:=v3 e;rw[Aa2 e]at h1;rw[<- Ab4 h1];exact List.getElem_idxOf e
theorem aK3 {i:Nat}(h0:0<i)(h1:i+1<rim.length):rim=rim.take (i-1)++gi rim (i-1)::gi rim i::gi rim (i+1)::rim.drop (i+2)/\rim.take i=rim.take (i-1)++[gi rim (i-1)]/\rim.drop (i+1)=gi rim (i+1)::rim.drop (i+2):=by
 have g:∀k (e:k<rim.length),gi rim k=rim[k]:=λk e=>by
  have:=v3 e
  rw[Aa2 e]at this;exact(Ab4 this).symm
 have d:∀k (e:k<rim.length),rim.drop k=gi rim k::rim.drop (k+1):=λk e=>by rw[g k e];exact Bh e
 refine⟨?_,?_,d (i+1) h1⟩
 .rw[<- d (i+1) h1];have w:=d i (by lia)
  rw[<- w];have y:=d (i-1) (by lia)
  rw[show i-1+1=i by lia]at y
  rw[<- y,Ad3]
 .have:=Cv (l:=rim) (i:=i-1)
  rw[show i-1+1=i by lia,v3 (by lia)]at this
  simpa using this
theorem dE7 {t u w I O:AD}{a b:Nat}(nd:t.Nodup)(z:t=u++w)(k:w++u=a::(I++b::O)):cmo t a b=I:=by
 have nd':=U4 nd z k
 have m:t.drop (t.idxOf a+1)++t.take (t.idxOf a)=I++b::O:=by
  have s:a∈t:=(Y5 z k a).mp (by simp)
  obtain⟨e,j,y⟩:=Ad5 s;have hi:=O3 nd y;have c:=bM4 (A:=[]) nd y z (by rw[k];rfl)
  simp at c
  rw[hi];have p:t.drop (e.length+1)=j:=by rw[y,show e++a::j=(e++[a])++j by simp];exact List.drop_left' (by simp)
  have q:t.take e.length=e:=by rw[y];exact List.take_left' rfl
  rw[p,q,c]
 unfold cmo;rw[m]
 have:(I++b::O).Nodup:=(Aa5.mp nd').2
 rw[O3 this rfl];exact List.take_left' rfl
structure Nx (r:Nat->AD)(n:Nat)(rim:AD)(R:Nat->Prop):Prop where
 nd:rim.Nodup
 lt:∀q∈rim,q<n
 mem:pl r rim∈frs r rim
 i0:0<ix r rim
 i1:ix r rim+1<rim.length
 ip:gi rim (ix r rim)=pl r rim
 le:∀q∈frs r rim,pl r rim<=q
 ta:gi rim (ix r rim-1)∈r (pl r rim)
 tb:gi rim (ix r rim+1)∈r (pl r rim)
 out:¬R (pl r rim)
 cnd:(com r rim).Nodup
 cm:∀q∈com r rim,q<n/\q∉rim/\¬R q/\q≠pl r rim
 next:St r n (aN0 r rim) (λq=>R q\/q=pl r rim)
 row:∃O u w,r (pl r rim)=u++w/\w++u=gi rim (ix r rim-1)::(com r rim++gi rim (ix r rim+1)::O)
theorem St.nx (G:Good n r)(H:H1 r)(h:St r n rim R)(h3:2<rim.length):Nx r n rim R:=by
 have nd:rim.Nodup:=by
  rcases h with⟨rfl,_⟩ | T
  .decide
  .exact T.nd
 have lt:∀q∈rim,q<n:=by
  rcases h with⟨rfl,_⟩ | T
  .intro q c
   have:=G.three
   simp at c;lia
  .exact T.lt
 have J:=D1 G.out
 have ne:frs r rim≠[]:=by
  rcases h with⟨rfl,_⟩ | T
  .refine List.ne_nil_of_mem (a:=2) (frs_mem.mpr ⟨1,by lia,by simp,frA_iff.mpr λq c=>?_,rfl⟩)
   show q∈r 2↔q=0\/q=1
   simp only[Aa1,Ac2,or_false]at c;rcases c with rfl | rfl | rfl
   .simp[J.2]
   .simp[G.self 2]
   .simp[J.1]
  .obtain⟨i,i0,i1,B⟩:=T.free G H (by lia)
   refine List.ne_nil_of_mem (a:=gi rim i) (frs_mem.mpr ⟨i,i0,i1,frA_iff.mpr λq c=>?_,rfl⟩)
   constructor
   .intro Y;obtain⟨j,P,e⟩:=List.mem_iff_getElem.mp c;have ej:q=gi rim j:=by
     have:=v3 P
     rw[Aa2 P,e]at this;exact Ab4 this
    rw[ej]at Y ⊢;rcases B j P Y with h | h
    .exact .inl (by rw[<- h];rfl)
    .exact .inr (by rw[h])
   .have t:=T.tie (by lia) (k:=i) (by lia)
    unfold nxt prv at t;rw[Ab (by lia),Ab (by lia)]at t
    rintro (rfl | rfl)
    .exact t.2
    .exact t.1
 have U:=bA0 ne
 obtain⟨k,k0,k1,B,hp⟩:=frs_mem.mp U.1;have X:ix r rim=k:=by unfold ix pl;rw[hp];exact dC2 nd (by lia)
 have y:pl r rim=gi rim k:=hp
 have N:=frA_iff.mp B
 obtain⟨s1,s2,s3⟩:=aK3 (rim:=rim) k0 k1;have ta:gi rim (k-1)∈r (gi rim k):=(N _ (P7 (by lia))).mpr (.inl rfl)
 have tb:gi rim (k+1)∈r (gi rim k):=(N _ (P7 (by lia))).mpr (.inr rfl)
 have row:∃I O u w,r (gi rim k)=u++w/\w++u=gi rim (k-1)::(I++gi rim (k+1)::O)/\(∀q∈I,¬R q)/\St r n (rim.take k++I++rim.drop (k+1)) (λq=>R q\/q=gi rim k):=by
  rcases h with⟨rfl,Q⟩ | T
  .have:k=1:=by simp at k1;lia
   subst this;obtain⟨mid,u,w,m,p,T⟩:=Tk.first G;refine⟨mid,[],u,w,m,p,λq _=>Q q,.inr ?_⟩
   have:(λq=>R q\/q=gi [0,2,1] 1)=λq=>q=2:=by
    funext q;exact propext ⟨λz=>z.elim (λz=>absurd z (Q q)) id,.inr⟩
   rw[this];exact T
  .obtain⟨I,O,u,w,m,p,M,F,e5⟩:=T.row (by lia) (k:=k) (by lia)
   unfold prv nxt at p;rw[Ab (by lia),Ab (by lia)]at p
   refine⟨I,O,u,w,m,p,M,.inr ?_⟩;rw[s2,s3];have T':=T;rw[s1]at T'
   have:=T'.off G (λq c Y=>(N q (by rw[s1];exact c)).mp Y) m p M F e5
   simpa using this
 obtain⟨I,O,u,w,m,p,M,F⟩:=row;have D:com r rim=I:=by unfold com;rw[X,y];exact dE7 (G.nd _) m p
 have s:=U4 (G.nd _) m p
 have Rp:¬R (gi rim k):=by
  rcases h with⟨_,Q⟩ | T
  .exact Q _
  .exact T.out _ (P7 (by lia))
 refine⟨nd,lt,U.1,by rw[X];exact k0,by rw[X];exact k1,by rw[X,y],U.2,by rw[X,y];exact ta,by rw[X,y];exact tb,by rw[y];exact Rp,?_,λq c=>?_,?_,⟨O,u,w,by rw[y];exact m,by rw[X,D];exact p⟩⟩
 .rw[D];simp only[Aa5,Aa4]at s;exact s.2.1
 .rw[D]at c;have Y:q∈r (gi rim k):=(Y5 m p q).mp (by simp[c])
  refine⟨G.lt _ q Y,λhr=>?_,M q c,λe=>?_⟩
  .simp only[Aa5,Aa4,Aa0,Aa1,not_or]at s;rcases (N q hr).mp Y with h | h
   .exact s.1.1 (h▸c)
   .exact s.2.2.2 q c q (.inl h) rfl
  .rw[y]at e;exact G.self _ (by rw[e]at Y;exact Y)
 .have:aN0 r rim=rim.take k++I++rim.drop (k+1):=by unfold aN0;rw[X,D]
  rw[this,y];exact F
noncomputable def mu (n:Nat)(R:Nat->Prop):Nat:=((List.range n).filter λq=>decide (¬R q)).length
noncomputable def un (n:Nat)(rim:AD)(R:Nat->Prop):Nat:=((List.range n).filter λq=>decide (q∉rim/\¬R q)).length
theorem cE6 (n:Nat)(R:Nat->Prop):mu n R<=n:=by
 unfold mu;exact An (List.length_filter_le _ _) (by simp)
theorem dP7 (n:Nat)(rim:AD)(R:Nat->Prop):un n rim R<=n:=by
 unfold un;exact An (List.length_filter_le _ _) (by simp)
theorem Nx.mu (N:Nx r n rim R):TT.mu n (λq=>R q\/q=pl r rim)+1<=TT.mu n R:=by
 have hp:pl r rim∈rim:=by rw[<- N.ip];exact P7 (by have:=N.i1;lia)
 unfold TT.mu
 have:(pl r rim::(List.range n).filter λq=>decide (¬(R q\/q=pl r rim))).length<=((List.range n).filter λq=>decide (¬R q)).length:=LV.aV7 (Aa5.mpr ⟨λh=>by simp[Ap]at h,List.Pairwise.filter _ By⟩) λq hq=>by
  rcases Aa1.mp hq with rfl | hq
  .exact Ap.mpr ⟨Ab5.mpr (N.lt _ hp),by simp[N.out]⟩
  .obtain⟨h1,e⟩:=Ap.mp hq;refine Ap.mpr ⟨h1,?_⟩;simp only[Ak,not_or]at e ⊢;exact e.1
 simpa using this
theorem Nx.un (N:Nx r n rim R):TT.un n (aN0 r rim) (λq=>R q\/q=pl r rim)+(com r rim).length<=TT.un n rim R:=by
 unfold TT.un;have sp:=aK3 N.i0 N.i1;have w:∀q,q∉aN0 r rim->q≠pl r rim->q∉rim:=λq hq c z=>hq (by
  unfold aN0;rw[sp.1,N.ip]at z;rw[sp.2.1,sp.2.2];simp only[Aa0,Aa1,Ac2,or_false]at z ⊢;grind)
 have:(com r rim++(List.range n).filter λq=>decide (q∉aN0 r rim/\¬(R q\/q=pl r rim))).length<=((List.range n).filter λq=>decide (q∉rim/\¬R q)).length:=LV.aV7 (Aa4.mpr ⟨N.cnd,List.Pairwise.filter _ By,λa k b j e=>by
  subst e
  have:=(Ap.mp j).2
  simp only[Ak]at this;exact this.1 (by unfold aN0;simp[k])⟩) λq hq=>by
  rcases Aa0.mp hq with hq | hq
  .have:=N.cm q hq
   exact Ap.mpr ⟨Ab5.mpr this.1,by simp[this.2.1,this.2.2.1]⟩
  .obtain⟨h1,y⟩:=Ap.mp hq;refine Ap.mpr ⟨h1,?_⟩;simp only[Ak,not_or]at y ⊢;exact⟨w q y.1 y.2.2,y.2.1⟩
 rw[Ab7,Nat.add_comm]at this;refine An (Nat.le_of_eq ?_) this
 congr 1
 congr 1
 congr 1
 funext q
 exact Cd.mpr Iff.rfl
end
end TT
namespace LV
open PySem PySem.Spec PyProof.Rows L2
section
variable {K:Frag}{ρ ρ':List Sl}{m:Bool}{t ta tb:TE}{d d':PyData}{ds es:AG}
def RtT (K:Frag)(S:Addr->Prop)(B:Hp)(post:OT->Prop)(D:aI9):Prop:=
 ∀v u L H',Same B H'->(∀b∈L,B b=none)->L.Nodup->Dp K (hid (λb=>S b\/b∈L) H') H' v u L->post u->D.rt v H'
def WT (K:Frag)(t:TS)(ρ:List Sl)(R:AE)(post:OT->Prop):Prop:=
 ∀(S:Addr->Prop) (B:Hp) (D:aI9) (σ:L2.St) (H:Hp) (o:Nat->AM),Env K S B H σ ρ o->Sat K S B R D->RtT K S B post D->t D σ H
theorem bD4 {t u:TS}{R:AE}{post:OT->Prop}(h:W K t ρ {R with nx:=λρ'=>WT K u ρ' R post}):WT K (cU6 t u) ρ R post:=λS B D σ H o I s r=>
 h S B {D with nx:=u D} σ H o I ⟨λρ' k e z y w=>w S B D k e z y s r,s.rt,s.rl,s.bk,s.ct⟩
theorem aP5 {Z H:Hp}:∀{ds:AG} {xs:List V},Reps K Z xs ds->Dps K Z H xs (ds.map OT.leaf) []
 | [],_,r=>by cases r;exact .nil
 | d::ds,_,r=>by
  cases r with
  | cons a b=>exact .cons (L:=[]) (L':=[]) (.leaf a) (aP5 b)
theorem cW3 {i:Nat}{R:AE}{post:OT->Prop}(hi:ρ[i]? = some (.own ds))(h:E K true t ρ d)(hp:post (.tup [.lst (ds.map OT.leaf),.leaf d])):WT K (cC6 (aM6 (C0 (E1 i) (C0 t O1)))) ρ R post:=λS B D σ H o I s r=>by
 obtain⟨p,y,a,xs,b,c⟩:=I.own i ds hi;refine⟨_,a,h S B σ H o I _ λv H1 k X=>⟨by show 2<=sizeLine;decide,λq Y=>?_⟩⟩
 have g:=C9 (o:=.tup [.ref p,v]) Y
 have w:∀e,S e\/e∈[p]->D4 ρ o S e:=λe z=>z.elim .inl λz=>.inr ⟨i,_,hi,rfl,by rw[y];exact z⟩
 refine r _ (.tup [.lst (ds.map OT.leaf),.leaf d]) [p] _ (L2.Same.tr I.base (L2.Same.tr k g)) (λe j=>I.new i _ hi rfl e (by rw[y];exact j)) (by simp) ?_ hp
 refine .tup (SqT.of C2) (.cons (L:=[p]) (L':=[]) (.lst (L:=[]) (g _ _ (k _ _ b)) (aP5 (c.mono ?_))) (.cons (L:=[]) (L':=[]) (.leaf (X.mono ?_)) .nil))
 .exact D5 (L2.Same.tr k g) λe z _=>w e z
 .exact D5 g λe z _=>w e z
def spT (K:Frag)(pre:AG->OT->Prop):Sp:=λvs H Q _=>∃(ds:AG) (S:Addr->Prop) (u:OT),(∀b,S b->∃u:HM,H b=some u.ho)/\Reps K (hid S H) vs ds/\pre ds u /\
 ∀v L H',Same H H'->(∀b∈L,H b=none)->L.Nodup->Dp K (hid (λb=>S b\/b∈L) H') H' v u L->Q v H'
theorem dT7 {pre:AG->OT->Prop}{n:Nat}(h:∀ds u,pre ds u->ds.length=n):∀vs H Q E,spT K pre vs H Q E->vs.length=n:=λvs H Q E ⟨ds,S,u,_,r,p,_⟩=>by
 rw[r.length];exact h ds u p
theorem dE6 {t:TS}{N:AJ}{vs:List V}{S:Addr->Prop}{H:Hp}{Q:VK}{u:OT}(y:∀b,S b->∃u:HM,H b=some u.ho)(r:Reps K (hid S H) vs ds)(w:WT K t (sl0 N.length ds) {nx:=λ_=>False} (λx=>x=u))
  (k:∀v L H',Same H H'->(∀b∈L,H b=none)->L.Nodup->Dp K (hid (λb=>S b\/b∈L) H') H' v u L->Q v H'):t {nx:=λ_ H'=>Q .non H',rt:=Q} (L2.R5 N vs) H:=
 w S H _ _ H _ (env0 y r) ⟨λρ' Y H' p j z=>z.elim,λv e H' s q z=>z.elim,λ_ _ _ _ _ _ _ _ z=>z.elim,λ_ _ _ _ _ z=>z.elim,λ_ _ _ _ _ z=>z.elim⟩ λv x L H' a b c e z=>k v L H' a b c (z▸e)
theorem cK6 {pre:AG->OT->Prop}{t:TA}{X:XK}{u:OT}(z:A K true t ρ ds)(hp:pre ds u):EFT K (X9 (spT K pre) [] X t) ρ u:=λS B σ H o I Q q=>
 z S B σ H o I _ λvs H1 e rs=>⟨ds,D4 ρ o S,u,(I.grow e).lists,by rw[Bj];exact rs,hp,λv L y k n nd w=>q v L y (L2.Same.tr e k) (λb r=>S4 e (n b r)) nd w⟩
end
end LV
namespace K40
open PySem L2 LV PyProof.Rows
theorem sc_begun_with:D9 ["ring", "first", "at"] ["ring", "first"] (B2 o5):=⟨rfl,rfl,rfl,by decide +kernel,rfl,by decide +kernel,by decide +kernel⟩
theorem sc_between:D9 ["turn", "ahead", "behind", "ring"] ["turn", "ahead", "behind"] (B2 aJ0):=⟨rfl,rfl,rfl,by decide +kernel,rfl,by decide +kernel,by decide +kernel⟩
theorem aN5 (l:AD)(k:Nat):(nI l).drop k=nI (l.drop k):=by simp[nI]
theorem bC9 (l:AD)(k:Nat):(nI l).take k=nI (l.take k):=by simp[nI]
section
variable {K:Frag}{ρ:List Sl}{m:Bool}{ta tb:TE}
theorem bQ5 {l:AD}{x:Nat}(e:LV.E K false ta ρ (tN l))(y:LV.E K false tb ρ (.int (x:Int)))(w:x∈l) :
  LV.E K m (tBM K "tuple" (λx xs H Q=>∃(p:Addr) (l:AF) (k:Int),x=.ref p/\xs=[.int k]/\SqT K H p (l.map V.int)/\k∈l/\Q (.int (l.idxOf k)) H) ta (C0 tb O1)) ρ (.int (l.idxOf x:Nat)):=by
 rw[cO6]at e;have h:=cI1 (m:=m) e y (Aa8.mpr ⟨x,w,rfl⟩);rw[aR7]at h;exact h
end
theorem cS6 (ds:AG)(a b:Nat)(y:a<=b)(e:b<=ds.length):y6 ds (some (a:Int)) (some (b:Int))=(ds.drop a).take (b-a):=by
 unfold LV.y6 HT.sIx;simp only[];rw[Ab (by lia),Ab (by lia),Ac8,Ac8,Nat.min_eq_left e,Nat.min_eq_left (by lia)]
def dN7 (ds:AG)(d:PyData):Prop:=∃(l:AD) (x:Nat),x∈l/\l.length<=10000/\ds=[tN l,.int (x:Int)]/\d=tN (l.drop (l.idxOf x)++l.take (l.idxOf x))
def dL7 (ds:AG)(d:PyData):Prop:=∃(l:AD) (x y:Nat),x∈l/\y∈l/\x≠y/\l.length<=10000/\ds=[tN l,.int (x:Int),.int (y:Int)]/\d=tN (TT.cmo l x y)
theorem bN2 {l:AD}{x:Nat}(e:x∈l):l.drop (l.idxOf x)++l.take (l.idxOf x)=x::(l.drop (l.idxOf x+1)++l.take (l.idxOf x)):=by
 have h:=Ac4 e
 rw[Bh h,List.getElem_idxOf h];rfl
theorem dJ0 {l:AD}{x y:Nat}(z:x∈l)(w:y∈l)(e:x≠y):y∈l.drop (l.idxOf x+1)++l.take (l.idxOf x):=by
 have h1:y∈l.drop (l.idxOf x)++l.take (l.idxOf x):=by
  rw[<- Ad3 (l.idxOf x) l]at w
  have:=Aa0.mp w
  exact Aa0.mpr this.symm
 rw[bN2 z]at h1;rcases Aa1.mp h1 with h | h
 .exact absurd h.symm e
 .exact h
section
variable {P:Program}{w:World}{K:Frag}{mg:Str->Option Value}{base:Heap}{a:Ad}
theorem aU4 (T:Tx K mg a):E9 P w K mg base CX0 1 a.t9 a.k9 ["ring", "first"] (spV K dN7):=by
 refine T.aH0.ok sc_begun_with (v6 λds d ⟨_,_,_,_,e,_⟩=>by rw[e];rfl) (λc A y s H vs Q E Y h=>?_)
 obtain⟨ds,S,d,p,r,⟨l,x,j,m,rfl,rfl⟩,q⟩:=h;refine⟨_,(A5 (B5 (i:=2) sc_begun_with.nd rfl (Or.inl rfl) (L8 PySem.F.plainAttrs_tuple PySem.F.slot_tuple_index PySem.F.type_tuple_index (aL1 K) (pv 0) (A1 (pv 1) A2)))
   (A9 (E8 (B4 (aH8 K) (T9 (cH2 K) (pv 0) (T6 (pv 2)) aA9) (T9 (cH2 K) (pv 0) aA9 (T6 (pv 2))))))),O0 p r ?_ q⟩
 have k:l.idxOf x<l.length:=Ac4 j
 refine B1 (K7 (bQ5 (A4 rfl) (A4 rfl) j) ?_);refine S3 (bS2 (bJ7 (ds:=nI l) (A4 rfl) (Y7 (A4 rfl)) aJ9 (E6 l)) (bJ7 (ds:=nI l) (A4 rfl) aJ9 (Y7 (A4 rfl)) (E6 l)) (U0 _ _ (E6 l)) (U0 _ _ (E6 l)) ?_ ?_) ?_
 .rw[aK2 (by rw[C7];lia),aN5]
  intro z
  have:=congrArg List.length z
  rw[C7,Bk]at this;simp at this
  lia
 .rw[aK2 (by rw[C7];lia),aQ0 (by rw[C7];lia),Bk,Ad1,C7];unfold sizeLine;lia
 .show PyData.tuple _=tN _
  rw[aK2 (by rw[C7];lia),aQ0 (by rw[C7];lia),aN5,bC9,<- Y6]
  rfl
theorem bQ2 (T:Tx K mg a):E9 P w K mg base CX0 2 a.aJ8 a.aJ6 ["turn", "ahead", "behind"] (spV K dL7):=by
 have z:E9 P w K mg base CX0 1 _ _ _ _:=aU4 T
 refine T.aX2.ok sc_between (v6 λds d ⟨_,_,_,_,_,_,_,e,_⟩=>by rw[e];rfl) (λY A m s H vs Q E M h=>?_)
 obtain⟨ds,S,d,X,r,⟨l,x,y,p,N,j,U,rfl,rfl⟩,q⟩:=h;refine⟨_,(A5 (B5 (i:=3) sc_between.nd rfl (Or.inl rfl) (C6 z (M.mono (by decide)) rfl T.bB6 T.aH0.kp T.bH0 .nil G6 (A1 (pv 0) (A1 (pv 1) A2))))
   (A9 (E8 (T9 (cH2 K) (pv 3) (T6 A6) (T6 (L8 PySem.F.plainAttrs_tuple PySem.F.slot_tuple_index PySem.F.type_tuple_index (aL1 K) (pv 3) (A1 (pv 2) A2))))))),O0 X r ?_ q⟩
 refine B1 (K7 (H9 (A3 (A4 rfl) (A3 (A4 rfl) A7)) ⟨l,x,p,U,rfl,rfl⟩) ?_);rw[bN2 p];have k:=dJ0 p N j;have J:=Ac4 k;have c:(x::(l.drop (l.idxOf x+1)++l.take (l.idxOf x))).idxOf y=(l.drop (l.idxOf x+1)++l.take (l.idxOf x)).idxOf y+1:=by
  rw[List.idxOf_cons,show(x==y)=false by simpa using j];rfl
 refine S3 (bJ7 (ds:=nI (x::(l.drop (l.idxOf x+1)++l.take (l.idxOf x)))) (A4 rfl) (Y7 A8) (Y7 (bQ5 (l:=x::(l.drop (l.idxOf x+1)++l.take (l.idxOf x))) (A4 rfl) (A4 rfl) (Ad4 _ k))) (E6 _)) ?_;show PyData.tuple _=tN _;rw[c,show((1:Int))=((1:Nat):Int) from rfl,cS6 _ _ _ (by lia) (by rw[C7,Ba];lia),aN5,bC9]
 rfl
end
theorem aC7:D9 ["drawing", "rim", "k"] ["drawing", "rim", "k"] (B2 P8):=⟨rfl,rfl,rfl,by decide +kernel,rfl,by decide +kernel,by decide +kernel⟩
theorem aI3:D9 ["drawing", "rim"] ["drawing", "rim"] (B2 T2):=⟨rfl,rfl,rfl,by decide +kernel,rfl,by decide +kernel,by decide +kernel⟩
theorem dG3 {dr:AA}{p q:Nat}(h:p<dr.length):td dr (p:Int) (q:Int)=decide (q∈TT.trn dr p):=by
 unfold td;rw[Ac8,Bu (by lia:(0:Int)<=(p:Int)),Bu (by lia:(p:Int)<(dr.length:Int))]
 show decide _=decide _
 refine Cd.mpr ⟨λz=>?_,λz=>Aa8.mpr ⟨q,z,rfl⟩⟩
 obtain⟨x,y,e⟩:=Aa8.mp z
 have:x=q:=by lia
 exact this▸y
theorem aX3 {rim:AD}{k:Nat}(h:k<rim.length):(nI rim)[k]? = some (.int (TT.gi rim k:Nat)):=by
 unfold nI;rw[Aa9,TT.v3 h];rfl
theorem dJ8 (l l':AD):PyData.eqv (.list (nI l)) (.list (nI l'))=decide (l=l'):=by
 rw[PyData.eqv.eq_def];exact j9 (f:=λ(x:Nat)=>PyData.int (x:Int)) (λa b=>by rw[bG0];exact Cd.mpr (by lia)) l l'
theorem cF4 {r:Nat->AD}{rim:AD}{k:Nat}(nd:rim.Nodup)(h0:0<k)(h1:k+1<rim.length):decide (rim.filter (λq=>decide (q∈r (TT.gi rim k)))=[TT.gi rim (k-1),TT.gi rim (k+1)])=TT.frA r rim k:=by
 rw[Cc,Ak,TT.frA_iff];constructor
 .intro h q w
  have:q∈rim.filter (λq=>decide (q∈r (TT.gi rim k)))↔q∈[TT.gi rim (k-1),TT.gi rim (k+1)]:=by rw[h]
  rw[Ap]at this;simp only[w,true_and,Ak,Aa1,Ac2,or_false]at this;exact this
 .intro h;have e:rim.filter (λq=>decide (q∈r (TT.gi rim k)))=rim.filter (λq=>decide (q=TT.gi rim (k-1))||decide (q=TT.gi rim (k+1))):=List.filter_congr λq w=>by
   rw[<- Bool.decide_or];exact Cd.mpr (h q w)
  rw[e];have s:=(TT.aK3 h0 h1).1;generalize TT.gi rim (k-1)=x at s ⊢;generalize TT.gi rim (k+1)=y at s ⊢;generalize TT.gi rim k=c at s;generalize rim.take (k-1)=X at s;generalize rim.drop (k+2)=Y at s;subst s;simp only[Aa4,Aa5,Aa1,not_or]at nd;obtain⟨D,⟨⟨h1,R,J⟩,⟨M,Q⟩,N,F⟩,j⟩:=nd;have m:X.filter (λq=>decide (q=x)||decide (q=y))=[]:=List.filter_eq_nil_iff.mpr λq w z=>by
   simp only[Di,Ak]at z;rcases z with z | z
   .exact j q w x (.inl rfl) z
   .exact j q w y (.inr (.inr (.inl rfl))) z
  have U:Y.filter (λq=>decide (q=x)||decide (q=y))=[]:=List.filter_eq_nil_iff.mpr λq w z=>by
   simp only[Di,Ak]at z;rcases z with z | z
   .exact J (z▸w)
   .exact N (z▸w)
  have p:¬c=x:=λz=>h1 z.symm
  simp[Dr,m,U,List.filter_cons,p,M]
def cJ2 (ds:AG)(d:PyData):Prop:=∃(dr:AA) (rim:AD) (k:Nat),dr.length<=20/\rim.length<=20/\rim.Nodup/\(∀q∈rim,q<dr.length)/\0<k/\k+1<rim.length/\ds=[.tuple (dr.map tN),tN rim,.int (k:Int)]/\d=.bool (TT.frA (TT.trn dr) rim k)
def dN3 (ds:AG)(d:PyData):Prop:=∃(dr:AA) (rim:AD),dr.length<=20/\rim.length<=20/\rim.Nodup/\(∀q∈rim,q<dr.length)/\2<rim.length/\TT.frs (TT.trn dr) rim≠[]/\ds=[.tuple (dr.map tN),tN rim]/\d=.int (TT.pl (TT.trn dr) rim:Nat)
def fCb (r:Nat->AD)(p:Nat):PyData->Option PyData
 | .int q=>if q.toNat∈r p then some (.int q) else none
 | _=>none
theorem cR9 (r:Nat->AD)(p:Nat)(l:AD):(nI l).filterMap (fCb r p)=nI (l.filter λq=>decide (q∈r p)):=by
 induction l with
 | nil=>rfl
 | cons x l e=>
  show((PyData.int (x:Int))::nI l).filterMap _=_
  rw[Bc,e,List.filter_cons];by_cases h:x∈r p
  .have:fCb r p (.int (x:Int))=some (.int (x:Int)):=by show(if _ then _ else _)=_;rw[Ac8,Ac h]
   rw[this,Bu h];rfl
  .have:fCb r p (.int (x:Int))=none:=by show(if _ then _ else _)=_;rw[Ac8,Ab h]
   rw[this,Ao h];rfl
def fNt (r:Nat->AD)(rim:AD):PyData->Option PyData
 | .int k=>if TT.frA r rim k.toNat then some (.int (TT.gi rim k.toNat:Nat)) else none
 | _=>none
theorem cU2 (r:Nat->AD)(rim:AD):(R8 1 (rim.length-2)).filterMap (fNt r rim)=nI (TT.frs r rim):=by
 unfold R8 TT.frs nI;rw[Aw,List.map_filterMap];refine K3 λk _=>?_
 show(if TT.frA r rim (1+(k:Int)).toNat then some (PyData.int (TT.gi rim (1+(k:Int)).toNat:Nat)) else none)=_
 rw[show(1+(k:Int)).toNat=k+1 by lia]
 by_cases h:TT.frA r rim (k+1)=true
 .rw[Ac h,Ac h];rfl
 .rw[Ab h,Ab h];rfl
section
variable {P:Program}{w:World}{K:Frag}{mg:Str->Option Value}{base:Heap}{a:Ad}
theorem dC7 (T:Tx K mg a):E9 P w K mg base CX0 2 a.Q2 a.Q0 ["drawing", "rim", "k"] (spV K cJ2):=by
 have y:E9 P w K mg base CX0 1 _ _ _ _:=bW5 T
 refine T.V9.ok aC7 (v6 λds d ⟨_,_,_,_,_,_,_,_,_,e,_⟩=>by rw[e];rfl) (λM A p s H vs Q E J h=>?_)
 obtain⟨ds,S,d,R,r,⟨z,rim,k,U,D,nd,lt,N,h1,rfl,rfl⟩,q⟩:=h;refine⟨_,(A9 (E8 (aG0 (cD7 K J) (M1 (T:=["q"]) (N':=["q", "drawing", "rim", "k"]) (is:=[0,1,2]) rfl (.of rfl rfl rfl (by exact⟨rfl,rfl,rfl,trivial⟩) rfl rfl rfl (by exact⟨⟨_,rfl,by first | exact .inl rfl | exact .inr rfl,by first | exact .inl rfl | exact .inr rfl⟩,⟨_,rfl,by first | exact .inl rfl | exact .inr rfl,by first | exact .inl rfl | exact .inr rfl⟩,⟨_,rfl,by first | exact .inl rfl | exact .inr rfl,by first | exact .inl rfl | exact .inr rfl⟩,trivial⟩)) (z6 (pv 1)) (L6 (by decide)) λ_ _ _ _=>⟨(B7 (i:=0) (by decide +kernel:(["q", "drawing", "rim", "k"]:AJ).Nodup) rfl (Or.inl rfl)),(y2 (W2 (C6 y (J.mono (by decide)) rfl T.cM4 T.bO0.kp T.cG0 .nil G6 (A1 (pv 1) (A1 (B9 (ixK K) (pv 2) (pv 3) (λ_ _=>rfl)) (A1 (pv 0) A2)))))),(pv 0)⟩) (C5 (A1 (B9 (ixK K) (pv 1) (B4 S1 (pv 2) A6) (λ_ _=>rfl)) (A1 (B9 (ixK K) (pv 1) (B4 G4 (pv 2) A6) (λ_ _=>rfl)) A2))) (K4 _)))),O0 R r ?_ q⟩
 have hp:TT.gi rim k<z.length:=lt _ (TT.P7 (by lia))
 have Y:=K5 (K:=K) (m:=true) (ρ:=sl0 ["drawing", "rim", "k"].length [.tuple (z.map tN),tN rim,.int (k:Int)]) (n:=1) (is:=[0,1,2]) (g:=G5 0) (tt:=tB (X9 (spV K aO1) [] E0 (C0 (E1 1) (C0 (tOp (rIx K) (E1 2) (E1 3)) (C0 (E1 0) O1))))) (te:=E1 0) (fCb (TT.trn z) (TT.gi rim k)) (aM3 (ds:=nI rim) (A4 (i:=1) rfl)) (by rw[C7];unfold sizeLine;lia) (λd U=>by
  obtain⟨x,F,rfl⟩:=Aa8.mp U;refine⟨_,C8,?_⟩;have c:=t_b (H9 (K:=K) (m:=false) (ρ:=[.val (.int (x:Int)),.val (.tuple (z.map tN)),.val (tN rim),.val (.int (k:Int))]) (pre:=aO1) (X:=E0) (d:=.bool (td z (TT.gi rim k:Nat) (x:Int))) (A3 (A4 (i:=1) rfl) (A3 (F6 (ds:=nI rim) (A4 (i:=2) rfl) (A4 (i:=3) rfl) rfl (M6 k rfl (aX3 (by lia)))) (A3 (A4 (i:=0) rfl) A7))) ⟨z,_,_,rfl,rfl⟩)
  rw[dG3 hp]at c;by_cases h:x∈TT.trn z (TT.gi rim k)
  .rw[Bu h]at c
   have:fCb (TT.trn z) (TT.gi rim k) (.int (x:Int))=some (.int (x:Int)):=by show(if _ then _ else _)=_;rw[Ac8,Ac h]
   rw[this];exact⟨c,A4 rfl⟩
  .rw[Ao h]at c
   have:fCb (TT.trn z) (TT.gi rim k) (.int (x:Int))=none:=by show(if _ then _ else _)=_;rw[Ac8,Ab h]
   rw[this];exact c)
 rw[cR9]at Y;have fN:∀l:AD,Fit (.list (nI l)):=λl=>by
  have e:nI l=(l.map λ(x:Nat)=>(x:Int)).map PyData.int:=by unfold nI;simp
  rw[e];exact(dL1 _).fit
 refine S3 (dA0 (EF.e' Y) (EF.e' (F5 (ds:=nI [TT.gi rim (k-1),TT.gi rim (k+1)]) (A3 (F6 (ds:=nI rim) (A4 rfl) (L9 (g:=λi j=>i-j) (A4 rfl) A8) rfl (M6 (k-1) (by lia) (aX3 (by lia)))) (A3 (F6 (ds:=nI rim) (A4 rfl) (L9 (g:=λi j=>i+j) (A4 rfl) A8) rfl (M6 (k+1) (by lia) (aX3 (by lia)))) A7)) (show 2<=sizeLine by decide))) (fN _) (fN _)) ?_
 show PyData.bool _=.bool _
 rw[dJ8,cF4 nd N h1]
theorem cX7 (T:Tx K mg a):E9 P w K mg base CX0 3 a.S8 a.S7 ["drawing", "rim"] (spV K dN3):=by
 have y:E9 P w K mg base CX0 2 _ _ _ _:=dC7 T
 refine T.Z7.ok aI3 (v6 λds d ⟨_,_,_,_,_,_,_,_,e,_⟩=>by rw[e];rfl) (λR A J s H vs Q E hr h=>?_)
 obtain⟨ds,S,d,D,r,⟨z,rim,Y,B,nd,lt,h2,U,rfl,rfl⟩,q⟩:=h;refine⟨_,(A9 (E8 (B0 (aW2 K rfl) (by rfl) T.bT5 boot_min (A1 (M1 (T:=["k"]) (N':=["k", "drawing", "rim"]) (is:=[0,1]) rfl (.of rfl rfl rfl (by exact⟨rfl,rfl,trivial⟩) rfl rfl rfl (by exact⟨⟨_,rfl,by first | exact .inl rfl | exact .inr rfl,by first | exact .inl rfl | exact .inr rfl⟩,⟨_,rfl,by first | exact .inl rfl | exact .inr rfl,by first | exact .inl rfl | exact .inr rfl⟩,trivial⟩)) (aY6 rfl T.K6 (A1 A6 (A1 (B4 S1 (B0 (aD5 K) (by rfl) T.N5 Ar (A1 (pv 1) A2)) A6) A2))) (L6 (by decide)) λ_ _ _ _=>⟨(B7 (i:=0) (by decide +kernel:(["k", "drawing", "rim"]:AJ).Nodup) rfl (Or.inl rfl)),(y2 (W2 (C6 y (hr.mono (by decide)) rfl T.aD6 T.V9.kp T.aD3 .nil G6 (A1 (pv 1) (A1 (pv 2) (A1 (pv 0) A2)))))),(B9 (ixK K) (pv 2) (pv 0) (λ_ _=>rfl))⟩) A2)))),O0 D r ?_ q⟩
 have p:(((nI rim).length:Int)-1-1).toNat=rim.length-2:=by rw[C7];lia
 have c:=K5 (K:=K) (m:=true) (ρ:=sl0 ["drawing", "rim"].length [.tuple (z.map tN),tN rim]) (n:=1) (is:=[0,1]) (g:=G5 0) (tt:=tB (X9 (spV K cJ2) [] E0 (C0 (E1 1) (C0 (E1 2) (C0 (E1 0) O1))))) (te:=tOp (rIx K) (E1 2) (E1 0)) (fNt (TT.trn z) rim) (cI9 (A3 (A8 (i:=1)) (A3 (L9 (g:=λi j=>i-j) (U2 (ds:=nI rim) (A3 (A4 (i:=1) rfl) A7)) (A8 (i:=1))) A7)) (by rw[C7];lia)) (by rw[p];unfold R8;simp;unfold sizeLine;lia) (λd Y=>by
  rw[p]at Y;obtain⟨j,N,rfl⟩:=Aa8.mp Y;have N:=Ab5.mp N;rw[show(1:Int)+(j:Int)=((j+1:Nat):Int) by lia]
  refine⟨_,C8,?_⟩;have k:=t_b (H9 (K:=K) (m:=false) (ρ:=[.val (.int ((j+1:Nat):Int)),.val (.tuple (z.map tN)),.val (tN rim)]) (pre:=cJ2) (X:=E0) (d:=.bool (TT.frA (TT.trn z) rim (j+1))) (A3 (A4 (i:=1) rfl) (A3 (A4 (i:=2) rfl) (A3 (A4 (i:=0) rfl) A7))) ⟨z,rim,j+1,by assumption,B,nd,lt,by lia,by lia,rfl,rfl⟩)
  have hu:fNt (TT.trn z) rim (.int ((j+1:Nat):Int))=if TT.frA (TT.trn z) rim (j+1) then some (.int (TT.gi rim (j+1):Nat)) else none:=by show(if _ then _ else _)=_;rw[Ac8]
  rw[hu];by_cases h:TT.frA (TT.trn z) rim (j+1)=true
  .rw[h]at k;rw[Ac h];exact⟨k,F6 (ds:=nI rim) (A4 (i:=2) rfl) (A4 (i:=0) rfl) rfl (M6 (j+1) rfl (aX3 (by lia)))⟩
  .rw[Bool.not_eq_true]at h;rw[h]at k;rw[Ab (by rw[h];decide)]
   exact k)
 rw[p,cU2]at c;have e:nI (TT.frs (TT.trn z) rim)=((TT.frs (TT.trn z) rim).map λ(x:Nat)=>(x:Int)).map PyData.int:=by unfold nI;simp
 rw[e]at c;obtain⟨m1,m2⟩:=TT.bA0 U;exact S3 (dA7 (M:=((TT.pl (TT.trn z) rim:Nat):Int)) (A3 (EF.e' c) A7) ⟨Aa8.mpr ⟨_,m1,rfl⟩,λb F=>by
  obtain⟨x,hx,rfl⟩:=Aa8.mp F
  have:=m2 x hx
  unfold TT.pl
  lia⟩) rfl
end
theorem sc_taken_off:D9 ["drawing", "rim", "order", "arrows", "place", "k", "ahead", "behind", "coming"] ["drawing"] (B2 aA3):=⟨rfl,rfl,rfl,by decide +kernel,rfl,by decide +kernel,by decide +kernel⟩
def cI (x:Nat×Nat):Int×Int:=((x.1:Int),(x.2:Int))
def OUT (dr:AA):AD×List (Nat×Nat):=TT.cH6 (TT.trn dr) dr.length [0,2,1] [] []
structure Iv (r:Nat->AD)(n:Nat)(X:AD×List (Nat×Nat))(rim:AD)(R:Nat->Prop)(o:AD)(ps:List (Nat×Nat))(fu:Nat):Prop where
 st:TT.St r n rim R
 hf:TT.mu n R<=fu
 out:TT.cH6 r fu rim o ps=X
 b1:ps.length+TT.un n rim R+2*TT.mu n R<=30
 b2:o.length+TT.mu n R<=10
theorem Iv.begin {dr:AA}(h:dr.length<=10):Iv (TT.trn dr) dr.length (OUT dr) [0,2,1] (λ_=>False) [] [] dr.length:=
 ⟨.inl ⟨rfl,λ_ z=>z⟩,TT.cE6 _ _,rfl,by have:=TT.cE6 dr.length (λ_=>False);have:=TT.dP7 dr.length [0,2,1] (λ_=>False);simp only[List.length_nil];lia,by have:=TT.cE6 dr.length (λ_=>False);simp only[List.length_nil];lia⟩
theorem Iv.step {r:Nat->AD}{n:Nat}{X:AD×List (Nat×Nat)}{rim:AD}{R:Nat->Prop}{o:AD}{ps:List (Nat×Nat)}{fu:Nat}(G:TT.Good n r)(H1:TT.H1 r)(h:Iv r n X rim R o ps fu)(z:2<rim.length) :
  TT.Nx r n rim R/\Iv r n X (TT.aN0 r rim) (λq=>R q\/q=TT.pl r rim) (TT.bN9 r rim o) (TT.bO2 r rim ps) (fu-1)/\TT.mu n (λq=>R q\/q=TT.pl r rim)<TT.mu n R:=by
 have N:=h.st.nx G H1 z
 have p:=N.mu
 have s:=N.un
 have c:=h.hf
 have k:=h.b1
 have j:=h.b2
 refine⟨N,⟨N.next,by lia,?_,?_,?_⟩,by lia⟩
 .have e:=h.out
  obtain⟨w,y⟩:∃w,fu=w+1:=⟨fu-1,by lia⟩
  rw[y]at e ⊢;rw[TT.cH6,Ab (by lia)]at e
  exact e
 .have:(TT.bO2 r rim ps).length<=ps.length+(TT.com r rim).length+2:=by
   unfold TT.bO2;split <;> simp <;> lia
  lia
 .have:(TT.bN9 r rim o).length<=o.length+1:=by
   unfold TT.bN9;split <;> simp
  lia
theorem Iv.last {r:Nat->AD}{n:Nat}{X:AD×List (Nat×Nat)}{rim:AD}{R:Nat->Prop}{o:AD}{ps:List (Nat×Nat)}{fu:Nat}(h:Iv r n X rim R o ps fu)(e:¬ 2<rim.length):X=(o,ps):=by
 rw[<- h.out];cases fu with
 | zero=>rfl
 | succ f=>rw[TT.cH6,Ac (by lia)]
theorem bP7 {n:Nat}{l:AD}(nd:l.Nodup)(h:∀q∈l,q<n):l.length<=n:=by
 have:=aV7 (m:=List.range n) nd λq e=>Ab5.mpr (h q e)
 simpa using this
def fCm (p:Nat):PyData->Option PyData
 | .int q=>some (pD (q,(p:Int)))
 | _=>none
theorem cR2 (p:Nat)(l:AD):(nI l).filterMap (fCm p)=((l.map λq=>(q,p)).map cI).map pD:=by
 unfold nI;rw[Aw,Ae3,Ae3,<- List.filterMap_eq_map];exact K3 λx _=>rfl
def dB7 (ds:AG)(u:OT):Prop:=∃(m:Nat) (dr tr:AA),Dw m dr tr/\ds=[.tuple (dr.map tN)]/\u=.tup [.lst ((nI (OUT dr).1).map OT.leaf),.leaf (.tuple ((sp ((OUT dr).2.map cI)).map pD))]
structure Pt (r:Nat->AD)(n:Nat)(rim:AD)(p i x y:Nat)(c:AD):Prop where
 nd:rim.Nodup
 lt:∀q∈rim,q<n
 rl:rim.length<=n
 fr:TT.frs r rim≠[]
 hp:TT.pl r rim=p
 hi:rim.idxOf p=i
 i0:0<i
 i1:i+1<rim.length
 pn:p<n
 pm:p∈rim
 hx:TT.gi rim (i-1)=x
 hy:TT.gi rim (i+1)=y
 mx:x∈r p
 my:y∈r p
 ne:x≠y
 hc:TT.cmo (r p) x y=c
 cl:c.length<=n
 ln:(r p).length<=n
 r2:TT.aN0 r rim=rim.take i++c++rim.drop (i+1)
 o2:∀o,TT.bN9 r rim o=if 2<p then o++[p] else o
 p2:∀ps,TT.bO2 r rim ps=(ps++c.map λq=>(q,p))++(if 2<p then [(p,x),(p,y)] else [])
theorem _root_.TT.Nx.pt {r:Nat->AD}{n:Nat}{rim:AD}{R:Nat->Prop}(G:TT.Good n r)(N:TT.Nx r n rim R):∃p i x y c,Pt r n rim p i x y c:=by
 have w:=N.i0
 have k:=N.i1
 have pm:TT.pl r rim∈rim:=by rw[<- N.ip];exact TT.P7 (by lia)
 exact⟨_,TT.ix r rim,_,_,_,N.nd,N.lt,bP7 N.nd N.lt,List.ne_nil_of_mem N.mem,rfl,rfl,w,k,N.lt _ pm,pm,rfl,rfl,N.ta,N.tb,λz=>by have:=TT.bN8 N.nd (by lia) (by lia) z;lia,rfl,bP7 N.cnd λq e=>(N.cm q e).1,bP7 (G.nd _) (G.lt _),rfl,λ_=>rfl,λ_=>rfl⟩
section
variable {P:Program}{w:World}{K:Frag}{mg:Str->Option Value}{base:Heap}{a:Ad}
theorem cH4 (T:Tx K mg a):E9 P w K mg base CX0 4 a.w6 a.z0 ["drawing"] (spT K dB7):=by
 have X:E9 P w K mg base CX0 3 _ _ _ _:=cX7 T
 have J:E9 P w K mg base CX0 2 _ _ _ _:=bQ2 T
 refine T.aL6.ok sc_taken_off (dT7 λds d ⟨_,_,_,_,e,_⟩=>by rw[e];rfl) (λcdv A outer s H vs Q E hr h=>?_)
 obtain⟨ds,S,u,hS,r,⟨m,U,tr,dw,rfl,rfl⟩,q⟩:=h;obtain⟨M,Z4⟩:=T.Z4;obtain⟨ad,gF,sF⟩:=T.w9;refine⟨_,(A5 (B5 (i:=1) sc_taken_off.nd rfl (Or.inl rfl) (N6 (v:=.ref ad) rfl gF rfl))
   (A5 (B5 (i:=2) sc_taken_off.nd rfl (Or.inl rfl) (C5 A2))
   (A5 (B5 (i:=3) sc_taken_off.nd rfl (Or.inl rfl) (C5 A2))
   (A5 (aG8 Au (F9 aD0 (B0 (aD5 K) (by rfl) T.N5 Ar (A1 (pv 1) A2)) A6 (K4 _)) (A5 (B5 (i:=4) sc_taken_off.nd rfl (Or.inr rfl) (C6 X (hr.mono (by decide)) rfl T.aK0 T.Z7.kp T.aJ1 .nil G6 (A1 (pv 0) (A1 (pv 1) A2))))
   (A5 (B5 (i:=5) sc_taken_off.nd rfl (Or.inl rfl) (L8 PySem.F.plainAttrs_tuple PySem.F.slot_tuple_index PySem.F.type_tuple_index (aL1 K) (pv 1) (A1 (pv 4) A2)))
   (A5 (B5 (i:=6) sc_taken_off.nd rfl (Or.inl rfl) (B9 (ixK K) (pv 1) (B4 S1 (pv 5) A6) (λ_ _=>rfl)))
   (A5 (B5 (i:=7) sc_taken_off.nd rfl (Or.inl rfl) (B9 (ixK K) (pv 1) (B4 G4 (pv 5) A6) (λ_ _=>rfl)))
   (A5 (B5 (i:=8) sc_taken_off.nd rfl (Or.inl rfl) (C6 J (hr.mono (by decide)) rfl T.cB8 T.aX2.kp T.cB4 .nil G6 (A1 (B9 (ixK K) (pv 0) (pv 4) (λ_ _=>rfl)) (A1 (pv 6) (A1 (pv 7) A2)))))
   (A5 (F8 (L8 Ab1 PySem.F.slot_list_extend PySem.F.type_list_extend aA6 (pv 3) (A1 (M1 (T:=["q"]) (N':=["q", "place"]) (is:=[4]) rfl (.of rfl rfl rfl (by exact⟨rfl,trivial⟩) rfl rfl rfl (by exact⟨⟨_,rfl,by first | exact .inl rfl | exact .inr rfl,by first | exact .inl rfl | exact .inr rfl⟩,trivial⟩)) (z6 (pv 8)) (L6 (by decide)) λ_ _ _ _=>⟨(B7 (i:=0) (by decide +kernel:(["q", "place"]:AJ).Nodup) rfl (Or.inl rfl)),M8,(E2 (A1 (pv 0) (A1 (pv 1) A2)))⟩) A2)))
   (A5 (U8 (F9 dP8 (pv 4) (N6 (v:=.int 3) rfl Z4 ⟨M,rfl⟩) (K4 _)) (A5 (F8 (L8 Ab1 Ah Ag E4 (pv 2) (A1 (pv 4) A2)))
   (A9 (F8 (L8 Ab1 PySem.F.slot_list_extend PySem.F.type_list_extend aA6 (pv 3) (A1 (C5 (A1 (E2 (A1 (pv 4) (A1 (pv 6) A2))) (A1 (E2 (A1 (pv 4) (A1 (pv 7) A2))) A2))) A2))))) M0)
   (A9 (B5 (i:=1) sc_taken_off.nd rfl (Or.inl rfl) (B4 (aH8 K) (B4 (aH8 K) (T9 (cH2 K) (pv 1) aA9 (T6 (pv 5))) (pv 8)) (T9 (cH2 K) (pv 1) (T6 (B4 G4 (pv 5) A6)) aA9))))))))))))
   (A9 (E8 (E2 (A1 (pv 2) (A1 (Q3 (dJ2 K) (by rfl) T.P6 boot_tuple (A1 (B0 (t5 K) (by rfl) T.R3 boot_sorted (A1 (pv 3) A2)) A2)) A2))))))))),dE6 hS r ?_ q⟩
 have hdl:=dw.len
 have m7:=dw.m7
 obtain⟨F,G',f,B⟩:=dw.bt;have G:=B.good;have H1:=B.h1;rw[<- hdl]at G;refine bD4 (K7 (d:=tN [0,2,1]) (cQ0 λH=>.tup (sF H) (.cons (.int _) (.cons (.int _) (.cons (.int _) .nil)))) ?_)
 refine bD4 (G3 (F5 A7) ?_ (show 2<9 by decide))
 refine bD4 (G3 (F5 A7) ?_ (show 3<9 by decide))
 refine bD4 (bG8 (λk ρ=>∃Y R o ps fu x4 x5 x6 x7 x8,Iv (TT.trn U) U.length (OUT U) Y R o ps fu/\k=TT.mu U.length R/\(x4.nb=true/\x5.nb=true/\x6.nb=true/\x7.nb=true/\x8.nb=true)/\ρ=[.val (.tuple (U.map tN)),.val (tN Y),.own (nI o),.own ((ps.map cI).map pD),x4,x5,x6,x7,x8]) ⟨_,[0,2,1],(λ_=>False),[],[],U.length,.no,.no,.no,.no,.no,Iv.begin (by lia),rfl,⟨rfl,rfl,rfl,rfl,rfl⟩,rfl⟩ ?_)
 rintro k _ ⟨Y,R,o,ps,fu,x4,x5,x6,x7,x8,iv,rfl,⟨n4,n5,n6,n7,n8⟩,rfl⟩;refine⟨_,J8 (y7 (g:=λi j=>decide (j<i)) (U2 (ds:=nI Y) (A3 (A4 rfl) A7)) A8),?_⟩
 rw[C7];by_cases h3:2<Y.length
 .rw[Ac (Bu (by lia))]
  obtain⟨N,iv',hmu⟩:=iv.step G H1 h3;obtain⟨p,i,x,y,c,D⟩:=N.pt G;have b1:=iv.b1;have b2:=iv.b2;have i0:=D.i0;have i1:=D.i1;have rl:=D.rl;have cl:=D.cl;refine B1 (K7 (d:=.int (p:Int)) (H9 (A3 (A4 rfl) (A3 (A4 rfl) A7)) ⟨U,Y,by lia,by lia,D.nd,D.lt,h3,D.fr,rfl,by rw[D.hp]⟩) ?_)
  refine B1 (K7 (d:=.int (i:Int)) (by rw[<- D.hi];exact bQ5 (A4 rfl) (A4 rfl) D.pm) ?_)
  refine B1 (K7 (d:=.int (x:Int)) (F6 (ds:=nI Y) (A4 rfl) (L9 (g:=λi j=>i-j) (A4 rfl) A8) rfl (M6 (i-1) (by lia) (by rw[aX3 (by lia),D.hx]))) ?_)
  refine B1 (K7 (d:=.int (y:Int)) (F6 (ds:=nI Y) (A4 rfl) (L9 (g:=λi j=>i+j) (A4 rfl) A8) rfl (M6 (i+1) (by lia) (by rw[aX3 (by lia),D.hy]))) ?_)
  refine B1 (K7 (d:=tN c) (H9 (A3 (F6 (d':=tN (TT.trn U p)) (ds:=U.map tN) (A4 rfl) (A4 rfl) rfl (M6 p rfl (by rw[Aa9,bO8 D.pn];rfl))) (A3 (A4 rfl) (A3 (A4 rfl) A7))) ⟨_,x,y,D.mx,D.my,D.ne,by have:=D.ln;lia,rfl,by rw[D.hc]⟩) ?_)
  show W K _ [.val (.tuple (U.map tN)),.val (tN Y),.own (nI o),.own ((ps.map cI).map pD),.val (.int (p:Int)),.val (.int (i:Int)),.val (.int (x:Int)),.val (.int (y:Int)),.val (tN c)] _
  have cm:=K5 (K:=K) (m:=true) (ρ:=[.val (.tuple (U.map tN)),.val (tN Y),.own (nI o),.own ((ps.map cI).map pD),.val (.int (p:Int)),.val (.int (i:Int)),.val (.int (x:Int)),.val (.int (y:Int)),.val (tN c)]) (n:=1) (is:=[4]) (g:=G5 0) (tt:=aE1) (te:=aM6 (C0 (E1 0) (C0 (E1 1) O1))) (fCm p) (aM3 (ds:=nI c) (A4 (i:=8) rfl)) (by rw[C7];unfold sizeLine;lia) (λd hd=>by
   obtain⟨z,hz,rfl⟩:=Aa8.mp hd;exact⟨_,C8,Z1,M3 (A3 (A4 (i:=0) rfl) (A3 (A4 (i:=1) rfl) A7))⟩)
  rw[cR2]at cm;refine B1 (aB9 rfl cm (by simp only[Aa3];unfold sizeLine;lia) ?_)
  rw[<- Ad2,<- Ad2];show W K _ [.val (.tuple (U.map tN)),.val (tN Y),.own (nI o),.own (((ps++c.map λq=>(q,p)).map cI).map pD),.val (.int (p:Int)),.val (.int (i:Int)),.val (.int (x:Int)),.val (.int (y:Int)),.val (tN c)] _
  refine B1 (cF0 [.val (.tuple (U.map tN)),.val (tN Y),.own (nI (TT.bN9 (TT.trn U) Y o)),.own (((TT.bO2 (TT.trn U) Y ps).map cI).map pD),.val (.int (p:Int)),.val (.int (i:Int)),.val (.int (x:Int)),.val (.int (y:Int)),.val (tN c)] (J8 (y7 (g:=λi j=>decide (j<=i)) (A4 rfl) A8)) (λh=>?_) (λh=>O7 ?_) ?_)
  .have h:(3:Int)<=(p:Int):=As h
   refine B1 (Q8 rfl (A4 rfl) (by rw[C7];unfold sizeLine;lia) ?_)
   refine aB9 (es:=([(p,x),(p,y)].map cI).map pD) rfl (F5 (A3 (M3 (A3 (A4 rfl) (A3 (A4 rfl) A7))) (A3 (M3 (A3 (A4 rfl) (A3 (A4 rfl) A7))) A7)) (show 2<=sizeLine by decide)) (by simp only[Aa3,Ab7,Ba,List.length_nil];unfold sizeLine;lia) ?_
   rw[D.o2,D.p2,Ac (by lia),Ac (by lia),Y6,Ad2 (l₂:=[(p,x),(p,y)]),Ad2 (l₂:=[(p,x),(p,y)].map cI)]
   rfl
  .have h:¬(3:Int)<=(p:Int):=Ay h
   rw[D.o2,D.p2,Ab (by lia),Ab (by lia),Bj]
  have e1:y6 (nI Y) none (some (i:Int))=nI (Y.take i):=by rw[aQ0 (by rw[C7];lia),bC9]
  have e2:y6 (nI Y) (some ((i:Int)+1)) none=nI (Y.drop (i+1)):=by
   rw[show((i:Int)+1)=((i+1:Nat):Int) by lia,aK2 (by rw[C7];lia),aN5]
  have ht:Y.take i≠[]:=λz=>by have:=congrArg List.length z;rw[Ad1,List.length_nil]at this;lia
  have nn:∀{l:AD},l≠[]->nI l≠[]:=λ{l} h z=>h (by cases l with | nil=>rfl | cons _ _=>cases z)
  generalize hρ:[Sl.val (.tuple (U.map tN)),.val (tN Y),.own (nI (TT.bN9 (TT.trn U) Y o)),.own (((TT.bO2 (TT.trn U) Y ps).map cI).map pD),.val (.int (p:Int)),.val (.int (i:Int)),.val (.int (x:Int)),.val (.int (y:Int)),.val (tN c)]=ρ;have s1:=bJ7 (K:=K) (m:=false) (ρ := ρ) (ds:=nI Y) (A4 (i:=1) (by rw[<- hρ];rfl)) aJ9 (Y7 (A4 (i:=5) (by rw[<- hρ];rfl))) (E6 Y)
  have s2:=bJ7 (K:=K) (m:=false) (ρ := ρ) (ds:=nI Y) (A4 (i:=1) (by rw[<- hρ];rfl)) (Y7 (L9 (g:=λi j=>i+j) (A4 (i:=5) (by rw[<- hρ];rfl)) (A8 (i:=1)))) aJ9 (E6 Y)
  rw[e1]at s1;rw[e2]at s2;have s3:=bS2 (m:=false) s1 (A4 (i:=8) (d:=tN c) (by rw[<- hρ];rfl)) (E6 _) (E6 c) (nn ht) (by rw[C7,C7,Ad1];unfold sizeLine;lia)
  rw[<- Y6]at s3;have s4:=bS2 (m:=true) s3 s2 (E6 _) (E6 _) (nn (by simp[ht])) (by rw[C7,C7,Ab7,Ad1,Bk];unfold sizeLine;lia)
  rw[<- Y6,<- D.r2]at s4;refine K7 (d:=tN (TT.aN0 (TT.trn U) Y)) s4 ⟨_,hmu,_,_,_,_,_,.val (.int (p:Int)),.val (.int (i:Int)),.val (.int (x:Int)),.val (.int (y:Int)),.val (tN c),iv',rfl,⟨rfl,rfl,rfl,rfl,rfl⟩,by rw[<- hρ];rfl⟩
 .rw[Ab (by rw[Ak];lia)]
  have e:=iv.last h3
  have b1:=iv.b1
  rw[e];exact cW3 (i:=2) rfl (j8 (A3 (EF.e' (bL0 (ps:=ps.map cI) (A3 (G7 rfl) A7) (by rw[Aa3];lia))) A7) (aB3 _)) rfl
end
end K40
namespace L2
open PySem PySem.Spec PyProof.Rows
abbrev qn (κ:Bool):String:=match κ with | true => "list_iterator" | false => "tuple_iterator"
section
variable {prog:Program}{w:World}{A:Around}{E:Dz}{s:Shared}{κ:Bool}
abbrev zT1 (κ:Bool)(h:Heap)(l1:Addr):Heap:=h.push {cls:=.type (qn κ),data:=.fields #[.ref l1,.int 0 0]}
abbrev zT2 (κ:Bool)(h:Heap)(l1 l2:Addr):Heap:=(zT1 κ h l1).push {cls:=.type "tuple_iterator",data:=.fields #[.ref l2,.int 0 0]}
abbrev zT3 (κ:Bool)(h:Heap)(l1 l2:Addr):Heap:=(zT2 κ h l1 l2).push {cls:=.type "tuple",data:=.seq #[.ref h.objs.size,.ref (zT1 κ h l1).objs.size]}
abbrev zT4 (κ:Bool)(h:Heap)(l1 l2:Addr):Heap:=(zT3 κ h l1 l2).push {cls:=.type "tuple",data:=.seq #[.none,.none]}
abbrev zT5 (κ:Bool)(h:Heap)(l1 l2:Addr):Heap:=(zT4 κ h l1 l2).push {cls:=.type "zip",data:=.fields #[.none,.bool false,.bool false,.ref (zT2 κ h l1 l2).objs.size,.ref (zT3 κ h l1 l2).objs.size]}
end
end L2
namespace LV
open PySem PySem.Spec PyProof.Rows L2
section
variable {K:Frag}{B:Hp}{ρ ρ':List Sl}{m:Bool}{t ta tb:TE}{d d':PyData}{ds es:AG}
theorem dG2 {C:Addr}{v:Value}(h:PySem.W.subIn K (.ref C) v=some true):L2.subIn K C v=true:=by
 have h:PySem.W.mroIn K C v=some true:=h
 unfold PySem.W.mroIn at h;obtain⟨y,a,b⟩:=Option.bind_eq_some_iff.mp h;split at b
 .cases b
 .unfold PySem.W.clsIn at a;unfold L2.subIn
  revert a
  split
  .rename_i e;intro z;cases z;rw[e];simpa using b
  .intro z;cases z
end
end LV
namespace L2
open PySem PySem.Spec PyProof.Rows
end L2
namespace LV
open PySem PySem.Spec PyProof.Rows L2
end LV
namespace LV
open PySem L2 PyProof.Rows
end LV
namespace PySem
open Sem (wp)
namespace F
end F
end PySem
namespace PySem
open Sem (wp)
end PySem
namespace LV
open PySem PySem.Spec PyProof.Rows L2
end LV
namespace L2
open PySem PySem.Spec PyProof.Rows
end L2
namespace LV
open PySem PySem.Spec PyProof.Rows L2
end LV
set_option maxHeartbeats 1000000
namespace K40
open PySem L2 LV PyProof.Rows
theorem Dw.good {m:Nat}{dr tr:AA}(h:Dw m dr tr):TT.Good (m+3) (TT.trn dr):=by
 obtain⟨_,_,_,_,B⟩:=h;exact B.good
theorem cT7 {lo:Int}{n i:Nat}{d:PyData}(h:(R8 lo n)[i]? = some d):d=.int (lo+(i:Int))/\i<n:=by
 have hi:=(Ab0.mp h).1
 have e:i<n:=by simpa[R8]using hi
 unfold R8 at h;rw[Aa9,List.getElem?_range e]at h;exact⟨(Ab4 h).symm,e⟩
theorem aU8:D9 ["ring"] ["ring"] (B2 l8):=⟨rfl,rfl,rfl,by decide +kernel,rfl,by decide +kernel,by decide +kernel⟩
def wys (x y z:Int):List (Int×Int):=[(z,x),(x,y),(y,z)]
def bT3 (ds es:AG):Prop:=∃x y z:Int,ds=[tI [x,y,z]]/\es=(wys x y z).map pD
def fWy (x y z:Int):PyData->Option PyData
 | .int k=>some (pD (if k=0 then(z,x) else if k=1 then(x,y) else(y,z)))
 | _=>none
theorem Dw.lt {m:Nat}{dr tr:AA}(h:Dw m dr tr){p q:Nat}(e:q∈TT.trn dr p):p<m+3:=by
 rcases Nat.lt_or_ge p (m+3) with z | z
 .exact z
 .rw[h.good.hi p z]at e;cases e
theorem sc_ring_ways:D9 ["drawing", "ring", "ways"] ["drawing", "ring"] (B2 w5):=⟨rfl,rfl,rfl,by decide +kernel,rfl,by decide +kernel,by decide +kernel⟩
def Tri (dr:AA)(x y z:Nat):Prop:=y∈TT.trn dr x/\z∈TT.trn dr y/\x∈TT.trn dr z
def rgW (x y z:Nat):List (Nat×Nat):=[(z,x),(x,y),(y,z)]
def dS6 (ds es:AG):Prop:=∃(m:Nat) (dr tr:AA) (x y z:Nat),Dw m dr tr/\Tri dr x y z/\ds=[.tuple (dr.map tN),tN [x,y,z]]/\es=(rgW x y z).map λz=>pD (cI z)
def fTd (dr:AA):PyData->Option PyData
 | .tuple [.int p,.int q]=>some (.bool (td dr p q))
 | _=>none
theorem Dw.td {m:Nat}{dr tr:AA}(e:Dw m dr tr){p q:Nat}(y:q∈TT.trn dr p):K40.td dr (p:Int) (q:Int)=true:=by
 have w:=e.lt y
 unfold K40.td
 have:=e.len
 simp only[Aj,Ak,Ac8];exact⟨⟨by lia,by lia⟩,Aa8.mpr ⟨q,y,rfl⟩⟩
theorem dG9 (ps:List (Int×Int)):Fit (.tuple (ps.map pD)):=(aH4 (n:=1) λd e=>by obtain⟨x,_,rfl⟩:=Aa8.mp e;exact aR6 x).fit
structure AI (dr:AA)(ps:List (Int×Int)):Prop where
 nd:ps.Nodup
 len:ps.length<=21
 lo:∀x∈ps,3<=x.1/\x.1<(dr.length:Int)/\0<=x.2/\x.2<(dr.length:Int)
 tie:∀x∈ps,td dr x.1 x.2=true
 anti:∀x∈ps,(x.2,x.1)∉ps
 out:∀b:Int,(ps.filter λx=>decide (x.1=b)).length<=3
theorem AI.perm {dr:AA}{ps qs:List (Int×Int)}(h:AI dr ps)(p:qs.Perm ps):AI dr qs:=
 ⟨p.nodup_iff.mpr h.nd,by rw[p.length_eq];exact h.len,λx e=>h.lo x (p.mem_iff.mp e),λx e=>h.tie x (p.mem_iff.mp e),λx e y=>h.anti x (p.mem_iff.mp e) (p.mem_iff.mp y),λb=>by rw[(p.filter _).length_eq];exact h.out b⟩
def rl1 (ps:List (Int×Int))(x:Int×Int):AC:=ps.filterMap λy=>if y.1=x.2/\(y.2,x.1)∈ps/\x.1<x.2/\x.1<y.2 then some [x.1,x.2,y.2] else none
def rgL (ps:List (Int×Int)):AC:=ga (λi=>rl1 ps (gp ps i)) ps.length
theorem bD1 {α:Type}{g g':Nat->List α}:∀{n:Nat},(∀i,i<n->(g i).Perm (g' i))->(ga g n).Perm (ga g' n)
 | 0,_=>by simp[ga]
 | n+1,h=>by rw[U9,U9];exact(bD1 λi hi=>h i (by lia)).append (h n (by lia))
theorem rl1_mem {ps:List (Int×Int)}{x:Int×Int}{v:AF}:v∈rl1 ps x↔∃c,v=[x.1,x.2,c]/\(x.2,c)∈ps/\(c,x.1)∈ps/\x.1<x.2/\x.1<c:=by
 unfold rl1;rw[List.mem_filterMap];constructor
 .rintro⟨y,hy,e⟩;split at e
  .rename_i h;obtain⟨h1,w,z,r⟩:=h;refine⟨y.2,(Ab4 e).symm,?_,w,z,r⟩;rw[<- h1];exact hy
  .cases e
 .rintro⟨c,rfl,h1,w,z,r⟩;exact⟨(x.2,c),h1,Ac ⟨rfl,w,z,r⟩⟩
theorem cJ5 {ps:List (Int×Int)}(nd:ps.Nodup)(x:Int×Int):(rl1 ps x).Nodup:=by
 unfold rl1;refine List.Pairwise.filterMap _ (λa b y u w v z e=>?_) nd
 split at w
 .split at z
  .rename_i h1 h2;rw[<- Ab4 w,<- Ab4 z]at e;simp at e;exact y (Prod.ext (by rw[h1.1,h2.1]) e)
  .cases z
 .cases w
theorem cT8 {dr:AA}{ps:List (Int×Int)}(h:AI dr ps)(x:Int×Int):(rl1 ps x).length<=3:=by
 have e:rl1 ps x=(ps.filter λy=>decide (y.1=x.2)).filterMap λy=>if y.1=x.2/\(y.2,x.1)∈ps/\x.1<x.2/\x.1<y.2 then some [x.1,x.2,y.2] else none:=by
  unfold rl1;rw[List.filterMap_filter];refine K3 λy _=>?_
  by_cases h:y.1=x.2 <;> simp[h]
 rw[e];exact An (List.length_filterMap_le _ _) (h.out _)
theorem cM2 {dr:AA}{ps:List (Int×Int)}(h:AI dr ps){i:Nat}(hi:i<=ps.length):(ga (λi=>rl1 ps (gp ps i)) i).length<=3*i:=by
 induction i with
 | zero=>simp[ga]
 | succ i e=>rw[U9,Ab7];have:=e (by lia);have:=cT8 h (gp ps i);lia
theorem bA7 {dr:AA}{ps:List (Int×Int)}(h:AI dr ps):(rgL ps).length<64:=by
 have:=cM2 h (Aa7 ps.length);have:=h.len;unfold rgL;lia
theorem rgL_mem {ps:List (Int×Int)}{v:AF}:v∈rgL ps↔∃a b c,v=[a,b,c]/\(a,b)∈ps/\(b,c)∈ps/\(c,a)∈ps/\a<b/\a<c:=by
 unfold rgL;rw[dB8];constructor
 .rintro⟨i,hi,h⟩;obtain⟨c,e,h1,y,w,z⟩:=rl1_mem.mp h;exact⟨_,_,c,e,Az (aQ4 hi),h1,y,w,z⟩
 .rintro⟨a,b,c,rfl,h1,y,w,z,h5⟩;obtain⟨i,hi,e⟩:=List.mem_iff_getElem.mp h1;refine⟨i,hi,rl1_mem.mpr ?_⟩;have r:gp ps i=(a,b):=by
   have:=aQ4 hi
   rw[Aa2 hi,e]at this;exact(Ab4 this).symm
  rw[r];exact⟨c,rfl,y,w,z,h5⟩
def sw (x:Int×Int):Int×Int:=(x.2,x.1)
def tw (ps W:List (Int×Int)):List (Int×Int):=ps.filter (λp=>decide (p∉W))++W.map sw
theorem AI.ne {dr:AA}{ps:List (Int×Int)}(h:AI dr ps){p q:Int}(y:(p,q)∈ps):p≠q:=λe=>by
 subst e;exact h.anti _ y y
theorem dC3 {dr:AA}{ps:List (Int×Int)}(h:AI dr ps){x y z:Int}(r:∀w∈wys x y z,w∈ps):(wys x y z).Nodup:=by
 have h1:=h.ne (r (z,x) (by simp[wys]))
 have k:=h.ne (r (x,y) (by simp[wys]))
 have j:=h.ne (r (y,z) (by simp[wys]))
 simp only[wys,Aa5,Aa1,Ac2,or_false,not_or,Dk,not_false_eq_true,List.nodup_nil,and_true];refine⟨⟨λe=>h1 e.1,λe=>h1 ?_⟩,λe=>k e.1⟩
 exact absurd e.1.symm j
theorem dI7 {m:Nat}{dr tr:AA}(y:Dw m dr tr){p q:Int}(h:td dr p q=true)(z:0<=q/\q<(dr.length:Int)):td dr q p=true:=by
 unfold td at h ⊢;simp only[Aj,Ak]at h ⊢;obtain⟨⟨h1,k⟩,w⟩:=h;obtain⟨u,r,e⟩:=Aa8.mp w;refine⟨z,Aa8.mpr ⟨p.toNat,?_,by lia⟩⟩
 obtain⟨_,F,G,f,B⟩:=y
 have:=B.good.sym r
 rw[show q.toNat=u by lia];exact this
theorem AI.turn {m:Nat}{dr tr:AA}{ps:List (Int×Int)}(N:Dw m dr tr)(h:AI dr ps){x y z:Int}(j:∀w∈wys x y z,w∈ps):AI dr (tw ps (wys x y z)):=by
 have M:=dC3 h j
 have m1:=j (z,x) (by simp[wys])
 have m2:=j (x,y) (by simp[wys])
 have m3:=j (y,z) (by simp[wys])
 have k:∀{p q:Int},(p,q)∈(wys x y z).map sw->(q,p)∈wys x y z:=λ{p q} s=>by
  obtain⟨⟨u,v⟩,hu,e⟩:=Aa8.mp s;unfold sw at e;cases e;exact hu
 have r:∀{u:Int×Int},u∈ps.filter (λp=>decide (p∉wys x y z))↔u∈ps/\u∉wys x y z:=λ{u}=>by simp[Ap]
 have J:((wys x y z).map sw).Nodup:=by
  rw[Ac6,Ae0];refine M.imp λ{a b} U e=>U ?_
  unfold sw at e;simp only[Dk]at e;exact Prod.ext e.2 e.1
 have c:∀(b:Int),((wys x y z).filter (λu=>decide (u.1=b))).length+((ps.filter (λp=>decide (p∉wys x y z))).filter (λu=>decide (u.1=b))).length<=(ps.filter (λu=>decide (u.1=b))).length:=λb=>by
  rw[<- Ab7];refine aV7 (Aa4.mpr ⟨List.Pairwise.filter _ M,List.Pairwise.filter _ (List.Pairwise.filter _ h.nd),λu hu v Y e=>?_⟩) λu hu=>?_
  .subst e;exact(r.mp (Ap.mp Y).1).2 (Ap.mp hu).1
  .rcases Aa0.mp hu with hu | hu
   .exact Ap.mpr ⟨j u (Ap.mp hu).1,(Ap.mp hu).2⟩
   .exact Ap.mpr ⟨(r.mp (Ap.mp hu).1).1,(Ap.mp hu).2⟩
 have X:∀b:Int,(((wys x y z).map sw).filter (λu=>decide (u.1=b))).length=((wys x y z).filter (λu=>decide (u.1=b))).length:=λb=>by
  unfold wys sw;simp only[Ac7,Dj,List.filter_cons,List.filter_nil,Ak];by_cases R:z=b <;> by_cases Q:x=b <;> by_cases D:y=b <;> simp[R,Q,D]
 refine⟨?_,?_,λu hu=>?_,λu hu=>?_,λu hu hn=>?_,λb=>?_⟩
 .refine Aa4.mpr ⟨List.Pairwise.filter _ h.nd,J,λu hu v Y e=>?_⟩
  subst e;obtain⟨p,q⟩:=u;exact h.anti _ (j _ (k Y)) (r.mp hu).1
 .unfold tw;rw[Ab7,Aa3]
  have:((wys x y z)++ps.filter (λp=>decide (p∉wys x y z))).length<=ps.length:=aV7 (Aa4.mpr ⟨M,List.Pairwise.filter _ h.nd,λu hu v Y e=>by subst e;exact(r.mp Y).2 hu⟩) λu hu=>(Aa0.mp hu).elim (j u) λhu=>(r.mp hu).1
  rw[Ab7]at this
  have:=h.len;lia
 .rcases Aa0.mp hu with hu | hu
  .exact h.lo u (r.mp hu).1
  .obtain⟨p,q⟩:=u;have s:=k hu;have F:=h.lo _ m1;have B:=h.lo _ m2;have P:=h.lo _ m3;simp only[wys,Aa1,Ac2,or_false,Dk]at s;dsimp only at F B P ⊢
   lia
 .rcases Aa0.mp hu with hu | hu
  .exact h.tie u (r.mp hu).1
  .obtain⟨p,q⟩:=u;have s:=j _ (k hu);exact dI7 N (h.tie _ s) ⟨(h.lo _ s).2.2.1,(h.lo _ s).2.2.2⟩
 .obtain⟨p,q⟩:=u;rcases Aa0.mp hu with hu | hu
  .rcases Aa0.mp hn with hn | hn
   .exact h.anti _ (r.mp hu).1 (r.mp hn).1
   .exact(r.mp hu).2 (k hn)
  .rcases Aa0.mp hn with hn | hn
   .exact(r.mp hn).2 (k hu)
   .exact h.anti _ (j _ (k hu)) (j _ (k hn))
 .unfold tw;rw[Dr,Ab7,X b]
  have:=c b;have:=h.out b;lia
theorem dM3 {l:AC}(h:∀v∈l,v.length=3):∀v∈l,v≠[]:=λv y e=>by have:=h v y;rw[e]at this;cases this
theorem dR2 {ps:List (Int×Int)}:∀v∈rgL ps,v.length=3:=λv e=>by obtain⟨a,b,c,rfl,_⟩:=rgL_mem.mp e;rfl
theorem dQ4 {ps:List (Int×Int)}{i:Nat}{d:PyData}(h:(ps.map pD)[i]? = some d):d=pD (gp ps i)/\i<ps.length:=by
 rw[Aa9]at h;obtain⟨x,e,rfl⟩:=Cm.mp h;have hi:=(Ab0.mp e).1;rw[aQ4 hi]at e;exact⟨by rw[Ab4 e],hi⟩
def fNi (G:List (Int×Int)):PyData->Option PyData
 | .tuple [.int p,.int q]=>if(p,q)∈G then none else some (tI [p,q])
 | _=>none
theorem cW5 (G ps:List (Int×Int)):(ps.map pD).filterMap (fNi G)=(ps.filter λp=>decide (p∉G)).map pD:=by
 rw[Aw,<- List.filterMap_eq_map,List.filterMap_filter];refine K3 λx _=>?_
 show(if(x.1,x.2)∈G then none else some (tI [x.1,x.2]))=_
 by_cases h:x∈G
 .have:(x.1,x.2)∈G:=h
  rw[Ac this];simp[h]
 .have:¬(x.1,x.2)∈G:=h
  rw[Ab this];simp[h];rfl
def fSw:PyData->Option PyData
 | .tuple [.int p,.int q]=>some (tI [q,p])
 | _=>none
theorem cW2 (ps:List (Int×Int)):(ps.map pD).filterMap fSw=(ps.map sw).map pD:=by
 rw[Aw,Ae3,<- List.filterMap_eq_map];exact K3 λx _=>rfl
theorem cU8 {m:Nat}{dr tr:AA}(w:Dw m dr tr){p q:Int}(h:td dr p q=true):∃p' q':Nat,p=(p':Int)/\q=(q':Int)/\q'∈TT.trn dr p':=by
 unfold td at h;simp only[Aj,Ak]at h;obtain⟨⟨h1,z⟩,e⟩:=h;obtain⟨q',y,rfl⟩:=Aa8.mp e;exact⟨p.toNat,q',by lia,rfl,y⟩
theorem AI.step {m:Nat}{dr tr:AA}(k:Dw m dr tr){ps:List (Int×Int)}(r:AI dr ps){v:AF}(j:v∈rgL ps):∃x y z:Int,v=[x,y,z]/\AI dr (sp (tw ps (wys x y z))):=by
 obtain⟨x,y,z,rfl,c,p,q,_,_⟩:=rgL_mem.mp j;have e:∀w∈wys x y z,w∈ps:=λw e=>by
  simp only[wys,Aa1,Ac2,or_false]at e;rcases e with rfl | rfl | rfl
  .exact q
  .exact c
  .exact p
 exact⟨x,y,z,rfl,(r.turn k e).perm (cQ9 _)⟩
def cL7 (ds:AG)(d:PyData):Prop:=∃(ps:List (Int×Int)) (x y z:Int),ps.length<=1000/\ds=[.tuple (ps.map pD),tI [x,y,z]]/\d=.bool ((wys x y z).all λw=>decide (w∈ps))
def fGo (ps:List (Int×Int)):PyData->Option PyData
 | .tuple [.int p,.int q]=>some (.bool (decide ((p,q)∈ps)))
 | _=>none
theorem cS4 (ps e:List (Int×Int)):(e.map pD).filterMap (fGo ps)=(e.map λw=>decide (w∈ps)).map PyData.bool:=by
 rw[Aw,Ae3,<- List.filterMap_eq_map];exact K3 λx _=>rfl
theorem bH8:D9 ["arrows", "ring"] ["arrows", "ring"] (B2 aD4):=⟨rfl,rfl,rfl,by decide +kernel,rfl,by decide +kernel,by decide +kernel⟩
def rp1 (n:Nat)(ps:List (Int×Int))(x:Int×Int):AC:=if x.1<x.2 then((List.range ((n:Int)-(x.1+1)).toNat).map λ(i:Nat)=>x.1+1+(i:Int)).filterMap λc=>if(wys x.1 x.2 c).all λw=>decide (w∈ps) then some [x.1,x.2,c] else none else []
def rgP (n:Nat)(ps:List (Int×Int)):AC:=ga (λi=>rp1 n ps (gp ps i)) ps.length
theorem wys_all {ps:List (Int×Int)}{x y z:Int}:((wys x y z).all λw=>decide (w∈ps))=true↔(z,x)∈ps/\(x,y)∈ps/\(y,z)∈ps:=by
 simp[wys]
theorem bX6 {n:Nat}{ps:List (Int×Int)}{x:Int×Int}{v:AF}:v∈rp1 n ps x↔∃c,v=[x.1,x.2,c]/\x.1<x.2/\x.1<c/\c<(n:Int)/\(c,x.1)∈ps/\(x.1,x.2)∈ps/\(x.2,c)∈ps:=by
 unfold rp1;by_cases h:x.1<x.2
 .rw[Ac h,List.mem_filterMap];constructor
  .rintro⟨c,hc,e⟩;obtain⟨i,hi,rfl⟩:=Aa8.mp hc;have hi:=Ab5.mp hi;split at e
   .rename_i h';obtain⟨h1,w,y⟩:=wys_all.mp h';exact⟨_,(Ab4 e).symm,h,by lia,by lia,h1,w,y⟩
   .cases e
  .rintro⟨c,rfl,_,h1,w,y,h4,h5⟩;exact⟨c,Aa8.mpr ⟨(c-(x.1+1)).toNat,Ab5.mpr (by lia),by lia⟩,Ac (wys_all.mpr ⟨y,h4,h5⟩)⟩
 .rw[Ab h];constructor
  .intro h';cases h'
  .rintro⟨c,_,h',_⟩;exact absurd h' h
theorem cH3 {n:Nat}{ps:List (Int×Int)}(x:Int×Int):(rp1 n ps x).Nodup:=by
 unfold rp1;split
 .refine List.Pairwise.filterMap (R:=λa b=>a≠b) _ (λa b y u w v z e=>?_) ?_
  .split at w
   .split at z
    .rw[<- Ab4 w,<- Ab4 z]at e;simp at e;exact y e
    .cases z
   .cases w
  .rw[Ae0];exact By.imp λh e=>h (by lia)
 .exact List.nodup_nil
theorem bA2 {dr:AA}{ps:List (Int×Int)}(h:AI dr ps):(rgL ps).Perm (rgP dr.length ps):=by
 unfold rgL rgP;refine bD1 λi hi=>(List.perm_ext_iff_of_nodup (cJ5 h.nd _) (cH3 _)).mpr λv=>?_
 rw[rl1_mem,bX6];have y:gp ps i∈ps:=Az (aQ4 hi);constructor
 .rintro⟨c,e,h1,h2,h3,h4⟩;exact⟨c,e,h3,h4,(h.lo _ h2).2.1,h2,y,h1⟩
 .rintro⟨c,e,h1,h2,h3,h4,h5,h6⟩;exact⟨c,e,h6,h4,h1,h2⟩
theorem cS3 {dr:AA}{ps:List (Int×Int)}(h:AI dr ps):(rgP dr.length ps).length<64:=by rw[<- (bA2 h).length_eq];exact bA7 h
theorem sc_rings:D9 ["drawing", "arrows", "found", "a", "b"] ["drawing", "arrows"] (B2 bE8):=⟨rfl,rfl,rfl,by decide +kernel,rfl,by decide +kernel,by decide +kernel⟩
def cY3 (ds es:AG):Prop:=∃(dr:AA) (ps:List (Int×Int)),AI dr ps/\dr.length<=1000/\ds=[.tuple (dr.map tN),.tuple (ps.map pD)]/\es=(bN1 (rgL ps)).map tI
def fRg (n:Nat)(ps:List (Int×Int))(x:Int×Int):PyData->Option PyData
 | .int c=>if(wys x.1 x.2 c).all λw=>decide (w∈ps) then some (tI [x.1,x.2,c]) else none
 | _=>none
theorem sc_turned:D9 ["drawing", "arrows", "ring", "ways", "others"] ["drawing", "arrows", "ring"] (B2 aR5):=⟨rfl,rfl,rfl,by decide +kernel,rfl,by decide +kernel,by decide +kernel⟩
def cO2 (ds:AG)(d:PyData):Prop:=∃(m:Nat) (dr tr:AA) (ps:List (Int×Int)) (x y z:Nat),Dw m dr tr/\Tri dr x y z/\ps.length<=60/\ds=[.tuple (dr.map tN),.tuple (ps.map pD),tI [(x:Int),y,z]]/\(∀w∈wys x y z,w∈ps)/\d=.tuple ((sp (tw ps (wys x y z))).map pD)
section
variable {P:Program}{w:World}{K:Frag}{mg:Str->Option Value}{base:Heap}{a:Ad}
theorem bV9 (T:Tx K mg a):E9 P w K mg base CX0 1 a.l4 a.k8 ["ring"] (spL K bT3):=by
 refine T.p5.ok aU8 (cD5 λds d ⟨_,_,_,e,_⟩=>by rw[e];rfl) (λc A k s H vs Q E J h=>?_)
 obtain⟨ds,S,U,Y,r,⟨x,y,z,rfl,rfl⟩,q⟩:=h;refine⟨_,(A9 (E8 (M1 (T:=["k"]) (N':=["k", "ring"]) (is:=[0]) rfl (.of rfl rfl rfl (by exact⟨rfl,trivial⟩) rfl rfl rfl (by exact⟨⟨_,rfl,by first | exact .inl rfl | exact .inr rfl,by first | exact .inl rfl | exact .inr rfl⟩,trivial⟩)) (J9 rfl T.K6 (A1 (B0 (aD5 K) (by rfl) T.N5 Ar (A1 (pv 0) A2)) A2)) (L6 (by decide)) λ_ _ _ _=>⟨(B7 (i:=0) (by decide +kernel:(["k", "ring"]:AJ).Nodup) rfl (Or.inl rfl)),M8,(E2 (A1 (B9 (ixK K) (pv 1) (B4 S1 (pv 0) A6) (λ_ _=>rfl)) (A1 (B9 (ixK K) (pv 1) (pv 0) (λ_ _=>rfl)) A2)))⟩))),aR8 Y r ?_ q⟩
 have p:=K5 (K:=K) (m:=true) (ρ:=sl0 ["ring"].length [tI [x,y,z]]) (n:=1) (is:=[0]) (g:=G5 0) (tt:=aE1) (te:=aM6 (C0 (tOp (rIx K) (E1 1) (tOp (rI0 λi j=>.int (i-j)) (E1 0) (tC (.int 1)))) (C0 (tOp (rIx K) (E1 1) (E1 0)) O1))) (fWy x y z) (T3 (j:=3) (A3 (U2 (ds:=[.int x,.int y,.int z]) (A3 (A4 (i:=0) rfl) A7)) A7) (by lia) (by lia)) (by decide) (λd X=>by
  obtain⟨i,hi⟩:=List.mem_iff_getElem?.mp X;obtain⟨rfl,hi⟩:=T0 hi;refine⟨_,C8,Z1,?_⟩;have hi:i<3:=by lia
  rcases (show i=0\/i=1\/i=2 by lia) with rfl | rfl | rfl
  .exact M3 (A3 (F6 (i:=((0:Nat):Int)-1) (d':=.int z) (ds:=[.int x,.int y,.int z]) (A4 (i:=1) rfl) (L9 (g:=λi j=>i-j) (A4 (i:=0) rfl) A8) rfl rfl) (A3 (F6 (i:=0) (d':=.int x) (ds:=[.int x,.int y,.int z]) (A4 (i:=1) rfl) (A4 (i:=0) rfl) rfl rfl) A7))
  .exact M3 (A3 (F6 (i:=((1:Nat):Int)-1) (d':=.int x) (ds:=[.int x,.int y,.int z]) (A4 (i:=1) rfl) (L9 (g:=λi j=>i-j) (A4 (i:=0) rfl) A8) rfl rfl) (A3 (F6 (i:=1) (d':=.int y) (ds:=[.int x,.int y,.int z]) (A4 (i:=1) rfl) (A4 (i:=0) rfl) rfl rfl) A7))
  .exact M3 (A3 (F6 (i:=((2:Nat):Int)-1) (d':=.int y) (ds:=[.int x,.int y,.int z]) (A4 (i:=1) rfl) (L9 (g:=λi j=>i-j) (A4 (i:=0) rfl) A8) rfl rfl) (A3 (F6 (i:=2) (d':=.int z) (ds:=[.int x,.int y,.int z]) (A4 (i:=1) rfl) (A4 (i:=0) rfl) rfl rfl) A7)))
 exact aT7 p rfl
theorem dO8 (T:Tx K mg a):E9 P w K mg base CX0 2 a.y4 a.aA0 ["drawing", "ring"] (spL K dS6):=by
 have k:E9 P w K mg base CX0 1 _ _ _ _:=bV9 T
 have j:E9 P w K mg base CX0 1 _ _ _ _:=bW5 T
 refine T.aL7.ok sc_ring_ways (cD5 λds d ⟨_,_,_,_,_,_,_,_,e,_⟩=>by rw[e];rfl) (λM A Y s H vs Q E J h=>?_)
 obtain⟨ds,S,F,R,r,⟨m,c,tr,x,y,z,p,X,rfl,rfl⟩,q⟩:=h;refine⟨_,(A5 (B5 (i:=2) sc_ring_ways.nd rfl (Or.inl rfl) (C6 k (J.mono (by decide)) rfl T.aH2 T.p5.kp T.aG2 .nil G6 (A1 (pv 1) A2)))
   (A5 (U8 (aA5 (W2 (B0 (aA8 K rfl) (by rfl) T.aY5 boot_all (A1 (M1 (T:=["p", "q"]) (N':=["p", "q", "drawing"]) (is:=[0]) rfl (.of rfl rfl rfl (by exact⟨rfl,trivial⟩) rfl rfl rfl (by exact⟨⟨_,rfl,by first | exact .inl rfl | exact .inr rfl,by first | exact .inl rfl | exact .inr rfl⟩,trivial⟩)) (S0 (pv 2)) (dI2 (by decide) (by decide)) λ_ _ _ _=>⟨(aK6 (n:=2) rfl (N2 (B7 (i:=0) (by decide +kernel:(["p", "q", "drawing"]:AJ).Nodup) rfl (Or.inl rfl)) (N2 (B7 (i:=1) (by decide +kernel:(["p", "q", "drawing"]:AJ).Nodup) rfl (Or.inl rfl)) aB5))),M8,(C6 j (J.mono (by decide)) rfl T.cM4 T.bO0.kp T.cG0 .nil G6 (A1 (pv 2) (A1 (pv 0) (A1 (pv 1) A2))))⟩) A2)))) aW9 M0)
   (A9 (E8 (pv 2))))),aR8 R r ?_ q⟩
 refine B1 (G3 (ds:=(rgW x y z).map λz=>pD (cI z)) (aB1 (A3 (A4 (i:=1) rfl) A7) ⟨(x:Int),(y:Int),(z:Int),rfl,rfl⟩) ?_ (show 2<3 by decide))
 have U:=K5 (K:=K) (m:=false) (ρ:=[.val (.tuple (c.map tN)),.val (tN [x,y,z]),.own ((rgW x y z).map λz=>pD (cI z))]) (n:=2) (is:=[0]) (g:=bR7 K 2 (Z3 (G5 0) (Z3 (G5 1) bE7))) (tt:=aE1) (te:=X9 (spV K aO1) [] E0 (C0 (E1 2) (C0 (E1 0) (C0 (E1 1) O1)))) (fTd c) (W9 (G7 (i:=2) rfl)) (show 3<sizeLine by decide) (λd D=>by
   obtain⟨u,B,rfl⟩:=Aa8.mp D;exact⟨_,aY8 (ds:=[.int (u.1:Int),.int (u.2:Int)]) (P5 C8 (P5 C8 aL3)),Z1,H9 (A3 (A4 (i:=2) rfl) (A3 (LV.E.imm (Y1 (i:=0) rfl)) (A3 (LV.E.imm (Y1 (i:=1) rfl)) A7))) ⟨c,(u.1:Int),(u.2:Int),rfl,rfl⟩⟩)
 have N:((rgW x y z).map λz=>pD (cI z)).filterMap (fTd c)=[true,true,true].map PyData.bool:=by
  show [PyData.bool (td c (z:Int) (x:Int)),PyData.bool (td c (x:Int) (y:Int)),PyData.bool (td c (y:Int) (z:Int))]=_
  rw[p.td X.2.2,p.td X.1,p.td X.2.1];rfl
 rw[N]at U;refine B1 (aJ7 (b := !true) (aL8 (t_b (bU7 (l:=[true,true,true]) (A3 (EF.e' U) A7)))) (λh=>by cases h) (λh=>O7 ?_))
 exact cQ4 rfl rfl
theorem dA2 (T:Tx K mg a):E9 P w K mg base CX0 2 a.aD8 a.aF1 ["arrows", "ring"] (spV K cL7):=by
 have k:E9 P w K mg base CX0 1 _ _ _ _:=bV9 T
 refine T.aE6.ok bH8 (v6 λds d ⟨_,_,_,_,_,e,_⟩=>by rw[e];rfl) (λY A j s H vs Q E p h=>?_)
 obtain⟨ds,S,d,U,r,⟨ps,x,y,z,M,rfl,rfl⟩,q⟩:=h;refine⟨_,(A9 (E8 (B0 (aA8 K rfl) (by rfl) T.aY5 boot_all (A1 (M1 (T:=["way"]) (N':=["way", "arrows"]) (is:=[0]) rfl (.of rfl rfl rfl (by exact⟨rfl,trivial⟩) rfl rfl rfl (by exact⟨⟨_,rfl,by first | exact .inl rfl | exact .inr rfl,by first | exact .inl rfl | exact .inr rfl⟩,trivial⟩)) (S0 (C6 k (p.mono (by decide)) rfl T.aH2 T.p5.kp T.aG2 .nil G6 (A1 (pv 1) A2))) (L6 (by decide)) λ_ _ _ _=>⟨(B7 (i:=0) (by decide +kernel:(["way", "arrows"]:AJ).Nodup) rfl (Or.inl rfl)),M8,(aG0 (cP1 K p) (pv 0) (pv 1) rfl)⟩) A2)))),O0 U r ?_ q⟩
 have c:=K5 (K:=K) (m:=true) (ρ:=sl0 ["arrows", "ring"].length [.tuple (ps.map pD),tI [x,y,z]]) (n:=1) (is:=[0]) (g:=G5 0) (tt:=aE1) (te:=tOp (bQ8 K false) (E1 0) (E1 1)) (fGo ps) (W9 (EF.e' (aB1 (pre:=bT3) (es:=(wys x y z).map pD) (X:=E0) (A3 (A4 (i:=1) rfl) A7) ⟨x,y,z,rfl,rfl⟩))) (show 3<sizeLine by decide) (λd J=>by
  obtain⟨u,N,rfl⟩:=Aa8.mp J;refine⟨_,C8,Z1,?_⟩;have e:=dB6 (K:=K) (m:=true) (ρ:=(slC (sl0 ["arrows", "ring"].length [.tuple (ps.map pD),tI [x,y,z]]) 1 [0]).set 0 (.val (pD u))) (A4 (i:=0) rfl) (A4 (i:=1) rfl) (ds:=ps.map pD) rfl (aR6 u).fit (dG9 ps);rw[cH0]at e;exact e)
 rw[cS4]at c;refine S3 (bU7 (A3 (EF.e' c) A7)) ?_;show PyData.bool _=.bool _;rw[List.all_map];rfl
theorem dO9 (T:Tx K mg a):E9 P w K mg base CX0 3 a.bG5 a.bE2 ["drawing", "arrows"] (spL K cY3):=by
 have z:E9 P w K mg base CX0 2 _ _ _ _:=dA2 T
 refine T.bY5.ok sc_rings (cD5 λds d ⟨_,_,_,_,e,_⟩=>by rw[e];rfl) (λcdv A B s H vs Q E hr h=>?_)
 obtain⟨ds,S,es,hS,r,⟨y,ps,p,hdl,rfl,rfl⟩,q⟩:=h;refine⟨_,(A5 (B5 (i:=2) sc_rings.nd rfl (Or.inl rfl) (C5 A2))
   (A5 (O8 Au rfl (z6 (pv 1)) (aK6 (n:=2) rfl (N2 (B7 (i:=3) sc_rings.nd rfl (Or.inr rfl)) (N2 (B7 (i:=4) sc_rings.nd rfl (Or.inr rfl)) aB5))) (A9 (U8 (F9 aT2 (pv 3) (pv 4) (K4 _)) (A9 (F8 (L8 Ab1 PySem.F.slot_list_extend PySem.F.type_list_extend aA6 (pv 2) (A1 (M1 (T:=["c"]) (N':=["c", "arrows", "a", "b"]) (is:=[1,3,4]) rfl (.of rfl rfl rfl (by exact⟨rfl,rfl,rfl,trivial⟩) rfl rfl rfl (by exact⟨⟨_,rfl,by first | exact .inl rfl | exact .inr rfl,by first | exact .inl rfl | exact .inr rfl⟩,⟨_,rfl,by first | exact .inl rfl | exact .inr rfl,by first | exact .inl rfl | exact .inr rfl⟩,⟨_,rfl,by first | exact .inl rfl | exact .inr rfl,by first | exact .inl rfl | exact .inr rfl⟩,trivial⟩)) (aY6 rfl T.K6 (A1 (B4 G4 (pv 3) A6) (A1 (B0 (aD5 K) (by rfl) T.N5 Ar (A1 (pv 0) A2)) A2))) (L6 (by decide)) λ_ _ _ _=>⟨(B7 (i:=0) (by decide +kernel:(["c", "arrows", "a", "b"]:AJ).Nodup) rfl (Or.inl rfl)),(y2 (W2 (C6 z (hr.mono (by decide)) rfl T.aS9 T.aE6.kp T.aS4 .nil G6 (A1 (pv 1) (A1 (E2 (A1 (pv 2) (A1 (pv 3) (A1 (pv 0) A2)))) A2))))),(E2 (A1 (pv 2) (A1 (pv 3) (A1 (pv 0) A2))))⟩) A2)))) M0)))
   (A9 (E8 (B0 (t5 K) (by rfl) T.R3 boot_sorted (A1 (pv 2) A2)))))),aR8 hS r ?_ q⟩
 have hl:=p.len
 have J:∀i,i<=ps.length->(ga (λi=>rp1 y.length ps (gp ps i)) i).length<=63:=λi hi=>by
  have:=(bD1 (n:=i) λj hj=>(show(rl1 ps (gp ps j)).Perm (rp1 y.length ps (gp ps j)) from ?_)).length_eq
  .have:=cM2 p hi;lia
  .refine(List.perm_ext_iff_of_nodup (cJ5 p.nd _) (cH3 _)).mpr λv=>?_
   rw[rl1_mem,bX6];have hm:gp ps j∈ps:=Az (aQ4 (by lia))
   constructor
   .rintro⟨c,e,h1,h2,h3,h4⟩;exact⟨c,e,h3,h4,(p.lo _ h2).2.1,h2,hm,h1⟩
   .rintro⟨c,e,h1,h2,h3,h4,h5,h6⟩;exact⟨c,e,h6,h4,h1,h2⟩
 have Y:((y.map tN).length:Int)=(y.length:Int):=by rw[Aa3]
 refine B1 (G3 (F5 A7) ?_ (show 2<5 by decide))
 refine B1 (U7 (aM3 (ds:=ps.map pD) (A4 rfl)) (λi ρ=>∃M N,(M.nb=true/\N.nb=true)/\ρ=[.val (.tuple (y.map tN)),.val (.tuple (ps.map pD)),.own ((ga (λi=>rp1 y.length ps (gp ps i)) i).map tI),M,N]) ⟨.no,.no,⟨rfl,rfl⟩,rfl⟩ ?_ ?_)
 .rintro i d _ R ⟨M,N,⟨b3,b4⟩,rfl⟩;obtain⟨rfl,hi⟩:=dQ4 R;have D:=p.lo _ (Az (aQ4 hi));have hp1:=J i (by lia)
  have U:=J (i+1) (by lia)
  rw[U9]at U;generalize hx:gp ps i=x at D U;refine⟨_,aY8 (P5 C8 (P5 C8 aL3)),?_⟩;show W K _ [.val (.tuple (y.map tN)),.val (.tuple (ps.map pD)),.own ((ga (λi=>rp1 y.length ps (gp ps i)) i).map tI),.val (.int x.1),.val (.int x.2)] _
  refine aJ7 (J8 (y7 (A4 rfl) (A4 rfl))) (λh=>?_) (λh=>O7 ?_)
  .have h:x.1<x.2:=As h
   have cm:=K5 (K:=K) (m:=true) (ρ:=[.val (.tuple (y.map tN)),.val (.tuple (ps.map pD)),.own ((ga (λi=>rp1 y.length ps (gp ps i)) i).map tI),.val (.int x.1),.val (.int x.2)]) (n:=1) (is:=[1,3,4]) (g:=G5 0) (tt:=tB (X9 (spV K cL7) [] E0 (C0 (E1 1) (C0 (aM6 (C0 (E1 2) (C0 (E1 3) (C0 (E1 0) O1)))) O1)))) (te:=aM6 (C0 (E1 2) (C0 (E1 3) (C0 (E1 0) O1)))) (fRg y.length ps x) (cI9 (i:=x.1+1) (j:=((y.map tN).length:Int)) (A3 (L9 (g:=λi j=>i+j) (A4 (i:=3) rfl) A8) (A3 (U2 (ds:=y.map tN) (A3 (A4 (i:=0) rfl) A7)) A7)) (by rw[Y];lia)) (by rw[P4,Y];unfold sizeLine;lia) (λd R=>by
    obtain⟨k,hk⟩:=List.mem_iff_getElem?.mp R;obtain⟨rfl,hk⟩:=cT7 hk;refine⟨_,C8,?_⟩;have tt:=t_b (K:=K) (H9 (K:=K) (m:=false) (ρ:=(slC [.val (.tuple (y.map tN)),.val (.tuple (ps.map pD)),.own ((ga (λi=>rp1 y.length ps (gp ps i)) i).map tI),.val (.int x.1),.val (.int x.2)] 1 [1,3,4]).set 0 (.val (.int (x.1+1+(k:Int))))) (pre:=cL7) (X:=E0) (A3 (A4 (i:=1) rfl) (A3 (M3 (A3 (A4 (i:=2) rfl) (A3 (A4 (i:=3) rfl) (A3 (A4 (i:=0) rfl) A7)))) A7)) ⟨ps,x.1,x.2,x.1+1+(k:Int),by lia,rfl,rfl⟩)
    unfold fRg;dsimp only;cases hb:(wys x.1 x.2 (x.1+1+(k:Int))).all λw=>decide (w∈ps) with
    | true=>rw[hb]at tt;exact⟨tt,M3 (A3 (A4 (i:=2) rfl) (A3 (A4 (i:=3) rfl) (A3 (A4 (i:=0) rfl) A7)))⟩
    | false=>rw[hb]at tt;exact tt)
   have ef:(R8 (x.1+1) (((y.map tN).length:Int)-(x.1+1)).toNat).filterMap (fRg y.length ps x)=(rp1 y.length ps x).map tI:=by
    unfold rp1 R8;rw[Ac h,Y,Aw,List.map_filterMap,Aw];refine K3 λk _=>?_
    show(if(wys x.1 x.2 (x.1+1+(k:Int))).all λw=>decide (w∈ps) then some (tI [x.1,x.2,x.1+1+(k:Int)]) else none)=_
    dsimp only[Function.comp]
    split <;> rfl
   rw[ef]at cm;refine aB9 rfl cm ?_ ⟨.val (.int x.1),.val (.int x.2),⟨rfl,rfl⟩,?_⟩
   .rw[Ab7]at U;rw[Aa3,Aa3];unfold sizeLine;lia
   .rw[U9,hx,Ad2];rfl
  .have h:¬x.1<x.2:=Ay h
   refine⟨.val (.int x.1),.val (.int x.2),⟨rfl,rfl⟩,?_⟩
   have:rp1 y.length ps x=[]:=by unfold rp1;rw[Ab h]
   rw[U9,hx,this,Bj]
 rintro _ ⟨M,N,_,rfl⟩;rw[Aa3];exact aT7 (aQ6 (ts:=rgP y.length ps) (ss:=bN1 (rgL ps)) (A3 (G7 rfl) A7) (dM3 λv hv=>dR2 v ((bA2 p).mem_iff.mpr hv)) (cS3 p) ((V0 _).trans (bA2 p)) (aB4 _)) rfl
theorem bZ4 (T:Tx K mg a):E9 P w K mg base CX0 3 a.aT4 a.aT9 ["drawing", "arrows", "ring"] (spV K cO2):=by
 have k:E9 P w K mg base CX0 2 _ _ _ _:=dO8 T
 have j:E9 P w K mg base CX0 2 _ _ _ _:=dA2 T
 refine T.bM2.ok sc_turned (v6 λds d ⟨_,_,_,_,_,_,_,_,_,_,e,_⟩=>by rw[e];rfl) (λcdv A M s H vs Q E J h=>?_)
 obtain⟨ds,S,d,hS,r,⟨m,Y,tr,ps,N,R,D,dw,t3,hl,rfl,c,rfl⟩,q⟩:=h;refine⟨_,(A5 (B5 (i:=3) sc_turned.nd rfl (Or.inr rfl) (C6 k (J.mono (by decide)) rfl T.bI9 T.aL7.kp T.bK2 .nil G6 (A1 (pv 0) (A1 (pv 2) A2))))
   (A5 (U8 (aA5 (W2 (C6 j (J.mono (by decide)) rfl T.aS9 T.aE6.kp T.aS4 .nil G6 (A1 (pv 1) (A1 (pv 2) A2))))) aW9 M0)
   (A5 (aP0 (i:=4) sc_turned.nd rfl rfl (T:=["way"]) (N':=["way", "ways"]) (is:=[3]) rfl (.of rfl rfl rfl (by exact⟨rfl,trivial⟩) rfl rfl rfl (by exact⟨⟨_,rfl,by first | exact .inl rfl | exact .inr rfl,by first | exact .inl rfl | exact .inr rfl⟩,trivial⟩)) (z6 (pv 1)) (L6 (by decide)) λ_ _ _ _=>⟨(B7 (i:=0) (by decide +kernel:(["way", "ways"]:AJ).Nodup) rfl (Or.inl rfl)),(y2 (F9 (aW5 K J) (pv 0) (pv 1) rfl)),(pv 0)⟩)
   (A9 (E8 (Q3 (dJ2 K) (by rfl) T.P6 boot_tuple (A1 (B0 (t5 K) (by rfl) T.R3 boot_sorted (A1 (B4 (N4 K) (pv 4) (M1 (T:=["p", "q"]) (N':=["p", "q"]) (is:=[]) rfl (.of rfl rfl rfl (by exact trivial) rfl rfl rfl (by exact trivial)) (S0 (pv 3)) (dI2 (by decide) (by decide)) λ_ _ _ _=>⟨(aK6 (n:=2) rfl (N2 (B7 (i:=0) (by decide +kernel:(["p", "q"]:AJ).Nodup) rfl (Or.inl rfl)) (N2 (B7 (i:=1) (by decide +kernel:(["p", "q"]:AJ).Nodup) rfl (Or.inl rfl)) aB5))),M8,(E2 (A1 (pv 1) (A1 (pv 0) A2)))⟩)) A2)) A2))))))),O0 hS r ?_ q⟩
 refine B1 (G3 (ds:=(wys (N:Int) R D).map pD) (aB1 (A3 (A4 (i:=0) rfl) (A3 (A4 (i:=2) rfl) A7)) ⟨m,Y,tr,N,R,D,dw,t3,rfl,rfl⟩) ?_ (show 3<5 by decide))
 generalize (N:Int)=x at c ⊢;generalize (R:Int)=y at c ⊢;generalize (D:Int)=z at c ⊢;show W K _ [.val (.tuple (Y.map tN)),.val (.tuple (ps.map pD)),.val (tI [x,y,z]),.own ((wys x y z).map pD),.no] _;refine B1 (aJ7 (b := !((wys x y z).all λw=>decide (w∈ps))) (aL8 (t_b (H9 (A3 (A4 (i:=1) rfl) (A3 (A4 (i:=2) rfl) A7)) ⟨ps,x,y,z,by lia,rfl,rfl⟩))) (λX=>?_) (λX=>O7 ?_))
 .have:((wys x y z).all λw=>decide (w∈ps))=true:=Ac9.mpr λw hw=>Bu (c w hw)
  rw[this]at X;cases X
 generalize hG:wys x y z=G at c ⊢;have B:=K5 (K:=K) (m:=true) (ρ:=[.val (.tuple (Y.map tN)),.val (.tuple (ps.map pD)),.val (tI [x,y,z]),.own (G.map pD),.no]) (n:=1) (is:=[3]) (g:=G5 0) (tt:=bU3 (tOp (bQ8 K true) (E1 0) (E1 1))) (te:=E1 0) (fNi G) (aM3 (ds:=ps.map pD) (A4 (i:=1) rfl)) (by rw[Aa3];unfold sizeLine;lia) (λd U=>by
  obtain⟨u,hu,rfl⟩:=Aa8.mp U;refine⟨_,C8,?_⟩;have e:=bM9 (K:=K) (m:=false) (ρ:=(slC [.val (.tuple (Y.map tN)),.val (.tuple (ps.map pD)),.val (tI [x,y,z]),.own (G.map pD),.no] 1 [3]).set 0 (.val (pD u))) (A4 (i:=0) rfl) (Y1 (i:=1) rfl) (ds:=G.map pD) rfl (aR6 u).fit (dJ5 G);rw[cH0]at e;show match (if(u.1,u.2)∈G then none else some (tI [u.1,u.2])) with | none=>_ | some y=>_
  by_cases h:u∈G
  .rw[Ac h];rw[Bu h]at e;exact J8 e
  .rw[Ab h];rw[Ao h]at e;exact⟨J8 e,A4 rfl⟩)
 rw[cW5]at B;refine B1 (G3 B ?_ (show 4<5 by decide))
 show W K _ [.val (.tuple (Y.map tN)),.val (.tuple (ps.map pD)),.val (tI [x,y,z]),.own (G.map pD),.own ((ps.filter λp=>decide (p∉G)).map pD)] _
 have g3:G.length=3:=by rw[<- hG];rfl
 have F:=K5 (K:=K) (m:=false) (ρ:=[.val (.tuple (Y.map tN)),.val (.tuple (ps.map pD)),.val (tI [x,y,z]),.own (G.map pD),.own ((ps.filter λp=>decide (p∉G)).map pD)]) (n:=2) (is:=[]) (g:=bR7 K 2 (Z3 (G5 0) (Z3 (G5 1) bE7))) (tt:=aE1) (te:=aM6 (C0 (E1 1) (C0 (E1 0) O1))) fSw (W9 (ds:=G.map pD) (G7 (i:=3) rfl)) (by rw[Aa3,g3];decide) (λd U=>by
  obtain⟨u,hu,rfl⟩:=Aa8.mp U;exact⟨_,aY8 (P5 C8 (P5 C8 aL3)),Z1,M3 (A3 (LV.E.imm (Y1 (i:=1) rfl)) (A3 (LV.E.imm (Y1 (i:=0) rfl)) A7))⟩)
 rw[cW2]at F;have lf:(ps.filter λp=>decide (p∉G)).length<=60:=An (List.length_filter_le _ _) hl
 have e3:(G.map sw).length=3:=by rw[Aa3,g3]
 have ec:=bB1 (K:=K) (G7 (i:=4) rfl) (EF.e' F) (aB3 _) (aB3 _) (by rw[Aa3,Aa3,e3];unfold sizeLine;lia)
 rw[<- Ad2]at ec;have es:=bL0 (K:=K) (A3 (EF.e' ec) A7) (by rw[Ab7,e3];lia)
 exact S3 (j8 (A3 (EF.e' es) A7) (aB3 _)) rfl
end
set_option maxHeartbeats 4000000
def bP6 (x:Nat):AD->AD
 | []=>[x]
 | y::l=>cond (Nat.ble x y) (x::y::l) (y::bP6 x l)
def isN:AD->AD
 | []=>[]
 | x::l=>bP6 x (isN l)
def aQ3 (x:Nat):AD->Bool
 | []=>false
 | y::l=>cond (Nat.beq x y) true (aQ3 x l)
def eqN:AD->AD->Bool
 | [],[]=>true
 | x::l,y::r=>cond (Nat.beq x y) (eqN l r) false
 | _,_=>false
def bJ4 (x:AD):AA->Bool
 | []=>false
 | y::l=>cond (eqN x y) true (bJ4 x l)
theorem ble_iff {a b:Nat}:Nat.ble a b=true↔a<=b:=⟨Nat.le_of_ble_eq_true,Nat.ble_eq_true_of_le⟩
theorem beq_iff {a b:Nat}:Nat.beq a b=true↔a=b:=⟨Nat.eq_of_beq_eq_true,λh=>by rw[h];exact Nat.beq_refl b⟩
theorem cQ1 {a b:Nat}(h:Nat.ble a b=false):b<a:=by
 refine Nat.lt_of_not_le λz=>?_
 rw[ble_iff.mpr z]at h;cases h
theorem aL2 (x:Nat):∀l,(bP6 x l).Perm (x::l)
 | []=>.refl _
 | y::l=>by
  unfold bP6;cases Nat.ble x y with
  | true=>exact .refl _
  | false=>exact((aL2 x l).cons y).trans (.swap x y l)
theorem O9:∀l,(isN l).Perm l
 | []=>.refl _
 | x::l=>(aL2 x (isN l)).trans ((O9 l).cons x)
theorem bM0 (x:Nat):∀l:AD,l.Pairwise (· <= ·)->(bP6 x l).Pairwise (· <= ·)
 | [],_=>by simp[bP6]
 | y::l,h=>by
  unfold bP6;cases e:Nat.ble x y with
  | true=>
   refine Ae1.mpr ⟨λz hz=>?_,h⟩
   rcases Aa1.mp hz with rfl | hz
   .exact ble_iff.mp e
   .exact An (ble_iff.mp e) ((Ae1.mp h).1 z hz)
  | false=>
   refine Ae1.mpr ⟨λz hz=>?_,bM0 x l (Ae1.mp h).2⟩
   rcases Aa1.mp ((aL2 x l).mem_iff.mp hz) with rfl | hz
   .exact Bw (cQ1 e)
   .exact(Ae1.mp h).1 z hz
theorem aN3:∀l:AD,(isN l).Pairwise (· <= ·)
 | []=>.nil
 | x::l=>bM0 x _ (aN3 l)
theorem hasN_iff {x:Nat}:∀{l:AD},aQ3 x l=true↔x∈l
 | []=>by simp[aQ3]
 | y::l=>by
  unfold aQ3;cases e:Nat.beq x y with
  | true=>simp[Nat.eq_of_beq_eq_true e]
  | false=>
   have:x≠y:=Nat.ne_of_beq_eq_false e
   simp[this,hasN_iff (l:=l)]
theorem eqN_iff:∀{l r:AD},eqN l r=true↔l=r
 | [],[]=>by simp[eqN]
 | [],_::_=>by simp[eqN]
 | _::_,[]=>by simp[eqN]
 | x::l,y::r=>by
  unfold eqN;cases e:Nat.beq x y with
  | true=>simp[Nat.eq_of_beq_eq_true e,eqN_iff (l:=l)]
  | false=>
   have:x≠y:=Nat.ne_of_beq_eq_false e
   simp[this]
theorem bN4 {x:AD}:∀{l:AA},bJ4 x l=true↔x∈l
 | []=>by simp[bJ4]
 | y::l=>by
  unfold bJ4;cases e:eqN x y with
  | true=>simp[eqN_iff.mp e]
  | false=>
   have:x≠y:=λz=>by rw[eqN_iff.mpr z]at e;cases e
   simp[this,bN4 (l:=l)]
def dc (e:Nat):Int×Int:=(((e / 16:Nat):Int),((e % 16:Nat):Int))
theorem aZ8 {a b:Nat}(h:dc a=dc b):a=b:=by
 have h1:=congrArg Prod.fst h
 have e:=congrArg Prod.snd h
 simp only[dc]at h1 e
 lia
theorem aA2 {p q:Nat}(h:q<16):dc (16*p+q)=((p:Int),(q:Int)):=by
 unfold dc;rw[show(16*p+q) / 16=p by lia,show(16*p+q) % 16=q by lia]
theorem dc_mem {e:Nat}{A:AD}:dc e∈A.map dc↔e∈A:=by
 constructor
 .intro h;obtain⟨x,y,e'⟩:=Aa8.mp h;exact aZ8 e'▸y
 .exact λh=>Aa8.mpr ⟨e,h,rfl⟩
theorem cK5 {a b:Nat}(h:a<=b):F1 (toL (dc a)) (toL (dc b)):=by
 unfold F1 toL dc;dsimp only;rw[HT.S6,HT.S6];split
 .split
  .rfl
  .exact Ao (by lia)
 .exact Ao (by lia)
theorem cG3 (A:AD):sp (A.map dc)=(isN A).map dc:=by
 unfold sp;have e:bN1 ((A.map dc).map toL)=((isN A).map dc).map toL:=List.Perm.eq_of_pairwise (le:=F1) (λx y _ _ h1 w=>W7 x y h1 w) (aB4 _) (Ae0.mpr (Ae0.mpr ((aN3 A).imp λh=>cK5 h))) ((V0 _).trans (((O9 A).symm.map dc).map toL))
 rw[e,Ae3];exact(Al λx _=>rfl).trans (Dy _)
def d3 (t:Nat):AF:=[((t / 256:Nat):Int),((t / 16 % 16:Nat):Int),((t % 16:Nat):Int)]
theorem dP4 {a b:Nat}(h:a<=b):F1 (d3 a) (d3 b):=by
 unfold F1 d3;rw[HT.S6,HT.S6,HT.S6];split
 .split
  .split
   .rfl
   .exact Ao (by lia)
  .exact Ao (by lia)
 .exact Ao (by lia)
theorem dD0 (T:AD):bN1 (T.map d3)=(isN T).map d3:=
 List.Perm.eq_of_pairwise (le:=F1) (λx y _ _ h1 e=>W7 x y h1 e) (aB4 _) (Ae0.mpr ((aN3 T).imp λh=>dP4 h)) ((V0 _).trans ((O9 T).symm.map d3))
def cX4 (A:AD)(e:Nat):AD:=A.filterMap λe'=>cond (Nat.beq (e' / 16) (e % 16)&&(aQ3 (16*(e' % 16)+e / 16) A&&(Nat.ble (e / 16+1) (e % 16)&&Nat.ble (e / 16+1) (e' % 16)))) (some (256*(e / 16)+16*(e % 16)+e' % 16)) none
def rgN (A:AD):AD:=(A.map (cX4 A)).flatten
theorem dH2 {A:AD}{e:Nat}(k:e<256):rl1 (A.map dc) (dc e)=(cX4 A e).map d3:=by
 unfold rl1 cX4;rw[Aw,List.map_filterMap];refine K3 λe' r=>?_
 have y:(((dc e').1=(dc e).2/\((dc e').2,(dc e).1)∈A.map dc/\(dc e).1<(dc e).2/\(dc e).1<(dc e').2))↔(Nat.beq (e' / 16) (e % 16)&&(aQ3 (16*(e' % 16)+e / 16) A&&(Nat.ble (e / 16+1) (e % 16)&&Nat.ble (e / 16+1) (e' % 16))))=true:=by
  rw[Aj,Aj,Aj,hasN_iff,ble_iff,ble_iff,beq_iff];have w:((dc e').2,(dc e).1)=dc (16*(e' % 16)+e / 16):=(aA2 (by lia)).symm
  rw[w,dc_mem];simp only[dc];exact and_congr (by lia) (and_congr Iff.rfl (and_congr (by lia) (by lia)))
 show(if _ then some [(dc e).1,(dc e).2,(dc e').2] else none)=_
 by_cases h:((dc e').1=(dc e).2/\((dc e').2,(dc e).1)∈A.map dc/\(dc e).1<(dc e).2/\(dc e).1<(dc e').2)
 .rw[Ac h,y.mp h];show some _=some (d3 _);unfold d3;rw[show(256*(e / 16)+16*(e % 16)+e' % 16) / 256=e / 16 by lia,show(256*(e / 16)+16*(e % 16)+e' % 16) / 16 % 16=e % 16 by lia,show(256*(e / 16)+16*(e % 16)+e' % 16) % 16=e' % 16 by lia]
  rfl
 .rw[Ab h,Bool.eq_false_iff.mpr λz=>h (y.mpr z)]
  rfl
theorem dM0 {α:Type}(g:Int×Int->List α)(ps:List (Int×Int)):ga (λi=>g (gp ps i)) ps.length=(ps.map g).flatten:=by
 unfold ga
 congr 1
 refine List.ext_getElem? λi=>?_
 rw[Aa9,Aa9];by_cases h:i<ps.length
 .rw[List.getElem?_range h,aQ4 h];rfl
 .rw[Ad6 (by simpa using h),Ad6 (by lia)];rfl
theorem aS7 {A:AD}(y:∀e∈A,e<256):rgL (A.map dc)=(rgN A).map d3:=by
 unfold rgL rgN;rw[dM0 (λx=>rl1 (A.map dc) x),List.map_flatten,Ae3,Ae3]
 congr 1
 exact Al λe w=>dH2 (y e w)
def wN (t:Nat):AD:=[16*(t % 16)+t / 256,16*(t / 256)+t / 16 % 16,16*(t / 16 % 16)+t % 16]
def wN' (t:Nat):AD:=[16*(t / 256)+t % 16,16*(t / 16 % 16)+t / 256,16*(t % 16)+t / 16 % 16]
def tuN (A:AD)(t:Nat):AD:=isN (A.filter (λe => !aQ3 e (wN t))++wN' t)
theorem dE4 {t:Nat}(h:t / 256<16):wys ((t / 256:Nat):Int) ((t / 16 % 16:Nat):Int) ((t % 16:Nat):Int)=(wN t).map dc:=by
 unfold wys wN;show _=[_,_,_];rw[aA2 h,aA2 (by lia),aA2 (by lia)]
theorem cV8 {t:Nat}(h:t / 256<16):(wys ((t / 256:Nat):Int) ((t / 16 % 16:Nat):Int) ((t % 16:Nat):Int)).map sw=(wN' t).map dc:=by
 unfold wys wN';show [_,_,_]=[_,_,_];rw[aA2 h,aA2 (by lia),aA2 (by lia)]
 rfl
theorem dB1 {A:AD}{t:Nat}(h:t / 256<16):sp (tw (A.map dc) (wys ((t / 256:Nat):Int) ((t / 16 % 16:Nat):Int) ((t % 16:Nat):Int)))=(tuN A t).map dc:=by
 unfold tw tuN;rw[cV8 h,dE4 h,List.filter_map,<- Ad2,<- cG3]
 congr 3
 refine List.filter_congr λe _=>?_
 show decide (dc e∉(wN t).map dc)=_
 rw[Cc,Ak,Bool.not_eq_true',Bool.eq_false_iff,Ne,hasN_iff,dc_mem]
def aE9 (A:AD):AA:=(isN (rgN A)).map (tuN A)
def cQ3 (L X:AA):AA:=X.filter λx => !bJ4 x L
def aF4 (L:AA)(k:Nat):AA:=L++cQ3 L (aE9 (L.getD k []))
def flN:Nat->Nat->AA->AA
 | 0,_,L=>L
 | f+1,k,L=>cond (Nat.ble (k+1) L.length) (flN f (k+1) (aF4 L k)) L
theorem bD3:∀f k L,L.length<=(flN f k L).length
 | 0,_,_=>Aa7 _
 | f+1,k,L=>by
  unfold flN;cases Nat.ble (k+1) L.length with
  | true=>
   refine An ?_ (bD3 f (k+1) (aF4 L k));unfold aF4;rw[Ab7];lia
  | false=>exact Aa7 _
def opN (x:AD×AD)(p q:Nat):List (AD×AD):=cond (Nat.ble 3 p&&Nat.ble (x.2.count p) 2) [(x.1++[16*p+q],x.2++[p])] []
def stN (L:List (AD×AD))(p q:Nat):List (AD×AD):=cond (Nat.ble (p+1) q&&Nat.ble 3 q) ((L.map λx=>opN x p q++opN x q p).flatten) L
def gpN (dr:AA)(i:Nat):List (Nat×Nat):=ga (λp=>(TT.trn dr p).map λq=>(p,q)) i
def vsN (T:List (Nat×Nat)):List (AD×AD):=T.foldl (λL x=>stN L x.1 x.2) [([],[])]
def leL:AD->AD->Bool
 | [],_=>true
 | _::_,[]=>false
 | x::l,y::r=>cond (Nat.beq x y) (leL l r) (Nat.ble x y)
def bR0 (x:AD):AA->AA
 | []=>[x]
 | y::l=>cond (leL x y) (x::y::l) (y::bR0 x l)
def isL:AA->AA
 | []=>[]
 | x::l=>bR0 x (isL l)
def eqL:AA->AA->Bool
 | [],[]=>true
 | x::l,y::r=>cond (eqN x y) (eqL l r) false
 | _,_=>false
theorem bW6:∀{l r:AA},eqL l r=true->l=r
 | [],[],_=>rfl
 | [],_::_,h=>by cases h
 | _::_,[],h=>by cases h
 | x::l,y::r,h=>by
  unfold eqL at h;cases e:eqN x y with
  | true=>rw[e]at h;rw[eqN_iff.mp e,bW6 (l:=l) h]
  | false=>rw[e]at h;cases h
def A0 (dr:AA):AD:=isN ((OUT dr).2.map λx=>16*x.1+x.2)
def aiB (dr:AA)(A:AD):Bool:=Nat.ble A.length 21&&(decide A.Nodup&&(A.all λe=>Nat.ble 3 (e / 16)&&(Nat.ble (e / 16+1) dr.length&&(Nat.ble (e % 16+1) dr.length&&(aQ3 (e % 16) (TT.trn dr (e / 16))&&(!aQ3 (16*(e % 16)+e / 16) A&&Nat.ble (A.filter λx=>Nat.beq (x / 16) (e / 16)).length 3))))))
theorem dK5 {dr:AA}{A:AD}(U:dr.length<=16)(h:aiB dr A=true):AI dr (A.map dc):=by
 unfold aiB at h;rw[Aj,Aj,ble_iff,Ak,Ac9]at h;obtain⟨h1,Y,X⟩:=h;have k:∀e∈A,3<=e / 16/\e / 16<dr.length/\e % 16<dr.length/\e % 16∈TT.trn dr (e / 16)/\16*(e % 16)+e / 16∉A/\(A.filter λx=>Nat.beq (x / 16) (e / 16)).length<=3:=λe y=>by
  have:=X e y
  simp only[Aj,ble_iff,hasN_iff]at this;obtain⟨w,r,j,c,p,q⟩:=this;refine⟨w,r,j,c,λz=>?_,q⟩
  rw[hasN_iff.mpr z]at p;cases p
 refine⟨?_,by rw[Aa3];exact h1,?_,?_,?_,?_⟩
 .exact Ae0.mpr (Y.imp λs z=>s (aZ8 z))
 .intro x hx;obtain⟨e,y,rfl⟩:=Aa8.mp hx;obtain⟨w,r,j,_⟩:=k e y;simp only[dc];lia
 .intro x hx;obtain⟨e,y,rfl⟩:=Aa8.mp hx;obtain⟨w,r,j,c,_⟩:=k e y;unfold td dc;simp only[Aj,Ak,Ac8];exact⟨⟨by lia,by lia⟩,Aa8.mpr ⟨_,c,rfl⟩⟩
 .intro x hx z;obtain⟨e,y,rfl⟩:=Aa8.mp hx;obtain⟨w,r,j,c,p,_⟩:=k e y;refine p (dc_mem.mp ?_);rw[aA2 (by lia)]
  exact z
 .intro b;rw[List.filter_map,Aa3];by_cases m:∃e∈A,(dc e).1=b
  .obtain⟨e,y,rfl⟩:=m;obtain⟨w,r,j,c,p,q⟩:=k e y;refine An (Nat.le_of_eq ?_) q
   congr 1
   refine List.filter_congr λx _=>?_
   show decide ((dc x).1=(dc e).1)=_
   rw[Cc,Ak,beq_iff];simp only[dc];lia
  .have:A.filter ((λx:Int×Int=>decide (x.1=b)) ∘ dc)=[]:=List.filter_eq_nil_iff.mpr λe y z=>m ⟨e,y,As z⟩
   rw[this];simp
def fN (x:Nat)(k:Nat->Bool):Bool:=Nat.rec (motive:=λ_=>Bool) (k 0) (λn _=>k n.succ) x
def fL:AD->(AD->Bool)->Bool
 | [],k=>k []
 | x::l,k=>fN x λy=>fL l λr=>k (y::r)
def fLL:AA->(AA->Bool)->Bool
 | [],k=>k []
 | x::l,k=>fL x λy=>fLL l λr=>k (y::r)
theorem dL5 (x:Nat)(k:Nat->Bool):fN x k=k x:=by cases x <;> rfl
theorem bV0:∀l k,fL l k=k l
 | [],k=>rfl
 | x::l,k=>by unfold fL;rw[dL5,bV0 l]
theorem aR1:∀l k,fLL l k=k l
 | [],k=>rfl
 | x::l,k=>by unfold fLL;rw[bV0,aR1 l]
def FF (dr:AA):AA:=flN 4 0 [A0 dr]
def VV (dr:AA):AA:=(vsN (gpN dr dr.length)).map λx=>isN x.1
def aC8 (x:Nat×Nat):Bool:=Nat.ble (x.1+1) x.2&&Nat.ble 3 x.2
def cdN (x:Nat×Nat):Nat:=cond (Nat.ble x.2 15) (16*x.1+x.2) 4096
def ck (dr:AA):Bool:=fLL dr λdr=>fL ((OUT dr).2.map cdN) λZ=>(Z.all λe=>Nat.ble e 4095)&&(fL (isN Z) λA=>aiB dr A&&(fLL (flN 4 0 [A]) λF=>fLL ((vsN (gpN dr dr.length)).map λx=>x.1) λW=>((Nat.ble F.length 3&&(Nat.ble F.length 1||F.all λA=>Nat.ble 1 A.length))&&(Nat.ble W.length 3&&(W.all λw=>Nat.ble w.length 0||Nat.ble 2 w.length)))&&(Nat.ble ((gpN dr dr.length).filter aC8).length 12&&eqL (isL F) (isL (W.map isN)))))
structure Ck (dr:AA):Prop where
 o:∀x∈(OUT dr).2,x.2<16
 ai:AI dr ((A0 dr).map dc)
 fl:(FF dr).length<=3
 ne:(FF dr).length<2\/∀A∈FF dr,A≠[]
 vl:(VV dr).length<=3
 v2:∀x∈vsN (gpN dr dr.length),x.1=[]\/2<=x.1.length
 vt:((gpN dr dr.length).filter aC8).length<=12
 eq:isL (FF dr)=isL (VV dr)
theorem dL9 {dr:AA}(Y:dr.length<=16)(h:ck dr=true):Ck dr:=by
 unfold ck at h;rw[aR1,bV0,Aj,bV0,Aj,aR1,aR1,Aj,Aj,Aj,Aj,Aj,Di,Ac9,Ac9,Ac9,ble_iff,ble_iff,ble_iff,ble_iff,Aa3]at h;obtain⟨h1,w,⟨⟨r,k⟩,p,q⟩,s,j⟩:=h;have o:∀x∈(OUT dr).2,x.2<16:=λx y=>by
  have:=ble_iff.mp (h1 _ (Aa8.mpr ⟨x,y,rfl⟩))
  unfold cdN at this;cases e:Nat.ble x.2 15 with
  | true=>have:=ble_iff.mp e;lia
  | false=>rw[e]at this;exact absurd (show 4096<=4095 from this) (by decide)
 have c:(OUT dr).2.map cdN=(OUT dr).2.map λx=>16*x.1+x.2:=Al λx y=>by
  unfold cdN;rw[ble_iff.mpr (show x.2<=15 by have:=o x y;lia)];rfl
 rw[c]at w r k j;refine⟨o,dK5 Y w,r,k.imp (λz=>Nat.lt_succ_of_le z) (λz A m e=>?_),by unfold VV;rw[Aa3];exact p,λx y=>?_,s,?_⟩
 .have:=ble_iff.mp (z A m)
  rw[e]at this;exact absurd this (by decide)
 .have:=q x.1 (Aa8.mpr ⟨x,y,rfl⟩)
  rw[Di,ble_iff,ble_iff]at this;exact this.imp (λz=>List.eq_nil_of_length_eq_zero (by lia)) id
 .have:=bW6 j
  rw[Ae3]at this;exact this
set_option maxHeartbeats 1000000
def dG8 (F G:Nat->Nat)(m:Nat):Bool:=(List.range m).all λi=>decide (TT.pv F i<=F i)&&decide (F i<=i)&&decide (TT.pv G i<=G i)&&decide (G i<=F i)
theorem aZ4 {F F' G G':Nat->Nat}:∀{m:Nat},(∀j,j<m->F j=F' j/\G j=G' j)->TT.gst F G m=TT.gst F' G' m
 | 0,_=>rfl
 | m+1,h=>by
  have y:=aZ4 (m:=m) λj w=>h j (by lia)
  have e:=h m (Nat.lt_succ_self m)
  have hp:TT.pv F m=TT.pv F' m/\TT.pv G m=TT.pv G' m:=by
   cases m with
   | zero=>exact⟨rfl,rfl⟩
   | succ k=>exact h k (by lia)
  show(TT.gst F G m).step (F m-TT.pv F m) (G m-TT.pv G m)=(TT.gst F' G' m).step (F' m-TT.pv F' m) (G' m-TT.pv G' m)
  rw[y,e.1,e.2,hp.1,hp.2]
def FL (l:AD)(j:Nat):Nat:=l.getD j 0
theorem dA6 (F:Nat->Nat)(m:Nat):∀j,j<m->F j=FL ((List.range m).map F) j:=λj e=>by
 unfold FL;rw[Ac0,Aa9,List.getElem?_range e];rfl
def al:Nat->AA
 | 0=>[[]]
 | k+1=>(al k).flatMap λl=>(List.range (k+1)).map λa=>l++[a]
theorem bR2 (F:Nat->Nat):∀m,(∀j,j<m->F j<=j)->(List.range m).map F∈al m
 | 0,_=>by simp[al]
 | m+1,h=>by
  have e:=bR2 F m λj y=>h j (by lia)
  show _∈(al m).flatMap _
  refine List.mem_flatMap.mpr ⟨_,e,Aa8.mpr ⟨F m,Ab5.mpr (by have:=h m (Nat.lt_succ_self m);lia),?_⟩⟩
  rw[Bq,Ad2];rfl
theorem dS4 {F G:Nat->Nat}{m:Nat}(R:TT.Rws F G m):dG8 F G m=true:=by
 unfold dG8;rw[Ac9];intro i hi;have hi:=Ab5.mp hi;simp only[Aj,Ak];exact⟨⟨⟨R.f1 i hi,R.f2 i hi⟩,R.g1 i hi⟩,R.g2 i hi⟩
theorem bZ5 {F F' G G':Nat->Nat}{m:Nat}(h:∀j,j<m->F j=F' j/\G j=G' j)(R:TT.Rws F G m):TT.Rws F' G' m:=by
 have hp:∀i,i<m->TT.pv F i=TT.pv F' i/\TT.pv G i=TT.pv G' i:=λi hi=>by
  cases i with
  | zero=>exact⟨rfl,rfl⟩
  | succ k=>exact h k (by lia)
 exact⟨λi hi=>by rw[<- (hp i hi).1,<- (h i hi).1];exact R.f1 i hi,λi hi=>by rw[<- (h i hi).1];exact R.f2 i hi,λi hi=>by rw[<- (hp i hi).2,<- (h i hi).2];exact R.g1 i hi,λi hi=>by rw[<- (h i hi).1,<- (h i hi).2];exact R.g2 i hi⟩
def pm:Nat->Nat->AA
 | _,0=>[[]]
 | m,k+1=>((pm m k).map λl=>((List.range m).filter λa => !aQ3 (a+3) l).map λa=>l++[a+3]).flatten
def rwL (F G:Nat->Nat)(m:Nat):AA:=(List.range (m+3)).map (TT.gst F G m).row
def drM (R:AA)(nl:AD):AA:=(List.range nl.length).map λp=>TT.U1 ((R.getD (nl.idxOf p) []).map λu=>nl.getD u 0)
def cX5 (m:Nat)(x:AD×AD):Bool:=fLL (rwL (FL x.1) (FL x.2) m) λR=>(pm m m).all λg=>ck (drM R ([0,1,2]++g))
def prC (m:Nat):List (AD×AD):=((al m).flatMap λl=>(al m).map λk=>(l,k)).filter λx=>dG8 (FL x.1) (FL x.2) m
def pr4:List (AD×AD):=[([0,0,0,0],[0,0,0,0]),([0,0,0,1],[0,0,0,0]),([0,0,0,1],[0,0,0,1]),([0,0,0,2],[0,0,0,0]),([0,0,0,2],[0,0,0,1]),([0,0,0,2],[0,0,0,2]),([0,0,0,3],[0,0,0,0]),([0,0,0,3],[0,0,0,1]),([0,0,0,3],[0,0,0,2]),([0,0,0,3],[0,0,0,3]),([0,0,1,1],[0,0,0,0]),([0,0,1,1],[0,0,0,1]),([0,0,1,1],[0,0,1,1]),([0,0,1,2],[0,0,0,0]),([0,0,1,2],[0,0,0,1]),([0,0,1,2],[0,0,0,2]),([0,0,1,2],[0,0,1,1]),([0,0,1,2],[0,0,1,2]),([0,0,1,3],[0,0,0,0]),([0,0,1,3],[0,0,0,1]),([0,0,1,3],[0,0,0,2]),([0,0,1,3],[0,0,0,3]),([0,0,1,3],[0,0,1,1]),([0,0,1,3],[0,0,1,2]),([0,0,1,3],[0,0,1,3]),([0,0,2,2],[0,0,0,0]),([0,0,2,2],[0,0,0,1]),([0,0,2,2],[0,0,0,2]),([0,0,2,2],[0,0,1,1]),([0,0,2,2],[0,0,1,2]),([0,0,2,2],[0,0,2,2]),([0,0,2,3],[0,0,0,0]),([0,0,2,3],[0,0,0,1]),([0,0,2,3],[0,0,0,2]),([0,0,2,3],[0,0,0,3]),([0,0,2,3],[0,0,1,1]),([0,0,2,3],[0,0,1,2]),([0,0,2,3],[0,0,1,3]),([0,0,2,3],[0,0,2,2]),([0,0,2,3],[0,0,2,3]),([0,1,1,1],[0,0,0,0]),([0,1,1,1],[0,0,0,1]),([0,1,1,1],[0,0,1,1]),([0,1,1,1],[0,1,1,1]),([0,1,1,2],[0,0,0,0]),([0,1,1,2],[0,0,0,1]),([0,1,1,2],[0,0,0,2]),([0,1,1,2],[0,0,1,1]),([0,1,1,2],[0,0,1,2]),([0,1,1,2],[0,1,1,1]),([0,1,1,2],[0,1,1,2]),([0,1,1,3],[0,0,0,0]),([0,1,1,3],[0,0,0,1]),([0,1,1,3],[0,0,0,2]),([0,1,1,3],[0,0,0,3]),([0,1,1,3],[0,0,1,1]),([0,1,1,3],[0,0,1,2]),([0,1,1,3],[0,0,1,3]),([0,1,1,3],[0,1,1,1]),([0,1,1,3],[0,1,1,2]),([0,1,1,3],[0,1,1,3]),([0,1,2,2],[0,0,0,0]),([0,1,2,2],[0,0,0,1]),([0,1,2,2],[0,0,0,2]),([0,1,2,2],[0,0,1,1]),([0,1,2,2],[0,0,1,2]),([0,1,2,2],[0,0,2,2]),([0,1,2,2],[0,1,1,1]),([0,1,2,2],[0,1,1,2]),([0,1,2,2],[0,1,2,2]),([0,1,2,3],[0,0,0,0]),([0,1,2,3],[0,0,0,1]),([0,1,2,3],[0,0,0,2]),([0,1,2,3],[0,0,0,3]),([0,1,2,3],[0,0,1,1]),([0,1,2,3],[0,0,1,2]),([0,1,2,3],[0,0,1,3]),([0,1,2,3],[0,0,2,2]),([0,1,2,3],[0,0,2,3]),([0,1,2,3],[0,1,1,1]),([0,1,2,3],[0,1,1,2]),([0,1,2,3],[0,1,1,3]),([0,1,2,3],[0,1,2,2]),([0,1,2,3],[0,1,2,3])]
theorem dC6:prC 4=pr4:=by decide +kernel
theorem dF6:∀m,m<4->(prC m).all (cX5 m)=true:=by decide +kernel
def pcC (j:Nat):Bool:=((pr4.drop (4*j)).take 4).all (cX5 4)
theorem pc0:pcC 0=true:=by decide +kernel
theorem pc1:pcC 1=true:=by decide +kernel
theorem pc2:pcC 2=true:=by decide +kernel
theorem pc3:pcC 3=true:=by decide +kernel
theorem pc4:pcC 4=true:=by decide +kernel
theorem pc5:pcC 5=true:=by decide +kernel
theorem pc6:pcC 6=true:=by decide +kernel
theorem pc7:pcC 7=true:=by decide +kernel
theorem pc8:pcC 8=true:=by decide +kernel
theorem pc9:pcC 9=true:=by decide +kernel
theorem dV1:pcC 10=true:=by decide +kernel
theorem dV2:pcC 11=true:=by decide +kernel
theorem dV0:pcC 12=true:=by decide +kernel
theorem dU4:pcC 13=true:=by decide +kernel
theorem dU8:pcC 14=true:=by decide +kernel
theorem dU6:pcC 15=true:=by decide +kernel
theorem dT0:pcC 16=true:=by decide +kernel
theorem dU2:pcC 17=true:=by decide +kernel
theorem dT3:pcC 18=true:=by decide +kernel
theorem dU9:pcC 19=true:=by decide +kernel
theorem dU1:pcC 20=true:=by decide +kernel
theorem dL2:∀j,j<21->pcC j=true
 | 0,_=>pc0
 | 1,_=>pc1
 | 2,_=>pc2
 | 3,_=>pc3
 | 4,_=>pc4
 | 5,_=>pc5
 | 6,_=>pc6
 | 7,_=>pc7
 | 8,_=>pc8
 | 9,_=>pc9
 | 10,_=>dV1
 | 11,_=>dV2
 | 12,_=>dV0
 | 13,_=>dU4
 | 14,_=>dU8
 | 15,_=>dU6
 | 16,_=>dT0
 | 17,_=>dU2
 | 18,_=>dT3
 | 19,_=>dU9
 | 20,_=>dU1
 | _+21,h=>absurd h (by lia)
theorem dI3 {m:Nat}(r:m<5){x:AD×AD}(y:x∈prC m):cX5 m x=true:=by
 by_cases w:m<4
 .exact Ac9.mp (dF6 m w) x y
 .have e:m=4:=by lia
  subst e;rw[dC6]at y;obtain⟨i,hi,rfl⟩:=List.getElem_of_mem y;have z:i<84:=hi;refine Ac9.mp (dL2 (i / 4) (by lia)) _ ?_
  have:((pr4.drop (4*(i / 4))).take 4)[i-4*(i / 4)]? = some pr4[i]:=by
   rw[Ds,Ac (by lia),List.getElem?_drop,show 4*(i / 4)+(i-4*(i / 4))=i by lia]
   exact Aa2 hi
  exact Az this
theorem cL0 {m:Nat}{f:Nat->Nat}(N:TT.Nm (m+3) f):∀k,k<=m->((List.range k).map λv=>f (v+3))∈pm m k
 | 0,_=>by simp[pm]
 | k+1,hk=>by
  have w:=cL0 N k (by lia)
  unfold pm;have r:3<=f (k+3):=by
   have:=(N.lo (by lia) (q:=k+3) (by lia))
   lia
  have j:=N.lt (k+3) (by lia)
  refine List.mem_flatten.mpr ⟨_,Aa8.mpr ⟨_,w,rfl⟩,Aa8.mpr ⟨f (k+3)-3,Ap.mpr ⟨Ab5.mpr (by lia),?_⟩,?_⟩⟩
  .rw[Bool.not_eq_true',Bool.eq_false_iff,Ne,hasN_iff];intro z;obtain⟨v,y,e⟩:=Aa8.mp z;have y:=Ab5.mp y
   have:=N.inj (v+3) (k+3) (by lia) (by lia) (by lia)
   lia
  .rw[Bq,Ad2,show f (k+3)-3+3=f (k+3) by lia];rfl
theorem dS3 {m:Nat}{f:Nat->Nat}(N:TT.Nm (m+3) f):(List.range (m+3)).map f=[0,1,2]++(List.range m).map λv=>f (v+3):=by
 rw[show m+3=3+m by lia,List.range_add,Ad2,Ae3]
 show [f 0,f 1,f 2]++_=_
 rw[N.c0,N.c1,N.c2]
 congr 1
 exact Al λv _=>by show f (3+v)=f (v+3);rw[Nat.add_comm]
theorem dR5 {m:Nat}{f:Nat->Nat}(N:TT.Nm (m+3) f){v:Nat}(w:v<m+3):((List.range (m+3)).map f).idxOf (f v)=v:=by
 have nd:((List.range (m+3)).map f).Nodup:=Ae0.mpr (By.imp_of_mem λ{a b} r k e z=>e (N.inj a b (Ab5.mp r) (Ab5.mp k) z))
 have j:f v∈(List.range (m+3)).map f:=Aa8.mpr ⟨v,Ab5.mpr w,rfl⟩
 have hi:=Ac4 j
 have y:=List.getElem_idxOf hi
 rw[Aa3,Bo]at hi;rw[List.getElem_map,List.getElem_range]at y;exact N.inj _ _ hi w y
theorem dN0 {F G f:Nat->Nat}{m:Nat}{d t:AA}(B:TT.Bt F G m f d t):d=drM (rwL F G m) ((List.range (m+3)).map f):=by
 have w:=TT.aQ7 B.R
 refine List.ext_getElem? λp=>?_
 unfold drM;rw[Aa9,Aa3,Bo];by_cases hp:p<m+3
 .obtain⟨v,y,rfl⟩:=B.N.surj p hp;rw[B.dr v y,List.getElem?_range hp];show _=some (TT.U1 _);rw[dR5 B.N y]
  congr 2
  unfold rwL;rw[Ac0,Aa9,List.getElem?_range y];refine Al λu e=>?_
  have e:=w.lt v u e
  rw[Ac0,Aa9,List.getElem?_range e];rfl
 .rw[Ad6 (by rw[B.dl];lia),Ad6 (by rw[Bo];lia)]
  rfl
theorem cA9 {F F' G G':Nat->Nat}{m:Nat}(h:∀j,j<m->F j=F' j/\G j=G' j):rwL F G m=rwL F' G' m:=by unfold rwL;rw[aZ4 h]
theorem dO3 {F G f:Nat->Nat}{m:Nat}{d t:AA}(B:TT.Bt F G m f d t)(z:m<5):Ck d:=by
 have y:=dA6 F m
 have w:=dA6 G m
 have R:=B.R
 have r:((List.range m).map F,(List.range m).map G)∈prC m:=Ap.mpr ⟨List.mem_flatMap.mpr ⟨_,bR2 F m R.f2,Aa8.mpr ⟨_,bR2 G m λj e=>An (R.g2 j e) (R.f2 j e),rfl⟩⟩,dS4 (bZ5 (λj e=>⟨y j e,w j e⟩) R)⟩
 have h:=dI3 z r
 unfold cX5 at h;rw[aR1]at h;have h:=Ac9.mp h _ (cL0 B.N m (Aa7 m));rw[<- dS3 B.N,<- cA9 (λj e=>⟨y j e,w j e⟩),<- dN0 B]at h
 exact dL9 (by rw[B.dl];lia) h
theorem Dw.ck {m:Nat}{dr tr:AA}(e:Dw m dr tr)(y:m<5):Ck dr:=by
 obtain⟨_,_,_,_,B⟩:=e;exact dO3 B y
end K40
namespace LV
open PySem PySem.Spec PyProof.Rows L2 PySem.W Att
def nLt:AC->AC->Bool
 | [],[]=>false
 | [],_::_=>true
 | _::_,[]=>false
 | x::l,y::r=>if x=y then nLt l r else HT.M7 x y
def nLe (a b:AC):Prop:=nLt b a=false
theorem cD2:∀a b,nLt a b=true->nLt b a=false
 | [],[],h=>by cases h
 | [],_::_,_=>rfl
 | _::_,[],h=>by cases h
 | x::l,y::r,h=>by
  unfold nLt at h ⊢;by_cases e:x=y
  .rw[Ac e]at h;rw[Ac e.symm];exact cD2 l r h
  .rw[Ab e]at h;rw[Ab λz=>e z.symm];exact aH9 _ _ h
theorem bC2:∀a b c,nLe a b->nLe b c->nLe a c
 | [],_,[],_,_=>rfl
 | [],_,_::_,_,_=>rfl
 | _::_,[],_,h,_=>by cases h
 | _::_,_::_,[],_,h=>by cases h
 | x::l,y::r,z::t,h1,h2=>by
  unfold nLe at *;unfold nLt at h1 h2 ⊢;by_cases e:y=x
  .rw[Ac e]at h1;subst e;by_cases w:z=y
   .rw[Ac w]at h2 ⊢;exact bC2 l r t h1 h2
   .rw[Ab w]at h2 ⊢;exact h2
  .rw[Ab e]at h1;by_cases w:z=y
   .subst w;rw[Ab e];exact h1
   .rw[Ab w]at h2;by_cases k:z=x
    .subst k;exact absurd (W7 z y h1 h2).symm e
    .rw[Ab k];exact Z5 x y z h1 h2
theorem cM7:∀a b,nLe a b->nLe b a->a=b
 | [],[],_,_=>rfl
 | [],_::_,_,h=>by cases h
 | _::_,[],h,_=>by cases h
 | x::l,y::r,h1,h2=>by
  unfold nLe at *;unfold nLt at h1 h2;by_cases e:x=y
  .rw[Ac e.symm]at h1;rw[Ac e]at h2;rw[e,cM7 l r h1 h2]
  .rw[Ab λz=>e z.symm]at h1;rw[Ab e]at h2
   exact absurd (W7 x y h1 h2) e
theorem dP0 (ts:Nat->AC):LS.Ord λi j=>nLt (ts i) (ts j):=⟨λa b h=>cD2 _ _ h,λa b c h1 e=>bC2 _ _ _ h1 e⟩
section
variable {P:Program}{w:World}{A:Around}{s:Shared}{Q:Bool->Shared->Prop}
theorem aX6 {a:Addr}{its:AK}{x:AF}(h:IsTup s.heap a its)(r:IntsAre its.toList x):Reads s.heap (.ref a) (tI x) []:=by
 obtain⟨o,h1,e,n,y⟩:=h;exact .tuple h1 e y (ints_readAll s.heap r)
theorem cK3 {a b:Addr}{its its':AK}{x y:AF}(h:IsTup s.heap a its)(r:IntsAre its.toList x)(h':IsTup s.heap b its')(r':IntsAre its'.toList y)(e:A.units+40<cLine):SeqAt.EqAt A s (.ref a) (.ref b) (decide (x=y)):=by
 rw[<- cQ5];have f:=(aZ7 x).fit;have g:=(aZ7 y).fit;exact SeqAt.eqAt_reads _ _ A s _ _ _ _ (aX6 h r) (aX6 h' r') f.1 g.1 (by have:=f.2;lia)
theorem aM1 (k:A.units+40<cLine):∀{xs ys:AH} {ts us:AC} (i:Nat),TupsAt s.heap xs ts->TupsAt s.heap ys us->Q (nLt ts us) s->KatLex P w A false (decide (ts.length<us.length)) Q (xs.zip ys) i s
 | [],[],[],[],i,_,_,h=>h
 | [],_::_,[],y::us,i,_,_,h=>by
  have e:decide (([]:AC).length<(y::us).length)=true:=by simp
  show Q (decide (([]:AC).length<(y::us).length)) s
  rw[e];exact h
 | _::_,[],x::ts,[],i,_,_,h=>by
  have e:decide ((x::ts).length<([]:AC).length)=false:=by simp
  show Q (decide ((x::ts).length<([]:AC).length)) s
  rw[e];exact h
 | v::xs,u::ys,x::ts,y::us,i,⟨⟨a,its,e1,p1,r1,_⟩,ra⟩,⟨⟨b,its',z,p2,r2,_⟩,rb⟩,h=>by
  subst e1 z;unfold nLt at h;refine kat_cons ?_;refine cK3 p1 r1 p2 r2 k P w _ _ ?_;by_cases e:x=y
  .subst e;rw[Ac rfl]at h;rw[Bu rfl];refine kat_yes ?_;have z:decide ((x::ts).length<(x::us).length)=decide (ts.length<us.length):=by simp
   rw[z];exact aM1 k (i+1) ra rb h
  .rw[Ab e]at h;rw[Ao e];refine kat_no ?_;exact kat_one _ _ (HT.bQ3 p1 p2 r1 r2 (by lia) h)
 | [],_,_::_,_,_,r,_,_=>r.elim
 | _::_,_,[],_,_,r,_,_=>r.elim
 | _,[],_,_::_,_,_,r,_=>r.elim
 | _,_::_,_,[],_,_,r,_=>r.elim
end
def NestAt (h:Heap):AH->List (AC)->Prop
 | [],[]=>True
 | v::vs,t::ts=>(∃a its,v=.ref a/\IsTup h a its/\TupsAt h its.toList t/\t≠[])/\NestAt h vs ts
 | _,_=>False
theorem NestAt.length {h:Heap}:∀{vs:AH} {ts:List (AC)},NestAt h vs ts->vs.length=ts.length
 | [],[],_=>rfl
 | _::_,_::_,r=>by simp[NestAt.length r.2]
 | [],_::_,r=>r.elim
 | _::_,[],r=>r.elim
theorem NestAt.get {h:Heap}:∀{vs:AH} {ts:List (AC)} {i:Nat},NestAt h vs ts->i<ts.length->∃a its,vs.getD i .none=.ref a/\IsTup h a its/\TupsAt h its.toList (ts.getD i [])
 | v::vs,t::ts,0,⟨⟨a,its,e,h1,h2,_⟩,_⟩,_=>⟨a,its,e,h1,h2⟩
 | v::vs,t::ts,i+1,⟨_,r⟩,hi=>NestAt.get (i:=i) r (by simpa using hi)
 | [],[],_,_,hi=>by simp at hi
 | [],_::_,_,r,_=>r.elim
 | _::_,[],_,r,_=>r.elim
theorem NestAt.keep {h h':Heap}(k:∀a its,IsTup h a its->IsTup h' a its):∀{vs:AH} {ts:List (AC)},NestAt h vs ts->NestAt h' vs ts
 | [],[],_=>trivial
 | v::vs,t::ts,⟨⟨a,its,e,h1,h2,h3⟩,r⟩=>⟨⟨a,its,e,k a its h1,h2.keep λa its _=>k a its,h3⟩,r.keep k⟩
 | [],_::_,r=>r.elim
 | _::_,[],r=>r.elim
theorem NestAt.kat {h:Heap}:∀{vs:AH} {ts:List (AC)},NestAt h vs ts->∃fs,KatTups h vs fs/\fs.length=vs.length/\∀f∈fs,∃a its,f=Value.ref a/\IsTup h a its
 | [],[],_=>⟨[],.nil,rfl,by simp⟩
 | v::vs,t::ts,⟨⟨a,its,e,⟨o,ho,hc,n,hd⟩,h2,h3⟩,r⟩=>by
  obtain⟨fs,w,z,k⟩:=r.kat;subst e;obtain⟨l⟩:=its
  match l,t,h2,h3 with
  | [],[],_,h3=>exact absurd rfl h3
  | [],_::_,h2,_=>exact h2.elim
  | _::_,[],h2,_=>exact h2.elim
  | x::l,y::t,⟨⟨b,its',e,p,_⟩,_⟩,_=>
   refine⟨x::fs,.cons ho hc hd (by simp) w,by simp[z],λf hf=>?_⟩
   rcases Aa1.mp hf with rfl | hf
   .exact⟨_,_,e,p⟩
   .exact k f hf
 | [],_::_,r=>r.elim
 | _::_,[],r=>r.elim
section
variable {P:Program}{w:World}{A:Around}{s:Shared}{E:Dz}
theorem bL3 {L l:Addr}{m:Str->Option Value}{vs:AH}{ts:List (AC)}{Q:Dz}(hu:A.units+60<cLine)(hL:s.heap.Ns L m)(hl:s.heap.IsList l vs.toArray)(ht:NestAt s.heap vs ts)(Y:∀a its,IsTup s.heap a its->a≠L)(h2:2<=vs.length)(h64:vs.length<64)
  (h:∀h' D (p:AD) c,h'.Ns L m->(∀b o,b≠L->s.heap.get? b=some o->h'.get? b=some o)->s.heap.get? D=none->h'.get? D=some {cls:=.type "list",data:=.seq (p.map λi=>vs.getD i .none).toArray c}->p.Perm (List.range vs.length)->(p.map λi=>ts.getD i []).Pairwise nLe->Q (.ref D) {s with heap:=h'}) :
  wpAny (model P w) A (call (.builtin "sorted") [.ref l]) Q E s:=by
 have hlen:=ht.length
 refine kat_sorted (bR9 hL) aR0 hl h2 h64 λD e1 h' F' F hD=>?_
 have kp:∀b o,b≠L->s.heap.get? b=some o->h'.get? b=some o:=λb o hb e=>(F (b,o) (Ad4 _ (L4 hb (L7 _ _) e))).1
 have DL:D≠L:=(F _ Am).2.1
 have hDs:s.heap.get? D=none:=by
  cases e:s.heap.get? D with
  | none=>rfl
  | some o=>exact absurd (hD (D,o) (L4 DL (L7 _ _) e)) (Ad9 _)
 have y:NestAt h' vs ts:=ht.keep λa its z=>by
  have hn:=Y a its z
  obtain⟨o,e,r⟩:=z;exact⟨o,kp a o hn e,r⟩
 obtain⟨fs,k1,k2,k3⟩:=y.kat;refine kat_kind (s:={s with heap:=h'}) k1 (by lia) (T:=.type "tuple") (λv hv=>?_) (by decide) ?_
 .obtain⟨a,its,rfl,o,ho,hc,_⟩:=k3 v hv;rw[<- hc];exact(Looks.ld ho).andThen .now
 have et:(Value.type "tuple" != Value.type "tuple")=false:=by decide
 rw[et];obtain⟨J,e0,hp,hs,ha⟩:=LS.bA8 (dP0 λi=>ts.getD i []) (N:=vs.length) (by lia)
 refine LS.bW4 (P:=λi=>i<vs.length) (lt:=λi j=>nLt (ts.getD i []) (ts.getD j [])) (λi j C hi hj hC=>?_) _ ha ?_
 .obtain⟨a,its,e,⟨o,h1,c1,n1,d1⟩,r1⟩:=y.get (i:=i) (by lia)
  obtain⟨a',U,e',⟨o',h1',c1',n1',B⟩,M⟩:=y.get (i:=j) (by lia)
  unfold kas_ask;rw[e,e'];refine kat_lt (s:={s with heap:=h'}) h1 d1 h1' B ?_
  have el:decide (its.size<U.size)=decide ((ts.getD i []).length<(ts.getD j []).length):=by
   have a1:=r1.length;have a2:=M.length
   simp only[Bl]at a1 a2;rw[a1,a2]
  rw[el];exact aM1 (show A.units+1+1+40<cLine by lia) 0 r1 M hC
 .rw[e0];refine KasFin.intro F' F (.head λp hp z=>?_) λq c R k=>?_
  .have:=hD p hp
   rw[z]at this;exact absurd this (Ad9 _)
  .have kp2:∀b o,b≠L->s.heap.get? b=some o->q.get? b=some o:=λb o hb e=>(k (b,o) (Ad4 _ (L4 hb (L7 _ _) e))).1
   have X:J.toList.Perm (List.range vs.length):=by simpa using(Array.perm_iff_toList_perm.mp hp)
   refine h q D J.toList c R.ns kp2 hDs (k _ Am).1 X ?_;rw[Ae0,List.pairwise_iff_getElem];intro i j hi hj hij;have hz:J.toList.length=vs.length:=by rw[X.length_eq];simp
   have:=hs i j (Bw hij) (by lia)
   unfold LS.le at this;rw[LS.aI4,LS.aI4]at this;have hi':i<J.size:=by simpa using hi
   have hj':j<J.size:=by simpa using hj
   simp only[Bd hi',Bd hj',Option.getD_some]at this;unfold nLe;simpa using this
end
def bL8 (K:Frag)(H:Hp):List V->List (AC)->Prop
 | [],[]=>True
 | v::vs,t::ts=>(∃a ys,v=.ref a/\SqT K H a ys/\TupsV K H ys t/\t≠[])/\bL8 K H vs ts
 | _,_=>False
section
variable {X:Cx}{aA:Eb}{σ:L2.St}{H:Hp}{s:Shared}
theorem bX2 (I:Inv X aA σ H s):∀{vs:List V} {ts:List (AC)} {us:AH},bL8 X.K H vs ts->Vals vs us->NestAt s.heap us ts
 | [],[],_,_,r=>by cases r;exact trivial
 | v::vs,t::ts,_,⟨⟨a,ys,e,sq,tv,ne⟩,h⟩,r=>by
  subst e;cases r with
  | cons y w=>
   cases y
   obtain⟨its,z,p,_⟩:=I.tuple sq;exact⟨⟨a,its.toArray,rfl,p,by simpa using(aO0 I tv z).1,ne⟩,bX2 I h w⟩
 | [],_::_,_,h,_=>h.elim
 | _::_,[],_,h,_=>h.elim
end
section
variable {X:Cx}
def cM5 (K:Frag):List V->Hp->VK->Prop:=λxs H Q=>∃(p:Addr) (ys:List V) (ts:List AC),xs=[.ref p]/\SqL K H p ys/\(ys.length<2\/bL8 K H ys ts)/\ts.length=ys.length/\ys.length<64 /\
  ∀a (q:AD),H a=none->q.Perm (List.range ys.length)->(q.map λi=>ts.getD i []).Pairwise nLe->Q (.ref a) (upd H a (.lst (q.map λi=>ys.getD i .non)))
theorem aQ2 (K:Frag){k:Nat}(hr:Room k X.A)(h:X.K=K:=by rfl):U3 X (.builtin "sorted") (cM5 K):=by
 subst h;intro aA s σ H xs us Q I r ⟨p,j,ts,e,hq,F,htl,h64,q⟩;subst e;obtain⟨u,rfl,rx⟩:=v5 r;cases rx;obtain⟨its,U,pl,hz⟩:=I.list hq;have y:=U.length;by_cases z:its.length<2
 .refine aF8 pl.isList z ?_;obtain⟨e,he⟩:=sortedAll_at s.heap its its.toArray;have Y:=q (s.heap.objs.size+1) (List.range j.length) (I.hok.fresh (Nat.le_succ _)) (.refl _) (by
   rw[y]
   match its.length,z with
   | 0,_=>simp
   | 1,_=>simp[Bq])
  have J:((List.range j.length).map λi=>j.getD i .non)=j:=by
   refine List.ext_getElem (by simp) λi h1 z=>?_
   simp[List.getD,z]
  rw[J]at Y;exact⟨.ref _,_,I.laid (t':=s.toks) (λb o e=>sortedAll_old e) (Nat.le_succ _) (show ObjOk X.prog X.w _ _ _ (.lst j) from⟨hz,its,e,U,he⟩),rfl,Y⟩
 .have F:bL8 X.K H j ts:=F.resolve_left (by lia)
  obtain⟨m,R,_⟩:=I.loc;have ta:=bX2 I F U;refine bL3 (by have:=hr.un;lia) R pl.isList ta (λa its ⟨o,ho,_,n,hd⟩ e=>?_) (by lia) (by lia) λh' D P c M kp hD J hp hs=>?_
  .subst e;obtain⟨o',es,ep,h1,z,_⟩:=R;rw[ho]at h1;cases h1;rw[hd]at z;cases z
  .have N:∀i∈P,i<j.length:=λi hi=>by have:=Ab5.mp (hp.mem_iff.mp hi);lia
   have B:=aC4 U N
   obtain⟨HD,I'⟩:=u5 I R M kp hD J B (by rw[Aa3,hp.length_eq,Bo];lia)
   exact⟨.ref D,_,I',rfl,q D P HD (by rw[y];exact hp) hs⟩
end
section
variable {K:Frag}{ρ:List Sl}
def nD (l:AC):PyData:=.tuple (l.map tI)
theorem cN2 (l:AC):imm (nD l)=true:=by
 have:=W8 bD7 l
 unfold nD
 simp[imm,this]
theorem bI2 {H:Hp}:∀{ts:List (AC)} {vs:List V},Reps K H vs (ts.map nD)->(∀t∈ts,t≠[]/\∀x∈t,x≠[])->bL8 K H vs ts
 | [],_,r,_=>by cases r;exact trivial
 | t::ts,_,r,h=>by
  cases r with
  | cons a b=>
   refine⟨?_,bI2 b λt y=>h t (by simp[y])⟩
   obtain⟨h1,e⟩:=h t (by simp)
   unfold nD at a;cases a with
   | tup s r=>exact⟨_,_,rfl,s,aF3 r e,h1⟩
theorem aP7 {H:Hp}{vs:List V}{ts:List (AC)}(r:Reps K H vs (ts.map nD)):∀{q:AD},(∀i∈q,i<vs.length)->Reps K H (q.map λi=>vs.getD i .non) ((q.map λi=>ts.getD i []).map nD)
 | [],_=>.nil
 | i::q,h=>by
  have hi:=h i (by simp)
  have z:=r.length
  rw[Aa3]at z;obtain⟨v,h1,y⟩:=r.get' (i:=i) (d:=nD (ts.getD i [])) (by
   rw[Aa9,Aa2 (by lia)]
   simp[List.getD,Aa2 (show i<ts.length by lia)])
  have e:vs.getD i .non=v:=by simp[List.getD,h1]
  rw[Ac7,Ac7,Ac7,e];exact .cons y (aP7 r λj w=>h j (by simp[w]))
theorem bK7 {t:TA}{ts ss:List (AC)}(U:A K false t ρ [.list (ts.map nD)])(k:ts.length<2\/∀t∈ts,t≠[]/\∀x∈t,x≠[])(X:ts.length<64)(hp:ss.Perm ts)(N:ss.Pairwise nLe):EF K (tCB (cM5 K) t) ρ (ss.map nD):=
 cE4 U (W8 cN2 ss) λH vs Q r q=>by
  cases r with
  | cons a b=>
   cases b
   cases a with
   | @lst p xs _ s r=>
    have M:=r.length
    rw[Aa3]at M;refine⟨p,xs,ts,rfl,s,k.imp (λh=>by lia) (bI2 r),by lia,by lia,λa z h1 w m=>q a _ h1 ?_⟩
    have e:(z.map λi=>ts.getD i [])=ss:=by
     have y:(z.map λi=>ts.getD i []).Perm ts:=by
      have c:(z.map λi=>ts.getD i []).Perm ((List.range xs.length).map λi=>ts.getD i []):=w.map _
      have Y:(List.range xs.length).map (λi=>ts.getD i [])=ts:=by
       refine List.ext_getElem? λj=>?_
       by_cases J:j<xs.length
       .rw[N7 J];simp[List.getD,Aa2 (show j<ts.length by lia)]
       .rw[Ad6 (by simp;lia),Ad6 (by lia)]
      rw[Y]at c;exact c
     exact List.Perm.eq_of_pairwise (le:=nLe) (λa b _ _ h1 w=>cM7 a b h1 w) m N (y.trans hp.symm)
    have:=aP7 r (q:=z) λi hi=>Ab5.mp (w.mem_iff.mp hi)
    rw[e]at this;exact this
end
end LV
namespace LV
open PySem PySem.Spec PyProof.Rows L2
end LV
namespace L2
open PySem PySem.Spec PyProof.Rows
end L2
namespace LV
open PySem L2
end LV
namespace L2
open PySem PySem.Spec PyProof.Rows
end L2
namespace LV
open PySem L2
end LV
namespace L2
open PySem PySem.Spec PyProof.Rows
end L2
namespace LV
open PySem L2
end LV
namespace L2
open PySem PySem.Spec PyProof.Rows
end L2
namespace LV
open PySem PySem.Spec PyProof.Rows L2
end LV
namespace L2
open PySem PySem.Spec PyProof.Rows
end L2
namespace LV
open PySem PySem.Spec PyProof.Rows L2
end LV
namespace L2
open PySem PySem.Spec PyProof.Rows
end L2
namespace LV
open PySem PySem.Spec PyProof.Rows L2
def WX (K:Frag)(tb:XK->TS)(ρ:List Sl)(R:AE)(XP:Addr->List (Str×PyData)->Prop):Prop:=
 ∀(S:Addr->Prop) (B:Hp) (D:aI9) (σ:L2.St) (H:Hp) (o:Nat->AM) (EX:XK),Env K S B H σ ρ o->Sat K S B R D->(∀(C:Addr) (gs:List (Str×PyData)) (H':Hp) (dd:AL) (vs:List (Str×V)),XP C gs->Same H H'->XdA H' vs dd->FdF K H' vs gs->EX (.ref C) dd H')->tb EX D σ H
section
variable {K:Frag}{B:Hp}{ρ ρ':List Sl}{m:Bool}{t:TA}{d:PyData}{ds es:AG}{pre:AG->PyData->Prop}{preL:AG->AG->Prop}{preX:AG->Addr->List (Str×PyData)->Prop}{R:AE}{XP:Addr->List (Str×PyData)->Prop}
def cX3 (K:Frag)(preL:AG->AG->Prop)(preX:AG->Addr->List (Str×PyData)->Prop):Sp:=λvs H Q E=>
 ∃ds S,(∀b,S b->∃u:HM,H b=some u.ho)/\Reps K (hid S H) vs ds/\((∃es,preL ds es/\∀p xs H',Same H H'->H p=none->H' p=some (.lst xs)->Reps K (hid (λb=>S b\/b=p) H') xs es->Q (.ref p) H')\/∃(C:Addr) (fs:List (Str×PyData)),preX ds C fs/\∀(H':Hp) (dd:AL) (vs:List (Str×V)),Same H H'->XdA H' vs dd->FdF K H' vs fs->E (.ref C) dd H')
theorem dN5 {n:Nat}(h:∀ds d,preL ds d->ds.length=n)(h':∀ds C fs,preX ds C fs->ds.length=n):∀vs H Q E,cX3 K preL preX vs H Q E->vs.length=n:=by
 rintro vs H Q E ⟨ds,S,_,r,z⟩;rw[r.length];rcases z with⟨d,p,_⟩ | ⟨C,fs,p,_⟩
 .exact h ds d p
 .exact h' ds C fs p
theorem cA0 {EX:XK}(z:A K true t ρ ds)(hp:preL ds es):EF K (X9 (cX3 K preL preX) [] EX t) ρ es:=λS B σ H o I Q q=>z S B σ H o I _ λvs H1 y r=>by
 refine⟨_,D4 ρ o S,(I.grow y).lists,by rw[Bj];exact r,.inl ⟨es,hp,λp xs w c k e j=>q p xs w (L2.Same.tr y c) (S4 y k) e j⟩⟩
theorem cV4 {CE:Addr}{gs:List (Str×PyData)}(k:A K true t ρ ds)(hp:preX ds CE gs)(j:XP CE gs):WX K (λEX=>aM4 (bP4 (cX3 K preL preX) [] t EX)) ρ R XP:=λS B D σ H o EX I s x=>k S B σ H o I _ λvs H1 e r=>
 ⟨_,D4 ρ o S,(I.grow e).lists,by rw[Bj];exact r,.inr ⟨CE,gs,hp,λy w p c q z=>x CE gs y w p j (L2.Same.tr e c) q z⟩⟩
theorem dK4 {T1:Addr}{tb:XK->TS}{j:Nat}{t1:TS}(U:WX K tb ρ R XP)
  (e:∀C gs,XP C gs->cR5 K C/\L2.subIn K C (.ref T1)=true/\W K t1 (ρ.set j (.val (xfD C gs))) {nx:=λρ'=>R.nx (ρ'.set j .no)}):W K (cY8 K T1 tb j t1) ρ R:=λS B D σ H o I r=>
 U S B D σ H o _ I r λC gs F s P p N Q Y=>by
  obtain⟨X,a,J⟩:=e C gs p;refine⟨C,rfl,X,a,λx e=>?_⟩
  have g:=C9 (o:=excD x C s) e
  have y:=(I.grow N).grow g
  have q:=y.set (m:=true) j (d:=xfD C gs) (cV3 y C2 (bK4 g Q) (bH5 g Y))
  exact J S B _ _ _ o q ⟨λρ' σ' k M c w=>r.nx _ _ k M (c.unset j) w,λ_ _ _ _ _ z=>z.elim,λ_ _ _ _ _ _ _ _ z=>z.elim,λ_ _ _ _ _ z=>z.elim,λ_ _ _ _ _ z=>z.elim⟩
end
section
variable {K:Frag}{B:Hp}{ρ ρ':List Sl}{m:Bool}{ds es:AG}
theorem cG6 {c:TT}{tb:TS}{R:AE}(P:Nat->List Sl->Prop)(h0:∃k,P k ρ)
  (turn:∀k ρ',P k ρ'->∃b,T K c ρ' b/\if b=true then WB K B tb ρ' {R with nx:=λρ2=>∃k',k'<k/\P k' ρ2,ct:=λρ2=>∃k',k'<k/\P k' ρ2,bk:=R.nx} else R.nx ρ'):WB K B (bR5 c tb) ρ R:=λS D σ H o I0 s=>by
 obtain⟨k0,p0⟩:=h0;refine⟨λk r q=>∃ρ' y,Env K S B q r ρ' y/\P k ρ',⟨k0,ρ,o,I0,p0⟩,?_⟩
 rintro k r q ⟨ρ',y,Y,p⟩;obtain⟨b,hc,j⟩:=turn k ρ' p;refine hc S B r q y Y _ λH1 N=>?_
 cases b with
 | true=>
  rw[Ac rfl]at j ⊢;refine⟨λQ M=>∃k',k'<k/\∃ρ2 o2,Env K S B M Q ρ2 o2/\P k' ρ2,λQ M ⟨k',e,z⟩=>⟨k',e,z⟩,?_⟩
  exact j S _ r H1 y (Y.grow N) ⟨λJ σ3 F U X ⟨k',e,w⟩=>⟨k',e,J,U,X,w⟩,s.rt,s.rl,s.nx,λJ σ3 F U X ⟨k',e,w⟩=>⟨k',e,J,U,X,w⟩⟩
 | false=>
  rw[Ab Ai]at j ⊢;exact s.nx ρ' r H1 y (Y.grow N) j
theorem cJ8 {tt:TS}{N:AJ}{vs:List V}{S:Addr->Prop}{H:Hp}{Q:VK}(Z:Prop)(y:∀b,S b->∃u:HM,H b=some u.ho)(r:Reps K (hid S H) vs ds)(w:WB K H tt (sl0 N.length ds) {nx:=λ_=>False,rl:=λe=>Z/\e=es})
  (k:Z->∀p xs H',Same H H'->H p=none->H' p=some (.lst xs)->Reps K (hid (λb=>S b\/b=p) H') xs es->Q (.ref p) H'):tt {nx:=λ_ H'=>Q .non H',rt:=Q} (L2.R5 N vs) H:=
 w S _ _ H _ (env0 y r) ⟨λρ' X H' q j z=>z.elim,λv e H' s Y z=>z.elim,λp xs ds H' a b c e z=>k z.1 p xs H' a b c (by rw[<- z.2];exact e),λ_ _ _ _ _ z=>z.elim,λ_ _ _ _ _ z=>z.elim⟩
end
end LV
namespace L2
open PySem PySem.Spec PyProof.Rows
abbrev TF:=St->Hp->(Hp->Prop)->Prop
structure PF (X:Cx)(n:Nat)(parts:AN)(t:TF):Prop where
 mk ::
 run:∀(aA:Eb) (s:Shared) (σ:St) (H:Hp) (acc:Str) (Q:VK),Inv X aA σ H s->acc.length<=n->(t σ H λH'=>∀out,Q (.str out) H')->wpAny (model X.prog X.w) X.A (joinParts acc (evalEach parts X.env)) (EP X aA σ Q) X.xe s
section
variable {X:Cx}{n:Nat}
def dQ0:TF:=λ_ H k=>k H
def dN4 (te:TE)(t:TF):TF:=λσ H k=>te σ H λv H1=>∃i:Int,v=.int i/\(-1000000<i/\i<1000000)/\t σ H1 k
theorem dC9 (w:n<=sizeLine:=by decide):PF X n [] dQ0:=⟨λz s σ H e Q I y h=>joinParts_nil ⟨.str e,H,I.tok _,⟨_,rfl⟩,h e⟩ (An y w)⟩
theorem cF3 {x:Str}{j pos}{rest:AN}{t:TF}(h:PF X (n+x.length) rest t)(z:n+x.length<=sizeLine:=by decide):PF X n (.Constant (.str x) j pos::rest) t:=by
 refine⟨λw s σ H y Q I r k=>?_⟩
 show wpAny _ _ (joinParts y (eval (.Constant (.str x) j pos) X.env::evalEach rest X.env)) _ _ s
 refine joinParts_cons (Calls.Constant_str ?_);have e:(y++x).length<=n+x.length:=by rw[strLen_append];lia
 exact⟨An e z,h.run w _ σ H (y++x) Q (I.tok _) e k⟩
theorem dC1 {e:Expr}{pos}{rest:AN}{te:TE}{t:TF}(q:PE X e te)(h:PF X (n+8) rest t)(m:n+8<=sizeLine:=by decide):PF X n (.FormattedValue e (-1) none pos::rest) (dN4 te t):=by
 refine⟨λw s σ H y Q I M k=>?_⟩
 show wpAny _ _ (joinParts y (eval (.FormattedValue e (-1) none pos) X.env::evalEach rest X.env)) _ _ s
 refine joinParts_cons (FormattedValue_plain (thn (q w s σ H _ I k) λv D ⟨x,H1,j,J,i,c,N,U⟩=>?_))
 subst c;obtain⟨u,rfl⟩:=J;have Y:i.natAbs<10^6:=by lia
 have p:i.natAbs.log2<1920:=by
  rcases Nat.eq_zero_or_pos i.natAbs with z | z
  .rw[z];decide
  .refine(Nat.log2_lt (by lia)).mpr (Ab8 (show i.natAbs<2^20 by lia) (Nat.pow_le_pow_right (by decide) (by decide)))
 refine formatField_int_small p ?_;have R:(Str.ofString (toString i)).length<=8:=by rw[PySem.ofString_length];have:=int_text_length_le10 (a:=i) (k:=6) (by decide) Y;lia
 have r:(y++Str.ofString (toString i)).length<=n+8:=by rw[strLen_append];lia
 exact⟨An r m,h.run w _ σ H1 _ Q (j.tok _) r U⟩
def tFs (t:TF):TE:=λσ H Q=>t σ H λH'=>∀out,Q (.str out) H'
theorem cS9 {v1 v2:Expr}{rest:AN}{pos}{t:TF}(h:PF X 0 (v1::v2::rest) t):PE X (.JoinedStr (v1::v2::rest) pos) (tFs t):=by
 refine⟨?_⟩;intro e s σ H Q I k;exact JoinedStr_many (h.run e s σ H Str.empty Q I (by decide) k)
end
end L2
set_option maxHeartbeats 1000000
namespace K40
open PySem L2 LV PyProof.Rows
theorem sc_all_arrows:D9 ["drawing", "most", "found", "k", "beyond"] ["drawing", "most"] (B2 p8):=⟨rfl,rfl,rfl,by decide +kernel,rfl,by decide +kernel,by decide +kernel⟩
theorem cA8 {K:Frag}{B:Hp}{ρ:List Sl}{i:Nat}{x:Int}{EX:Hp->Prop}{R:AE}(j:ρ[i]? = some (.val (.int x)))(w : -1000000<x/\x<1000000)(k:∀H',Same B H'->EX H'):WB K B (cL6 EX (C0 (tFs (dN4 (E1 i) dQ0)) O1)) ρ R:=λS D σ H o I s=>by
 have z:=A4 (K:=K) (m:=false) (i:=i) j
 show(E1 i) σ H (λv H1=>∃y:Int,v=.int y/\(-1000000<y/\y<1000000)/\∀e:Str,([V.str e]:List V).length<=1000/\EX H1)
 refine z S B σ H o I _ λv H1 c r=>?_
 cases r
 exact⟨x,rfl,w,λe=>⟨show 1<=1000 by decide,k H1 (L2.Same.tr I.base c)⟩⟩
theorem EFT.e' {K:Frag}{t:TE}{ρ:List Sl}{u:OT}(h:LV.EFT K t ρ u):LV.E K false t ρ u.data:=λS B σ H o I Q q=>h S B σ H o I _ λv L e s n nd y=>q v e s (bC7 U5 (λ_ _ z=>z) U5 u (λ_ _=>rfl) y)
def aD (A:AD):PyData:=.tuple ((A.map dc).map pD)
def aN (A:AD):AC:=A.map λe=>toL (dc e)
theorem aY3 (A:AD):aD A=nD (aN A):=by
 unfold aD nD aN;rw[Ae3,Ae3];rfl
theorem cG1 (A B:AD):PyData.eqv (aD A) (aD B)=decide (A=B):=by
 unfold aD;rw[Ae3,Ae3,PyData.eqv.eq_def];exact j9 (f:=λe=>pD (dc e)) (λa b=>by
  rw[cF8];exact Cd.mpr ⟨aZ8,λh=>by rw[h]⟩) A B
theorem bW0 (A:AD):FitN 2 (aD A):=aH4 (n:=1) λd e=>by
 obtain⟨x,_,rfl⟩:=Aa8.mp e;exact aR6 x
theorem aN4 (L:AA):Fit (.list (L.map aD)):=(aP1 (n:=2) λd e=>by obtain⟨x,_,rfl⟩:=Aa8.mp e;exact bW0 x).fit
theorem aP8 (A:AD):imm (aD A)=true:=by rw[aY3];exact cN2 _
theorem bS6 (A:AD)(L:AA):(L.map aD).any (λz=>PyData.eqv z (aD A))=bJ4 A L:=by
 rw[List.any_map,Cc,List.any_eq_true,bN4];constructor
 .rintro⟨x,hx,h⟩;simp only[Function.comp,cG1,Ak]at h;rw[<- h];exact hx
 .intro h;exact⟨A,h,by simp[Function.comp,cG1]⟩
def fBe (ps:List (Int×Int)):PyData->Option PyData
 | .tuple [.int x,.int y,.int z]=>some (.tuple ((sp (tw ps (wys x y z))).map pD))
 | _=>none
def fNw (L:AA)(d:PyData):Option PyData:=if(L.map aD).any (λz=>PyData.eqv z d) then none else some d
theorem cT0 (L X:AA):(X.map aD).filterMap (fNw L)=(cQ3 L X).map aD:=by
 unfold cQ3;induction X with
 | nil=>rfl
 | cons x X e=>
  rw[Ac7,Bc,List.filter_cons];unfold fNw at e ⊢;rw[bS6];cases bJ4 x L with
  | true=>exact e
  | false=>
   show aD x::_=aD x::_
   rw[e]
theorem dig {A:AD}{dr:AA}(z:dr.length<=16)(y:AI dr (A.map dc)):∀e∈A,e<256:=λe w=>by
 have:=y.lo _ (Aa8.mpr ⟨e,w,rfl⟩)
 simp only[dc]at this
 lia
theorem dP1 {A:AD}(w:∀e∈A,e<256):∀t∈rgN A,t / 256<16:=λt y=>by
 unfold rgN at y;obtain⟨l,k,y⟩:=List.mem_flatten.mp y;obtain⟨e,z,rfl⟩:=Aa8.mp k;unfold cX4 at y;obtain⟨e',r,h⟩:=List.mem_filterMap.mp y
 have:=w e z
 revert h
 cases (Nat.beq (e' / 16) (e % 16)&&(aQ3 (16*(e' % 16)+e / 16) A&&(Nat.ble (e / 16+1) (e % 16)&&Nat.ble (e / 16+1) (e' % 16)))) with
 | true=>intro h;have h:=Ab4 h;lia
 | false=>intro h;cases h
theorem cV5 {A:AD}(w:∀e∈A,e<256):((isN (rgN A)).map λt=>tI (d3 t)).filterMap (fBe (A.map dc))=(aE9 A).map aD:=by
 unfold aE9;rw[Aw,Ae3];refine(K3 (g:=some ∘ (aD ∘ tuN A)) λt y=>?_).trans (by rw[Dc])
 have y:=dP1 w t ((O9 _).mem_iff.mp y)
 show some (PyData.tuple ((sp (tw (A.map dc) (wys ((t / 256:Nat):Int) ((t / 16 % 16:Nat):Int) ((t % 16:Nat):Int)))).map pD))=some (aD (tuN A t))
 rw[dB1 y];rfl
theorem dG5 {m:Nat}{dr tr:AA}(j:Dw m dr tr){ps:List (Int×Int)}(r:AI dr ps){x y z:Nat}(h1:((x:Int),(y:Int))∈ps)(Y:((y:Int),(z:Int))∈ps)(X:((z:Int),(x:Int))∈ps):Tri dr x y z:=by
 have k:∀{p q:Nat},((p:Int),(q:Int))∈ps->q∈TT.trn dr p:=λ{p q} h=>by
  obtain⟨e,w,c,s,U⟩:=cU8 j (r.tie _ h)
  have:e=p:=by simp only at c;lia
  have:w=q:=by simp only at s;lia
  subst e w;exact U
 exact⟨k h1,k Y,k X⟩
theorem dD3 {m:Nat}{dr tr:AA}(r:Dw m dr tr){A:AD}(k:AI dr (A.map dc)):∀X∈aE9 A,AI dr (X.map dc):=λX c=>by
 have q:dr.length<=16:=by have:=r.len;have:=r.m7;lia
 have j:=dig q k
 unfold aE9 at c;obtain⟨t,w,rfl⟩:=Aa8.mp c;have w:=(O9 _).mem_iff.mp w;have p:=dP1 j t w;have s:d3 t∈rgL (A.map dc):=by rw[aS7 j];exact Aa8.mpr ⟨t,w,rfl⟩
 obtain⟨x,y,z,e,h⟩:=AI.step r k s;unfold d3 at e;simp only[Cb,and_true]at e;obtain⟨rfl,rfl,rfl⟩:=e;rw[dB1 p]at h;exact h
theorem dF9 {m:Nat}{dr tr:AA}(y:Dw m dr tr){L:AA}(h:∀A∈L,AI dr (A.map dc)){k:Nat}(e:k<L.length):∀A∈aF4 L k,AI dr (A.map dc):=λA hA=>by
 unfold aF4 cQ3 at hA;rcases Aa0.mp hA with hA | hA
 .exact h A hA
 .refine dD3 y (h _ ?_) A (Ap.mp hA).1;rw[Ac0,Aa2 e];exact Df e
theorem W1:∀l,(isL l).Perm l
 | []=>.refl _
 | x::l=>by
  have ins:∀(x:AD) (l:AA),(bR0 x l).Perm (x::l):=by
   intro x l;induction l with
   | nil=>exact .refl _
   | cons y l ih=>
    unfold bR0;cases leL x y with
    | true=>exact .refl _
    | false=>exact(ih.cons y).trans (.swap x y l)
  exact(ins x (isL l)).trans ((W1 l).cons x)
theorem bX7:∀{a b:AD},leL a b=true->nLe (aN a) (aN b)
 | [],[],_=>rfl
 | [],_::_,_=>rfl
 | _::_,[],h=>by cases h
 | x::l,y::r,h=>by
  unfold leL at h;show nLt (toL (dc y)::aN r) (toL (dc x)::aN l)=false;unfold nLt;have inj:toL (dc y)=toL (dc x)↔x=y:=⟨λz=>by
   unfold toL at z;simp only[Cb,and_true]at z;exact(aZ8 (Prod.ext z.1 z.2)).symm,λz=>by rw[z]⟩
  cases e:Nat.beq x y with
  | true=>
   rw[e]at h;rw[Ac (inj.mpr (beq_iff.mp e))];exact bX7 (a:=l) (b:=r) h
  | false=>
   rw[e]at h;rw[Ab λz=>by rw[beq_iff.mpr (inj.mp z)]at e;cases e]
   exact cK5 (ble_iff.mp h)
theorem cF1:∀a b,leL a b=false->leL b a=true
 | [],[],h=>by cases h
 | [],_::_,h=>by cases h
 | _::_,[],_=>rfl
 | x::l,y::r,h=>by
  unfold leL at h ⊢;cases e:Nat.beq x y with
  | true=>
   rw[e]at h;rw[beq_iff.mp e,Nat.beq_refl];exact cF1 l r h
  | false=>
   rw[e]at h
   have:Nat.beq y x=false:=Bool.eq_false_iff.mpr λz=>by rw[beq_iff.mpr (beq_iff.mp z).symm]at e;cases e
   rw[this];exact ble_iff.mpr (Bw (cQ1 h))
theorem bG1:∀l:AA,(isL l).Pairwise λa b=>nLe (aN a) (aN b)
 | []=>.nil
 | x::l=>by
  have ins:∀(x:AD) (l:AA),l.Pairwise (λa b=>nLe (aN a) (aN b))->(∀y∈bR0 x l,y=x\/y∈l)/\(bR0 x l).Pairwise λa b=>nLe (aN a) (aN b):=by
   intro x l;induction l with
   | nil=>intro _;exact⟨λy r=>.inl (Ad8.mp r),List.pairwise_singleton _ _⟩
   | cons y l j=>
    intro h;obtain⟨w,k⟩:=j (Ae1.mp h).2;unfold bR0;cases e:leL x y with
    | true=>
     refine⟨λz hz=>Aa1.mp hz,Ae1.mpr ⟨λz hz=>?_,h⟩⟩
     rcases Aa1.mp hz with rfl | hz
     .exact bX7 e
     .exact bC2 _ _ _ (bX7 e) ((Ae1.mp h).1 z hz)
    | false=>
     refine⟨λz hz=>?_,Ae1.mpr ⟨λz hz=>?_,k⟩⟩
     .rcases Aa1.mp hz with rfl | hz
      .exact .inr Am
      .exact(w z hz).imp id (Ad4 _)
     .rcases w z hz with rfl | hz
      .exact bX7 (cF1 _ _ e)
      .exact(Ae1.mp h).1 z hz
  exact(ins x (isL l) (bG1 l)).2
def cZ9 (ds es:AG):Prop:=∃(m:Nat) (dr tr:AA) (mo:Int),Dw m dr tr/\m<5/\1<=mo/\mo<1000/\((FF dr).length:Int)<=mo/\ds=[.tuple (dr.map tN),.int mo]/\es=(isL (FF dr)).map aD
def cZ8 (CT:Addr)(ds:AG)(C:Addr)(fs:List (Str×PyData)):Prop:=C=CT/\∃(m:Nat) (dr tr:AA) (mo:Int),Dw m dr tr/\m<5/\1<=mo/\mo<1000/\mo<((FF dr).length:Int)/\ds=[.tuple (dr.map tN),.int mo]/\fs=[]
theorem dI5 {f k:Nat}{L:AA}(h:¬k<L.length):flN f k L=L:=by
 cases f with
 | zero=>rfl
 | succ f=>
  unfold flN;rw[Bool.eq_false_iff.mpr λz=>h (ble_iff.mp z)];rfl
theorem cY9 {f k:Nat}{L:AA}(h:k<L.length):flN (f+1) k L=flN f (k+1) (aF4 L k):=by
 rw[flN,ble_iff.mpr h];rfl
theorem dL4 {dr:AA}(h:∀x∈(OUT dr).2,x.2<16):(sp ((OUT dr).2.map cI)).map pD=((A0 dr).map dc).map pD:=by
 unfold A0;rw[<- cG3,Ae3]
 congr 2
 exact Al λx e=>(aA2 (h x e)).symm
section
variable {P:Program}{w:World}{K:Frag}{mg:Str->Option Value}{base:Heap}{a:Ad}
theorem dB2 (T:Tx K mg a):E9 P w K mg base (CXd P w) 5 a.r9 a.j4 ["drawing", "most"] (cX3 K cZ9 (cZ8 a.D7)):=by
 have U:E9 P w K mg base CX0 4 _ _ _ _:=cH4 T
 have M:E9 P w K mg base CX0 3 _ _ _ _:=dO9 T
 have J:E9 P w K mg base CX0 3 _ _ _ _:=bZ4 T
 refine T.r6.okD sc_all_arrows (dN5 (by rintro ds d ⟨_,_,_,_,_,_,_,_,_,e,_⟩;rw[e];rfl) (by rintro ds C fs ⟨_,_,_,_,_,_,_,_,_,_,e,_⟩;rw[e];rfl)) (λcdv A outer s H vs Q E hr h=>?_)
 obtain⟨ds,S,hS,r,z⟩:=h;obtain⟨m,c,tr,Y,dw,hm,h1,h2,rfl,kQ,kX⟩:∃(m:Nat) (c tr:AA) (Y:Int),Dw m c tr/\m<5/\1<=Y/\Y<1000/\ds=[.tuple (c.map tN),.int Y] /\
   (((FF c).length:Int)<=Y->∀p xs N,Same H N->H p=none->N p=some (.lst xs)->Reps K (hid (λb=>S b\/b=p) N) xs ((isL (FF c)).map aD)->Q (.ref p) N) /\
   (Y<((FF c).length:Int)->∀(N:Hp) (dd:AL) (vs:List (Str×V)),Same H N->XdA N vs dd->FdF K N vs []->E (.ref a.D7) dd N):=by
  rcases z with⟨es,⟨m,c,tr,Y,dw,hm,h1,h2,h3,rfl,rfl⟩,q⟩ | ⟨C,fs,⟨rfl,m,c,tr,Y,dw,hm,h1,h2,h3,rfl,rfl⟩,q⟩
  .exact⟨m,c,tr,Y,dw,hm,h1,h2,rfl,λ_=>q,λz=>by lia⟩
  .exact⟨m,c,tr,Y,dw,hm,h1,h2,rfl,λz=>by lia,λ_=>q⟩
 refine⟨_,(A5 (B5 (i:=2) sc_all_arrows.nd rfl (Or.inr rfl) (C5 (A1 (B9 (ixK K) (C6 U (hr.mono (by decide)) rfl T.bK8 T.aL6.kp T.bM7 .nil G6 (A1 (pv 0) A2)) A6 (λ_ _=>rfl)) A2)))
   (A5 (B5 (i:=3) sc_all_arrows.nd rfl (Or.inr rfl) A6)
   (A5 (aG8 PassesOwn.leaving (F9 aT2 (pv 3) (B0 (aD5 K) (by rfl) T.N5 Ar (A1 (pv 2) A2)) (K4 _)) (A5 (aP0 (i:=4) sc_all_arrows.nd rfl rfl (T:=["ring"]) (N':=["ring", "drawing", "found", "k"]) (is:=[0,2,3]) rfl (.of rfl rfl rfl (by exact⟨rfl,rfl,rfl,trivial⟩) rfl rfl rfl (by exact⟨⟨_,rfl,by first | exact .inl rfl | exact .inr rfl,by first | exact .inl rfl | exact .inr rfl⟩,⟨_,rfl,by first | exact .inl rfl | exact .inr rfl,by first | exact .inl rfl | exact .inr rfl⟩,⟨_,rfl,by first | exact .inl rfl | exact .inr rfl,by first | exact .inl rfl | exact .inr rfl⟩,trivial⟩)) (S0 (C6 M (hr.mono (by decide)) rfl T.cX2 T.bY5.kp T.cU0 .nil G6 (A1 (pv 0) (A1 (B9 (ixK K) (pv 2) (pv 3) (λ_ _=>rfl)) A2)))) (L6 (by decide)) λ_ _ _ _=>⟨(B7 (i:=0) (by decide +kernel:(["ring", "drawing", "found", "k"]:AJ).Nodup) rfl (Or.inl rfl)),M8,(C6 J (hr.mono (by decide)) rfl T.cE0 T.bM2.kp T.cO7 .nil G6 (A1 (pv 1) (A1 (B9 (ixK K) (pv 2) (pv 3) (λ_ _=>rfl)) (A1 (pv 0) A2))))⟩)
   (A5 (F8 (L8 Ab1 PySem.F.slot_list_extend PySem.F.type_list_extend aA6 (pv 2) (A1 (M1 (T:=["arrows"]) (N':=["arrows", "found"]) (is:=[2]) rfl (.of rfl rfl rfl (by exact⟨rfl,trivial⟩) rfl rfl rfl (by exact⟨⟨_,rfl,by first | exact .inl rfl | exact .inr rfl,by first | exact .inl rfl | exact .inr rfl⟩,trivial⟩)) (S0 (pv 4)) (L6 (by decide)) λ_ _ _ _=>⟨(B7 (i:=0) (by decide +kernel:(["arrows", "found"]:AJ).Nodup) rfl (Or.inl rfl)),(y2 (F9 (aW5 K hr) (pv 0) (pv 1) rfl)),(pv 0)⟩) A2)))
   (A5 (U8 (F9 aD0 (B0 (aD5 K) (by rfl) T.N5 Ar (A1 (pv 2) A2)) (pv 1) (K4 _)) (A9 (cC9 rfl T.aY0 T.aC3 rfl (A1 (cS9 (cF3 (dC1 (pv 1) (cF3 dC9)))) A2) dK2)) M0)
   (A9 (dK8 (i:=3) sc_all_arrows.nd rfl (Or.inr rfl) A6 dG1))))))
   (A9 (E8 (B0 (aQ2 K hr) (by rfl) T.R3 boot_sorted (A1 (pv 2) A2))))))),cJ8 (es:=(isL (FF c)).map aD) (((FF c).length:Int)<=Y) hS r ?_ kQ⟩
 have hd:c.length<=16:=by have:=dw.len;lia
 have ck:=dw.ck hm
 have hF3:=ck.fl
 have e1:=EFT.e' (cK6 (K:=K) (ρ:=sl0 ["drawing", "most", "found", "k", "beyond"].length [.tuple (c.map tN),.int Y]) (pre:=dB7) (X:=E0) (A3 (A4 (i:=0) rfl) A7) ⟨m,c,tr,dw,rfl,rfl⟩)
 rw[dL4 ck.o]at e1;have e0:=LV.E.imm (m:=false) (F6 (d':=aD (A0 c)) e1 (A8 (i:=1)) rfl rfl) (aP8 _);refine aL0 (W.wb (G3 (ds:=[A0 c].map aD) (F5 (A3 e0 A7)) ?_ (show 2<5 by decide)))
 refine aL0 (W.wb (K7 (d:=.int 0) A8 ?_));show WB K H _ [.val (.tuple (c.map tN)),.val (.int Y),.own ([A0 c].map aD),.val (.int 0),.no] _;refine aL0 (cG6 (λk' ρ=>∃(k:Nat) (L:AA) (x4:Sl),k'=4-k/\flN (4-k) k L=FF c/\k<=L.length/\(∀A∈L,AI c (A.map dc))/\(L.length:Int)<=Y/\x4.nb=true/\ρ=[.val (.tuple (c.map tN)),.val (.int Y),.own (L.map aD),.val (.int (k:Int)),x4]) ⟨_,0,[A0 c],.no,rfl,rfl,Cj _,λA hA=>by rw[Ad8.mp hA];exact ck.ai,h1,rfl,rfl⟩ ?_)
 rintro _ _ ⟨k,L,x4,rfl,B,hkl,hai,hmo,b4,rfl⟩;have hL3:L.length<=3:=by have:=bD3 (4-k) k L;rw[B]at this;lia
 have R:=U2 (K:=K) (m:=false) (ρ:=[.val (.tuple (c.map tN)),.val (.int Y),.own (L.map aD),.val (.int (k:Int)),x4]) (d:=.list (L.map aD)) (ds:=L.map aD) (A3 (G7 (i:=2) rfl) A7)
 rw[Aa3]at R;refine⟨_,J8 (y7 (g:=λi j=>decide (i<j)) (A4 (i:=3) rfl) R),?_⟩
 by_cases hk:k<L.length
 .rw[Ac (Bu (by lia))]
  have hat:atI (L.map aD) (k:Int)=some (aD (L.getD k [])):=M6 k rfl (by rw[Aa9,Ac0,Aa2 hk];rfl)
  have hAm:L.getD k []∈L:=by
   rw[Ac0,Aa2 hk];exact Df hk
  have hN:=dF9 dw hai hk
  have hge:(aF4 L k).length<=(FF c).length:=by
   rw[<- B,show 4-k=(3-k)+1 by lia,cY9 hk];exact bD3 _ _ _
  have hnx:aF4 L k=L++cQ3 L (aE9 (L.getD k [])):=rfl
  have hfl':flN (4-(k+1)) (k+1) (aF4 L k)=FF c:=by
   rw[<- B,show 4-k=(4-(k+1))+1 by lia,cY9 hk]
  generalize hA:L.getD k []=A at hat hAm hnx;have ai:=hai A hAm;have D:=dig hd ai;have cm:=K5 (K:=K) (m:=true) (ρ:=[.val (.tuple (c.map tN)),.val (.int Y),.own (L.map aD),.val (.int (k:Int)),x4]) (n:=1) (is:=[0,2,3]) (g:=G5 0) (tt:=aE1) (te:=X9 (spV K cO2) [] E0 (C0 (E1 1) (C0 (tOp (rIx K) (E1 2) (E1 3)) (C0 (E1 0) O1)))) (fBe (A.map dc)) (W9 (ds:=(isN (rgN A)).map λt=>tI (d3 t)) (EF.e' (aB1 (pre:=cY3) (X:=E0) (A3 (A4 (i:=0) rfl) (A3 (LV.E.imm (m:=false) (F6 (ds:=L.map aD) (G7 (i:=2) rfl) (A4 (i:=3) rfl) rfl hat) (aP8 A)) A7)) ⟨c,A.map dc,ai,by lia,rfl,by rw[aS7 D,dD0,Ae3];rfl⟩))) (by
    rw[Aa3,(O9 _).length_eq]
    have:=bA7 ai
    rw[aS7 D,Aa3]at this;unfold sizeLine;lia) (λd hd=>by
   obtain⟨t,ht,rfl⟩:=Aa8.mp hd;have ht:=(O9 _).mem_iff.mp ht;have hv:d3 t∈rgL (A.map dc):=by rw[aS7 D];exact Aa8.mpr ⟨t,ht,rfl⟩
   obtain⟨x,y,z,e,m1,m2,m3,_⟩:=rgL_mem.mp hv;unfold d3 at e;simp only[Cb,and_true]at e;obtain⟨rfl,rfl,rfl⟩:=e;refine⟨_,C8,Z1,?_⟩;exact H9 (pre:=cO2) (X:=E0) (A3 (A4 (i:=1) rfl) (A3 (LV.E.imm (m:=false) (F6 (ds:=L.map aD) (Y1 (i:=2) rfl) (A4 (i:=3) rfl) rfl hat) (aP8 A)) (A3 (A4 (i:=0) rfl) A7))) ⟨m,c,tr,A.map dc,t / 256,t / 16 % 16,t % 16,dw,dG5 dw ai m1 m2 m3,by have:=ai.len;lia,rfl,λw hw=>by
    simp only[wys,Aa1,Ac2,or_false]at hw;rcases hw with rfl | rfl | rfl
    .exact m3
    .exact m1
    .exact m2,rfl⟩)
  rw[cV5 D]at cm;refine aL0 (W.wb (G3 cm ?_ (show 4<5 by decide)))
  show WB K H _ [.val (.tuple (c.map tN)),.val (.int Y),.own (L.map aD),.val (.int (k:Int)),.own ((aE9 A).map aD)] _
  have hbl:(aE9 A).length<64:=by
   unfold aE9;rw[Aa3,(O9 _).length_eq]
   have:=bA7 ai
   rw[aS7 D,Aa3]at this;exact this
  have c2:=K5 (K:=K) (m:=false) (ρ:=[.val (.tuple (c.map tN)),.val (.int Y),.own (L.map aD),.val (.int (k:Int)),.own ((aE9 A).map aD)]) (n:=1) (is:=[2]) (g:=G5 0) (tt:=bU3 (tOp (bQ8 K true) (E1 0) (E1 1))) (te:=E1 0) (fNw L) (W9 (ds:=(aE9 A).map aD) (G7 (i:=4) rfl)) (by rw[Aa3];unfold sizeLine;lia) (λd hd=>by
   obtain⟨u,hu,rfl⟩:=Aa8.mp hd;refine⟨_,C8,?_⟩;have e:=bM9 (K:=K) (m:=false) (ρ:=(slC [.val (.tuple (c.map tN)),.val (.int Y),.own (L.map aD),.val (.int (k:Int)),.own ((aE9 A).map aD)] 1 [2]).set 0 (.bor (aD u))) (Y1 (i:=0) rfl) (Y1 (i:=1) rfl) (ds:=L.map aD) rfl (bW0 u).fit (aN4 L);rw[bS6]at e;unfold fNw;rw[bS6];cases hh:bJ4 u L with
   | true=>rw[hh]at e;exact J8 e
   | false=>rw[hh]at e;exact⟨J8 e,LV.E.imm (m:=false) (Y1 (i:=0) rfl) (aP8 u)⟩)
  rw[cT0]at c2;refine aL0 (W.wb (aB9 rfl c2 (by
   have:=hge
   rw[hnx,Ab7]at this;rw[Aa3,Aa3];unfold sizeLine;lia) ?_))
  rw[<- Ad2,<- hnx];show WB K H _ [.val (.tuple (c.map tN)),.val (.int Y),.own ((aF4 L k).map aD),.val (.int (k:Int)),.own ((aE9 A).map aD)] _;have R:=U2 (K:=K) (m:=false) (ρ:=[.val (.tuple (c.map tN)),.val (.int Y),.own ((aF4 L k).map aD),.val (.int (k:Int)),.own ((aE9 A).map aD)]) (d:=.list ((aF4 L k).map aD)) (ds:=(aF4 L k).map aD) (A3 (G7 (i:=2) rfl) A7);rw[Aa3]at R;refine aL0 (dQ9 (J8 (y7 (g:=λi j=>decide (j<i)) R (A4 (i:=1) rfl))) (λhc=>?_) (λhc=>W.wb (O7 ?_)))
  .have hc:=As hc
   exact cA8 (i:=1) rfl (by lia) λN s'=>kX (by lia) N none [] s' rfl .nil
  .have hc:=Ay hc
   refine W.wb (dH8 (i:=3) (x:=(k:Int)) rfl A8 ?_);refine⟨4-(k+1),by lia,k+1,aF4 L k,.own ((aE9 A).map aD),rfl,hfl',?_,hN,by lia,rfl,rfl⟩
   rw[hnx,Ab7];lia
 .rw[Ab (by rw[Ak];lia)]
  rw[dI5 hk]at B;subst B;refine W.wb ?_;have eo:LV.E K false (E1 2) [.val (.tuple (c.map tN)),.val (.int Y),.own ((FF c).map aD),.val (.int (k:Int)),x4] (.list (((FF c).map aN).map nD)):=by
   have e:((FF c).map aN).map nD=(FF c).map aD:=by rw[Ae3];exact Al λA _=>(aY3 A).symm
   rw[e];exact G7 (i:=2) rfl
  have so:=bK7 (ts:=(FF c).map aN) (ss:=(isL (FF c)).map aN) (A3 eo A7) ?_ (by rw[Aa3];lia) ((W1 _).map aN) (Ae0.mpr (bG1 _))
  .rw[Ae3]at so;have e:(isL (FF c)).map (nD ∘ aN)=(isL (FF c)).map aD:=Al λA _=>(aY3 A).symm
   rw[e]at so;exact aT7 so ⟨hmo,rfl⟩
  .rw[Aa3];refine ck.ne.imp id λh t ht=>?_
   obtain⟨A,hA,rfl⟩:=Aa8.mp ht
   have:=h A hA
   refine⟨λz=>this (List.map_eq_nil_iff.mp z),λx hx z=>?_⟩
   obtain⟨e,_,rfl⟩:=Aa8.mp hx;cases z
end
end K40
namespace LH
open PySem PySem.SetTable
end LH
namespace L2
open PySem PySem.Spec PyProof.Rows
end L2
namespace LH
open PySem PySem.SetTable
end LH
namespace L2
open PySem PySem.Spec PyProof.Rows
end L2
namespace LH
open PySem
end LH
namespace L2
open PySem PySem.Spec PyProof.Rows
end L2
namespace LV
open PySem PySem.Spec PyProof.Rows L2
end LV
namespace L2
open PySem PySem.Spec PyProof.Rows
open PySem.Calls
end L2
namespace LV
open PySem L2 PyProof.Rows
end LV
namespace L2
open PySem PySem.Spec PyProof.Rows
section
variable {prog:Program}{w:World}{A:Around}{E:Dz}{s:Shared}
theorem bD6 {l:Addr}{vs:AH}{ns:AF}{Q:Dz}(M:IsTup s.heap l vs.toArray)(X:IntsAre vs ns)(r:vs.length<64)
  (h:∀(D:Addr) (h':Heap) (c:Nat) (out:AK) (ns':AF),s.heap.get? D=none->h'.get? D=some (seqObj "list" out c)->(∀b o,s.heap.get? b=some o->h'.get? b=some o)->IntsAre out.toList ns'->ns'.Perm ns->ns'.Pairwise (· <= ·)->Q (.ref D) {s with heap:=h'}) :
  wpAny (model prog w) A (call (.builtin "sorted") [.ref l]) Q E s:=by
 obtain⟨o,ho,U,n,J⟩:=M;refine Calls.call_function_entry kind_sorted plain_sorted entry_sorted (args_sorted1 _) ?_;unfold Builtin.«sorted»;refine Aa (m:=checkCount "sorted" 1 1 _) (Ae ?_);refine Aa (wpAny_collect_seq l (.inr rfl) ho U J (λg j=>?_) (by rw[Cp];simp;lia))
 refine Aa (wpAny_newList ?_ (by rw[Cp];simp;lia))
 have y:(g.push (seqObj "list" vs.toArray 0)).get? g.objs.size=some (seqObj "list" vs.toArray 0):=Ac3 _ rfl
 refine Aa (Bz (Cq slot_list_sort ⟨_,y,rfl⟩ entry_list_sort (list_sort_tree y X r λout ns' p q Y=>⟨_,rfl,?_⟩) (args_list_sort _)))
 obtain⟨c,k⟩:=sortedHeap_at (vs:=vs) (out:=out) y;refine Ae ⟨_,rfl,h _ _ c out ns' ?_ k (λb N e=>?_) p q Y⟩
 .cases e:s.heap.get? g.objs.size with
  | none=>rfl
  | some o=>exact absurd (Ab3 (j _ _ e)) (Ad9 _)
 .have z:=Ab3 (j _ _ e)
  show(sortedHeap (g.push (seqObj "list" vs.toArray 0)) g.objs.size vs out).get? b=some N
  rw[sortedHeap_old (Ab9 z) (by rw[size_push'];exact Du z)]
  exact Aa6 _ (j _ _ e)
end
section
variable {X:Cx}
def dM7 (K:Frag):List V->Hp->VK->Prop:=λxs H Q=>∃(p:Addr) (l:AF),xs=[.ref p]/\SqT K H p (l.map V.int)/\l.length<64 /\
  ∀a (l':AF),H a=none->l'.Perm l->l'.Pairwise (· <= ·)->Q (.ref a) (upd H a (.lst (l'.map V.int)))
theorem bM3 (K:Frag)(h:X.K=K:=by rfl):U3 X (.builtin "sorted") (dM7 K):=by
 subst h;intro aA s σ H xs us Q I r ⟨p,l,e,P,R,q⟩;subst e;obtain⟨u,rfl,rx⟩:=v5 r;cases rx;obtain⟨its,j,pl,k⟩:=I.tuple P;have y:=j.length;rw[Aa3]at y k;obtain⟨m,z,_⟩:=I.loc;refine bD6 pl (LV.Q4 j) (by lia) λD h' c out ns' F B w hi hp hs=>?_
 obtain⟨Y,U⟩:=LV.u5 I z (by obtain⟨o,M,J,h1,N⟩:=z;exact⟨o,M,J,w _ _ h1,N⟩) (λb o _ e=>w b o e) F B (LV.cB3 hi) (by rw[Aa3,hp.length_eq];exact k)
 exact⟨.ref _,_,U,rfl,q _ _ Y hp hs⟩
end
end L2
namespace LV
open PySem L2 PyProof.Rows
open Att PySem.Spec PySem.W
section
variable {X:Cx}
def dQ8 (K:Frag):List V->Hp->VK->Prop:=λxs H Q=>L2.dM7 K xs H Q\/∃(p:Addr) (ys:List V) (ts:AC),xs=[.ref p]/\SqT K H p ys/\TupsV K H ys ts/\2<=ys.length/\ys.length<64 /\
  ∀a (q:AD),H a=none->q.Perm (List.range ys.length)->(q.map λi=>ts.getD i []).Pairwise F1->Q (.ref a) (upd H a (.lst (q.map λi=>ys.getD i .non)))
theorem bL9 (K:Frag)(h:X.K=K:=by rfl):U3 X (.builtin "sorted") (dQ8 K):=by
 intro F s σ H xs us Q I r z;rcases z with z | ⟨p,ys,ts,e,hq,ht,h2,P,q⟩
 .exact L2.bM3 K h F s σ H xs us Q I r z
 subst h;subst e;obtain⟨u,rfl,rx⟩:=v5 r;cases rx;obtain⟨its,Y,pl,hz⟩:=I.tuple hq;have y:=Y.length;obtain⟨m,J,_⟩:=I.loc;obtain⟨ta,tl⟩:=aO0 I ht Y;obtain⟨o,ho,hc,n,hd⟩:=pl;refine bF7 (vs:=its) (λQ' E' j=>wpAny_collect_seq p (.inr rfl) ho hc hd (λg hk=>by have:=j g s.toks hk;simpa using this) (by rw[Cp];simp;lia)) J ta tl (by lia) (by lia) λh' tk D M c w kp hD B hp hs=>?_
 have k:∀i∈M,i<ys.length:=λi hi=>by have:=Ab5.mp (hp.mem_iff.mp hi);lia
 have U:=aC4 Y k
 obtain⟨N,R⟩:=u5 I J w kp hD B U (by rw[Aa3,hp.length_eq,Bo];lia)
 exact⟨.ref D,_,R.tok tk,rfl,q D M N (by rw[y];exact hp) hs⟩
def cZ5 (K:Frag):V->List V->Hp->VK->Prop:=λx xs H Q=>∃(p:Addr) (l:AF) (k:Int),x=.ref p/\xs=[.int k]/\SqT K H p (l.map V.int)/\Q (.int (l.count k)) H
theorem cA1 (K:Frag)(h:X.K=K:=by rfl):MtR X "tuple.count" (cZ5 K):=by
 subst h;intro aA s σ H x xs v us Q I rx rv ⟨p,l,k,J,M,U,q⟩;subst J;subst M;cases rx;obtain⟨u,rfl,t,rfl⟩:=v5 rv;obtain⟨its,r,⟨o,e,c,n,d⟩,D⟩:=I.tuple U;obtain⟨oc,P,m,Y⟩:=o;dsimp only at c d;subst c;subst d;have hi:∀y∈its,∃i t,y=Value.int i t:=λy z=>by
  obtain⟨j,N,rfl⟩:=List.mem_iff_getElem.mp z;have R:=r.length;rw[Aa3]at R;obtain⟨u,h1,t,rfl⟩:=r.get (i:=j) (x:=.int (l[j]'(by lia))) (by rw[Aa9,Aa2 (by lia)];rfl)
  rw[Aa2 N]at h1;exact⟨_,_,Ab4 h1⟩
 have w:its.countP (λy=>match y with | .int i _=>i==k | _=>false)=l.count k:=by
  have ri:=Q4 r
  clear U D e r hi q
  induction ri with
  | nil=>rfl
  | cons n t _ B=>rw[List.countP_cons,List.count_cons,B]
 refine call_meets F.slot_tuple_count ⟨_,e,rfl⟩ F.entry_tuple_count (F.args_tuple_count_2 _ _) (SeqAt.tuple_countAt p its.toArray n P Y (.int k t) (λy=>match y with | .int i _=>i==k | _=>false)) ⟨e,λy z=>?_,?_⟩
 .obtain⟨i,t',rfl⟩:=hi y (by simpa using z)
  exact SeqAt.EqAt.int_int _ _ _ _
 .rw[show List.countP _ its.toArray.toList=l.count k from w]
  exact⟨.int _,H,I.tok _,⟨_,rfl⟩,q⟩
def cZ0 (K:Frag):R2:=λx y H Q=>bY2 K x y H Q\/∃a b ys,x=.ref a/\y=.ref b/\SqT K H a []/\SqT K H b ys/\Q (.ref b) H
theorem bT7 (K:Frag)(h:X.K=K:=by rfl):OpR X (binaryOp .Add) (cZ0 K):=by
 intro N s σ H x y v u Q I J M z;rcases z with z | ⟨a,b,ys,B,P,ha,hb,q⟩
 .exact aH8 K h N s σ H x y v u Q I J M z
 subst h B P;cases J;cases M;obtain⟨its,r1,p1,_⟩:=I.tuple ha;obtain⟨U,r2,p2,_⟩:=I.tuple hb;cases r1;obtain⟨⟨R,D,data,sl⟩,ho,m,n,Y⟩:=p1;obtain⟨⟨p,j,k,c⟩,r,e,n2,w⟩:=p2;simp only at m Y e w;subst m Y e w;exact concat_meets ⟨_,ho,rfl⟩ ⟨_,r,rfl⟩ noFill_tuple_add seq_tuple_add PySem.F.slot_tuple_add PySem.F.entry_tuple_add (PySem.F.args_tuple_add_2 _ _) (tuple_addW0 a b _ _ n n2 D j sl c (by simp)) ⟨ho,r,.ref b,H,I,rfl,q⟩
end
section
variable {K:Frag}{ρ:List Sl}{m:Bool}{t ta tb:TE}{d d':PyData}{ds es:AG}
theorem cB6 {t:TA}{ts ss:AC}(U:A K false t ρ [.tuple (ts.map tI)])(z:∀t∈ts,t≠[])(h2:ts=[]\/2<=ts.length)(X:ts.length<64)(hp:ss.Perm ts)(N:ss.Pairwise F1):EF K (tCB (dQ8 K) t) ρ (ss.map tI):=
 cE4 U (W8 bD7 ss) λH vs Q r q=>by
  cases r with
  | cons a b=>
   cases b
   cases a with
   | @tup p xs _ s r=>
    have M:=r.length
    rw[Aa3]at M;rcases h2 with rfl | h2
    .have e:ss=[]:=hp.eq_nil
     subst e;cases r;exact .inl ⟨p,[],rfl,s,by simp,λa R h1 h2 k=>by have:=h2.eq_nil;subst this;exact q a _ h1 .nil⟩
    .refine .inr ⟨p,xs,ts,rfl,s,aF3 r z,by lia,by lia,λa w h1 h2 k=>q a _ h1 ?_⟩
     have e:(w.map λi=>ts.getD i [])=ss:=by
      have y:(w.map λi=>ts.getD i []).Perm ts:=by
       have c:(w.map λi=>ts.getD i []).Perm ((List.range xs.length).map λi=>ts.getD i []):=h2.map _
       have Y:(List.range xs.length).map (λi=>ts.getD i [])=ts:=by
        refine List.ext_getElem? λj=>?_
        by_cases J:j<xs.length
        .rw[N7 J];simp[List.getD,Aa2 (show j<ts.length by lia)]
        .rw[Ad6 (by simp;lia),Ad6 (by lia)]
       rw[Y]at c;exact c
      exact List.Perm.eq_of_pairwise (le:=F1) (λa b _ _ h1 h2=>W7 a b h1 h2) k N (y.trans hp.symm)
     have:=aK5 r (q:=w) λi hi=>Ab5.mp (h2.mem_iff.mp hi)
     rw[e]at this;exact this
theorem cF6 {l:AF}{k:Int}(z:E K false ta ρ (tI l))(j:E K false tb ρ (.int k)):E K m (tBM K "tuple" (cZ5 K) ta (C0 tb O1)) ρ (.int (l.count k)):=E.bor (E.imm (m:=false) λS B σ H o I Q q=>z S B σ H o I _ λv H1 e r=>by
 obtain⟨p,rfl,s⟩:=bV4 r;refine⟨.inr (.inl ⟨rfl,_,s⟩),?_⟩;refine j S B σ H1 o (I.grow e) _ λu w y c=>?_
 cases c
 exact⟨p,l,k,rfl,rfl,E5 y s,q _ w (L2.Same.tr e y) (.int _)⟩)
theorem cN9 (c:E K false ta ρ (.tuple ds))(s:E K false tb ρ (.tuple es))(hi:K0 ds=true)(k:K0 es=true)(Y:ds.length+es.length<=sizeLine:=by first | decide | (unfold sizeLine;simp;done)):E K m (tOp (cZ0 K) ta tb) ρ (.tuple (ds++es)):=
 E.bor (E.imm (m:=false) (λS B σ H o I Q q=>c S B σ H o I _ λx H1 r X=>s S B σ H1 o (I.grow r) _ λy J e U=>by
  cases X with
  | @tup a xs _ sa ra=>
  cases U with
  | @tup b ys _ sb rb=>
  have w:=ra.mono e
  cases ds with
  | nil=>
   cases ra
   exact .inr ⟨a,b,ys,rfl,rfl,E5 e sa,sb,q _ _ (L2.Same.tr r e) (.tup sb rb)⟩
  | cons M j=>
  refine .inl ⟨a,b,xs,ys,rfl,rfl,E5 e sa,sb,(λz=>by subst z;cases ra),by rw[ra.length,rb.length];exact Y,λz=>q _ _ (L2.Same.tr r e) ?_,λ_ p hp=>q _ _ (L2.Same.tr r (L2.Same.tr e (C9 hp))) (.tup (SqT.of C2) ((w.append rb).mono (C9 hp)))⟩
  cases z
  cases rb
  rw[Bj];exact .tup (E5 e sa) w) (aJ2 (by rw[Z9,hi,k];rfl)))
end
end LV
set_option maxHeartbeats 1000000
namespace K40
open PySem L2 LV PyProof.Rows
theorem sc__law_all:D9 ["_law_drawing", "_law_found", "_law_p", "_law_q", "_law_more", "_law_arrows", "_law_tails", "_law_arrow"] ["_law_drawing"] (B2 aE2):=⟨rfl,rfl,rfl,by decide +kernel,rfl,by decide +kernel,by decide +kernel⟩
def vD (x:AD×AD):PyData:=.tuple [aD x.1,tN x.2]
theorem dH0 (L:List (AD×AD))(p q:Nat):(stN L p q).length<=L.length*2^(if aC8 (p,q)=true then 1 else 0):=by
 unfold stN aC8;cases h:(Nat.ble (p+1) q&&Nat.ble 3 q) with
 | false=>
  rw[Ab (by simp[h])]
  simp
 | true=>
  rw[Ac (by simp[h])]
  have e:∀x (a b:Nat),(opN x a b).length<=1:=λx a b=>by
   unfold opN;cases (Nat.ble 3 a&&Nat.ble (x.2.count a) 2) <;> simp
  show((L.map λx=>opN x p q++opN x q p).flatten).length<=L.length*2^1
  induction L with
  | nil=>simp
  | cons x L w=>
   rw[Ac7,Bs,Ab7,Ab7,Ba];have h1:=e x p q;have y:=e x q p
   lia
theorem dH9 {L:List (AD×AD)}{p q b:Nat}(w:∀x∈L,x.1.length<=b/\x.2.length<=b):∀x∈stN L p q,x.1.length<=b+(if aC8 (p,q)=true then 1 else 0)/\x.2.length<=b+(if aC8 (p,q)=true then 1 else 0):=by
 intro x e;unfold stN at e;unfold aC8;cases h:(Nat.ble (p+1) q&&Nat.ble 3 q) with
 | false=>
  rw[h]at e;rw[Ab (by simp[h])]
  exact w x e
 | true=>
  rw[h]at e;rw[Ac (by simp[h])]
  obtain⟨l,j,e⟩:=List.mem_flatten.mp e;obtain⟨y,s,rfl⟩:=Aa8.mp j;have m:=w y s;have k:∀(a c:Nat),x∈opN y a c->x.1.length<=b+1/\x.2.length<=b+1:=λa c z=>by
   unfold opN at z;cases r:(Nat.ble 3 a&&Nat.ble (y.2.count a) 2) with
   | false=>rw[r]at z;cases z
   | true=>
    rw[r]at z;rw[Ad8.mp z];simp only[Ab7,Ba,List.length_nil]
    lia
  rcases Aa0.mp e with z | z
  .exact k _ _ z
  .exact k _ _ z
theorem dJ9 (T:List (Nat×Nat))(x:Nat×Nat):vsN (T++[x])=stN (vsN T) x.1 x.2:=by
 unfold vsN;rw[List.foldl_append];rfl
theorem cN4:∀(T:List (Nat×Nat)) (L:List (AD×AD)) (b:Nat),(∀x∈L,x.1.length<=b/\x.2.length<=b) ->
  (T.foldl (λL x=>stN L x.1 x.2) L).length<=L.length*2^(T.filter aC8).length/\∀x∈T.foldl (λL x=>stN L x.1 x.2) L,x.1.length<=b+(T.filter aC8).length/\x.2.length<=b+(T.filter aC8).length
 | [],L,b,h=>by simp;exact λx y hx=>h (x,y) hx
 | (p,q)::T,L,b,h=>by
  obtain⟨h1,h2⟩:=cN4 T (stN L p q) _ (dH9 (p:=p) (q:=q) h);have h3:=dH0 L p q;rw[List.foldl_cons,List.filter_cons];cases ht:aC8 (p,q) with
  | false=>
   rw[ht]at h2 h3;rw[Ab (by simp)]at h2 h3 ⊢
   refine⟨An h1 (Nat.mul_le_mul_right _ (by simpa using h3)),by simpa using h2⟩
  | true=>
   rw[ht]at h2 h3;rw[Ac rfl]at h2 h3 ⊢;rw[Ba];refine⟨An h1 ?_,λx hx=>?_⟩
   .have:=Nat.mul_le_mul_right (2^(T.filter aC8).length) h3
    rw[Nat.pow_succ]
    calc _<=_:=this
     _=_:=by rw[Nat.pow_one,Nat.mul_assoc,Nat.mul_comm 2]
   .have:=h2 x hx;lia
theorem dL0 {T:List (Nat×Nat)}(h:(T.filter aC8).length<=12):(vsN T).length<=4096/\∀x∈vsN T,x.1.length<=12/\x.2.length<=12:=by
 obtain⟨h1,y⟩:=cN4 T [([],[])] 0 (λx e=>by rw[Ad8.mp e];simp)
 refine⟨An h1 ?_,λx e=>?_⟩
 .show 1*2^_<=4096
  have:2^(T.filter aC8).length<=2^12:=Nat.pow_le_pow_right (by decide) h
  lia
 .have:=y x e;lia
def gpT (dr:AA)(i j:Nat):List (Nat×Nat):=gpN dr i++((TT.trn dr i).take j).map λq=>(i,q)
theorem cJ7 (y:AA):∀{i n:Nat},i<=n->(gpN y i).Sublist (gpN y n)
 | i,0,h=>by rw[show i=0 by lia];exact List.Sublist.refl _
 | i,n+1,h=>by
  by_cases e:i=n+1
  .rw[e];exact List.Sublist.refl _
  .refine(cJ7 y (show i<=n by lia)).trans ?_
   unfold gpN;rw[U9];exact List.sublist_append_left _ _
theorem cW8 (e:AA){i j n:Nat}(h:i<n):(gpT e i j).Sublist (gpN e n):=by
 refine List.Sublist.trans ?_ (cJ7 e (show i+1<=n by lia))
 unfold gpT gpN;rw[U9];exact(List.Sublist.refl _).append ((List.take_sublist _ _).map _)
theorem cU4 {dr:AA}(h:((gpN dr dr.length).filter aC8).length<=12){i j:Nat}(hi:i<dr.length):((gpT dr i j).filter aC8).length<=12:=
 An ((cW8 dr hi).filter _).length_le h
theorem cP6 {dr:AA}{i j q:Nat}(h:(TT.trn dr i)[j]? = some q):gpT dr i (j+1)=gpT dr i j++[(i,q)]:=by
 unfold gpT;rw[Cv,h,Ad2,<- Ad7];rfl
theorem dR0 (e:AA)(i:Nat):gpT e i 0=gpN e i:=by simp[gpT]
theorem cS8 (e:AA)(i:Nat):gpT e i (TT.trn e i).length=gpN e (i+1):=by
 unfold gpT gpN;rw[De,U9]
theorem bJ3 (p:Nat):∀l:AD,(l.map λ(x:Nat)=>(x:Int)).count (p:Int)=l.count p
 | []=>rfl
 | x::l=>by
  rw[Ac7,List.count_cons,List.count_cons,bJ3 p l]
  congr 1
  by_cases e:x=p
  .subst e;simp
  .have:¬(x:Int)=(p:Int):=by lia
   simp[e,this]
def cE7 (ds es:AG):Prop:=∃(m:Nat) (dr tr:AA),Dw m dr tr/\m<5/\ds=[.tuple (dr.map tN)]/\es=(isL (VV dr)).map aD
def fSo (d:PyData):Option PyData:=match d with
 | .tuple [.tuple ds,_]=>some (.tuple ((sp (ds.map λd=>match d with | .tuple [.int x,.int y]=>(x,y) | _=>(0,0))).map pD))
 | _=>none
theorem cK2 (x:AD×AD):fSo (vD x)=some (aD (isN x.1)):=by
 show some (PyData.tuple ((sp (((x.1.map dc).map pD).map λd=>match d with | .tuple [.int x,.int y]=>(x,y) | _=>(0,0))).map pD))=_
 rw[Ae3];have e:(x.1.map dc).map ((λd=>match d with | .tuple [.int x,.int y]=>(x,y) | _=>(0,0)) ∘ pD)=x.1.map dc:=(Al λy _=>rfl).trans (Dy _)
 rw[e,cG3];rfl
theorem cW7 (L:List (AD×AD)):(L.map vD).filterMap fSo=(L.map λx=>isN x.1).map aD:=by
 rw[Aw,Ae3];exact(K3 (g:=some ∘ (aD ∘ λx=>isN x.1)) λx _=>cK2 x).trans (by rw[Dc])
def ops (x:AD×AD)(p q:Nat):List (List (AD×AD)):=[opN x p q,opN x q p]
section
variable {P:Program}{w:World}{K:Frag}{mg:Str->Option Value}{base:Heap}{a:Ad}
theorem dH4 (T:Tx K mg a):E9 P w K mg base CX0 1 a.aE8 a.aF0 ["_law_drawing"] (spL K cE7):=by
 refine T.aT3.ok sc__law_all (cD5 λds d ⟨_,_,_,_,_,e,_⟩=>by rw[e];rfl) (λcdv A outer s H vs Q E hr h=>?_)
 obtain⟨ds,S,es,hS,r,⟨m,y,tr,dw,hm,rfl,rfl⟩,q⟩:=h;refine⟨_,(A5 (B5 (i:=1) sc__law_all.nd rfl (Or.inl rfl) (C5 (A1 (E2 (A1 (E2 A2) (A1 (E2 A2) A2))) A2)))
   (A5 (O8 Au rfl (J9 rfl T.K6 (A1 (B0 (aD5 K) (by rfl) T.N5 Ar (A1 (pv 0) A2)) A2)) (B7 (i:=2) sc__law_all.nd rfl (Or.inl rfl)) (A9 (O8 Au rfl (z6 (B9 (ixK K) (pv 0) (pv 2) (λ_ _=>rfl))) (B7 (i:=3) sc__law_all.nd rfl (Or.inl rfl)) (A9 (U8 (PW.pt (bT2 (F9 aT2 (pv 2) (pv 3) (K4 _)) (bD0 (F9 aD0 (pv 3) A6 (K4 _))))) (A5 (B5 (i:=4) sc__law_all.nd rfl (Or.inl rfl) (C5 A2))
   (A5 (O8 Au rfl (S0 (pv 1)) (aK6 (n:=2) rfl (N2 (B7 (i:=5) sc__law_all.nd rfl (Or.inl rfl)) (N2 (B7 (i:=6) sc__law_all.nd rfl (Or.inl rfl)) aB5))) (A9 (O8 Au rfl (z6 (E2 (A1 (E2 (A1 (pv 2) (A1 (pv 3) A2))) (A1 (E2 (A1 (pv 3) (A1 (pv 2) A2))) A2)))) (B7 (i:=7) sc__law_all.nd rfl (Or.inl rfl)) (A9 (U8 (PW.pt (bT2 (F9 aD0 (B9 (ixK K) (pv 7) A6 (λ_ _=>rfl)) A6 (K4 _)) (bD0 (F9 aT2 (L8 PySem.F.plainAttrs_tuple PySem.F.slot_tuple_count PySem.F.type_tuple_count (cA1 K) (pv 6) (A1 (B9 (ixK K) (pv 7) A6 (λ_ _=>rfl)) A2)) A6 (K4 _))))) (A9 (F8 (L8 Ab1 Ah Ag E4 (pv 4) (A1 (E2 (A1 (B4 (bT7 K) (pv 5) (E2 (A1 (pv 7) A2))) (A1 (B4 (bT7 K) (pv 6) (E2 (A1 (B9 (ixK K) (pv 7) A6 (λ_ _=>rfl)) A2))) A2))) A2)))) M0)))))
   (A9 (B5 (i:=1) sc__law_all.nd rfl (Or.inl rfl) (pv 4))))) M0)))))
   (A9 (E8 (B0 (aQ2 K hr) (by rfl) T.R3 boot_sorted (A1 (M1 (T:=["_law_arrows", "_law_tails"]) (N':=["_law_arrows", "_law_tails"]) (is:=[]) rfl (.of rfl rfl rfl (by exact trivial) rfl rfl rfl (by exact trivial)) (S0 (pv 1)) (dI2 (by decide) (by decide)) λ_ _ _ _=>⟨(aK6 (n:=2) rfl (N2 (B7 (i:=0) (by decide +kernel:(["_law_arrows", "_law_tails"]:AJ).Nodup) rfl (Or.inl rfl)) (N2 (B7 (i:=1) (by decide +kernel:(["_law_arrows", "_law_tails"]:AJ).Nodup) rfl (Or.inl rfl)) aB5))),M8,(Q3 (dJ2 K) (by rfl) T.P6 boot_tuple (A1 (B0 (bL9 K) (by rfl) T.R3 boot_sorted (A1 (pv 0) A2)) A2))⟩) A2)))))),aR8 hS r ?_ q⟩
 have hd:=dw.len
 have ck:=dw.ck hm
 have vt:=ck.vt
 have D:((y.map tN).length:Int)=(y.length:Int):=by rw[Aa3]
 refine B1 (G3 (ds:=[vD ([],[])]) (F5 (A3 (M3 (A3 (M3 A7) (A3 (M3 A7) A7))) A7)) ?_ (show 1<8 by decide))
 refine aV8 (i:=1) rfl ?_;show W K _ [.val (.tuple (y.map tN)),.val (.list ((vsN (gpN y 0)).map vD)),.no,.no,.no,.no,.no,.no] _;refine B1 (U7 (T3 (A3 (U2 (ds:=y.map tN) (A3 (A4 rfl) A7)) A7) (by rw[D];lia) (by rw[D];lia)) (λi ρ=>∃x2 J X p Y c,(x2.nb=true/\J.nb=true/\X.nb=true/\p.nb=true/\Y.nb=true/\c.nb=true)/\ρ=[.val (.tuple (y.map tN)),.val (.list ((vsN (gpN y i)).map vD)),x2,J,X,p,Y,c]) ⟨.no,.no,.no,.no,.no,.no,⟨rfl,rfl,rfl,rfl,rfl,rfl⟩,rfl⟩ ?_ ?_)
 .rintro i d _ hi ⟨x2,J,X,p,Y,c,⟨b2,b3,b4,N,R,U⟩,rfl⟩;obtain⟨rfl,hi⟩:=T0 hi;rw[D]at hi;have hi:i<y.length:=by lia
  refine⟨_,C8,?_⟩;refine U7 (aM3 (ds:=nI (TT.trn y i)) (F6 (d':=tN (TT.trn y i)) (A4 (i:=0) rfl) (A4 (i:=2) rfl) rfl (M6 i rfl (by rw[Aa9,bO8 hi];rfl)))) (λj ρ=>∃J X p Y c,(J.nb=true/\X.nb=true/\p.nb=true/\Y.nb=true/\c.nb=true)/\ρ=[.val (.tuple (y.map tN)),.val (.list ((vsN (gpT y i j)).map vD)),.val (.int (i:Int)),J,X,p,Y,c]) ⟨J,X,p,Y,c,⟨b3,b4,N,R,U⟩,by rw[dR0];rfl⟩ ?_ ?_
  .rintro j d _ hj ⟨J,X,p,Y,c,⟨b3,b4,N,R,U⟩,rfl⟩;unfold nI at hj;rw[Aa9]at hj;obtain⟨q,hq,rfl⟩:=Cm.mp hj;have hb:=dL0 (cU4 vt (j:=j) hi);have hs:=cP6 hq;have hq16:=dw.good.lt i q (Az hq);have ev:vsN (gpT y i (j+1))=stN (vsN (gpT y i j)) i q:=by rw[hs,dJ9]
   rw[ev];generalize vsN (gpT y i j)=L at hb ⊢;obtain⟨hLl,hLx⟩:=hb;refine⟨_,C8,?_⟩;show W K _ [.val (.tuple (y.map tN)),.val (.list (L.map vD)),.val (.int (i:Int)),.val (.int (q:Int)),X,p,Y,c] _;refine aJ7 (b:=decide ((i:Int)<(q:Int))&&decide ((2:Int)<(q:Int))) (cF7 (J8 (y7 (A4 (i:=2) rfl) (A4 (i:=3) rfl))) λ_=>J8 (y7 (g:=λi j=>decide (j<i)) (A4 (i:=3) rfl) A8)) (λhc=>?_) (λhc=>O7 ?_)
   .rw[Aj,Ak,Ak]at hc;have es:stN L i q=(L.map λx=>opN x i q++opN x q i).flatten:=by
     unfold stN;rw[ble_iff.mpr (show i+1<=q by lia),ble_iff.mpr (show 3<=q by lia)];rfl
    rw[es];refine B1 (G3 (ds:=[]) (F5 A7) ?_ (show 4<8 by decide))
    have B:∀x (a b:Nat),(opN x a b).length<=1:=λx a b=>by
     unfold opN;cases (Nat.ble 3 a&&Nat.ble (x.2.count a) 2) <;> simp
    have fll:∀k,(((L.take k).map λx=>opN x i q++opN x q i).flatten).length<=2*k:=λk=>by
     induction k with
     | zero=>simp
     | succ k ih=>
      rw[Cv,Ad2,List.flatten_append,Ab7];have h3:(((L[k]?.toList).map λx=>opN x i q++opN x q i).flatten).length<=2:=by
       cases L[k]? with
       | none=>simp
       | some x=>
        have h1:=B x i q
        have h2:=B x q i
        show((opN x i q++opN x q i)++[]).length<=2
        rw[Bj,Ab7]
        lia
      lia
    refine B1 (U7 (W9 (ds:=L.map vD) (A4 (i:=1) rfl)) (λk ρ=>∃p Y c,(p.nb=true/\Y.nb=true/\c.nb=true)/\ρ=[.val (.tuple (y.map tN)),.val (.list (L.map vD)),.val (.int (i:Int)),.val (.int (q:Int)),.own ((((L.take k).map λx=>opN x i q++opN x q i).flatten).map vD),p,Y,c]) ⟨p,Y,c,⟨N,R,U⟩,by simp⟩ ?_ ?_)
    .rintro k d _ hk ⟨p,Y,c,⟨N,R,U⟩,rfl⟩;rw[Aa9]at hk;obtain⟨x,hx,rfl⟩:=Cm.mp hk;have hkL:k<L.length:=(Ab0.mp hx).1;have hxb:=hLx x (Az hx);have hfl:=fll k;refine⟨_,aY8 (ds:=[aD x.1,tN x.2]) (P5 C8 (P5 C8 aL3)),?_⟩;have etk:((L.take (k+1)).map λx=>opN x i q++opN x q i).flatten=((L.take k).map λx=>opN x i q++opN x q i).flatten++(ops x i q).flatten:=by
      rw[Cv,hx,Ad2,List.flatten_append]
      simp[ops]
     rw[etk];generalize ((L.take k).map λx=>opN x i q++opN x q i).flatten=M at hfl ⊢
     show W K _ [.val (.tuple (y.map tN)),.val (.list (L.map vD)),.val (.int (i:Int)),.val (.int (q:Int)),.own (M.map vD),.val (aD x.1),.val (tN x.2),c] _
     refine U7 (aM3 (ds:=[tI [(i:Int),(q:Int)],tI [(q:Int),(i:Int)]]) (M3 (A3 (M3 (A3 (A4 (i:=2) rfl) (A3 (A4 (i:=3) rfl) A7))) (A3 (M3 (A3 (A4 (i:=3) rfl) (A3 (A4 (i:=2) rfl) A7))) A7)))) (λl ρ=>∃c,c.nb=true/\ρ=[.val (.tuple (y.map tN)),.val (.list (L.map vD)),.val (.int (i:Int)),.val (.int (q:Int)),.own ((M++((ops x i q).take l).flatten).map vD),.val (aD x.1),.val (tN x.2),c]) ⟨c,U,by simp⟩ ?_ ?_
     .rintro l d _ hl ⟨c,U,rfl⟩;obtain⟨u,v,rfl,hop,hv⟩:∃u v:Nat,d=tI [(u:Int),(v:Int)]/\(ops x i q)[l]? = some (opN x u v)/\v<16:=by
       match l,hl with
       | 0,hl=>exact⟨i,q,(Ab4 hl).symm,rfl,by lia⟩
       | 1,hl=>exact⟨q,i,(Ab4 hl).symm,rfl,by lia⟩
      have et:((ops x i q).take (l+1)).flatten=((ops x i q).take l).flatten++opN x u v:=by
       rw[Cv,hop,List.flatten_append];simp
      have hM:(M++((ops x i q).take l).flatten).length<=2*4096+2:=by
       have h1:=B x i q
       have h2:=B x q i
       have:(((ops x i q).take l).flatten).length<=2:=by
        match l with
        | 0=>simp
        | 1=>simp[ops];lia
        | l+2=>simp[ops];lia
       rw[Ab7];lia
      rw[et,<- Ad7];generalize M++((ops x i q).take l).flatten=M2 at hM ⊢;refine⟨_,C8,?_⟩;show W K _ [.val (.tuple (y.map tN)),.val (.list (L.map vD)),.val (.int (i:Int)),.val (.int (q:Int)),.own (M2.map vD),.val (aD x.1),.val (tN x.2),.val (tI [(u:Int),(v:Int)])] _;have a0:∀{m:Bool},LV.E K m (tOp (rIx K) (E1 7) (tC (.int 0))) [.val (.tuple (y.map tN)),.val (.list (L.map vD)),.val (.int (i:Int)),.val (.int (q:Int)),.own (M2.map vD),.val (aD x.1),.val (tN x.2),.val (tI [(u:Int),(v:Int)])] (.int (u:Int)):=λ{m}=>F6 (ds:=[.int (u:Int),.int (v:Int)]) (A4 (i:=7) rfl) A8 rfl rfl
      have ct:=cF6 (K:=K) (m:=false) (ρ:=[.val (.tuple (y.map tN)),.val (.list (L.map vD)),.val (.int (i:Int)),.val (.int (q:Int)),.own (M2.map vD),.val (aD x.1),.val (tN x.2),.val (tI [(u:Int),(v:Int)])]) (l:=x.2.map λ(x:Nat)=>(x:Int)) (by rw[<- cO6];exact A4 (i:=6) rfl) (a0 (m:=false))
      rw[bJ3]at ct;refine aJ7 (b:=decide ((2:Int)<(u:Int))&&decide (((x.2.count u:Nat):Int)<3)) (cF7 (J8 (y7 (g:=λi j=>decide (j<i)) (a0 (m:=false)) A8)) λ_=>J8 (y7 (g:=λi j=>decide (i<j)) ct A8)) (λhc=>?_) (λhc=>O7 ?_)
      .rw[Aj,Ak,Ak]at hc;have eo:opN x u v=[(x.1++[16*u+v],x.2++[u])]:=by
        unfold opN;rw[ble_iff.mpr (show 3<=u by lia),ble_iff.mpr (show x.2.count u<=2 by lia)];rfl
       rw[eo,Ad2];have e1:=cN9 (K:=K) (m:=true) (ρ:=[.val (.tuple (y.map tN)),.val (.list (L.map vD)),.val (.int (i:Int)),.val (.int (q:Int)),.own (M2.map vD),.val (aD x.1),.val (tN x.2),.val (tI [(u:Int),(v:Int)])]) (ds:=(x.1.map dc).map pD) (es:=[pD (dc (16*u+v))]) (A4 (i:=5) rfl) (M3 (A3 (by rw[aA2 hv];exact A4 (i:=7) rfl) A7)) (aB3 _) (by rw[aA2 hv];rfl) (by rw[Aa3,Aa3];unfold sizeLine;simp;lia)
       have e2:=cN9 (K:=K) (m:=true) (ρ:=[.val (.tuple (y.map tN)),.val (.list (L.map vD)),.val (.int (i:Int)),.val (.int (q:Int)),.own (M2.map vD),.val (aD x.1),.val (tN x.2),.val (tI [(u:Int),(v:Int)])]) (ds:=nI x.2) (es:=[.int (u:Int)]) (A4 (i:=6) rfl) (M3 (A3 a0 A7)) (E6 _) rfl (by rw[C7];unfold sizeLine;simp;lia)
       have ed:(PyData.tuple [.tuple ((x.1.map dc).map pD++[pD (dc (16*u+v))]),.tuple (nI x.2++[.int (u:Int)])])=vD (x.1++[16*u+v],x.2++[u]):=by
        unfold vD aD tN;rw[Ad2,Ad2,Y6];rfl
       refine Q8 (d:=vD (x.1++[16*u+v],x.2++[u])) rfl (by rw[<- ed];exact M3 (A3 e1 (A3 e2 A7))) (by rw[Aa3];unfold sizeLine;lia) ⟨_,rfl,rfl⟩
      .have eo:opN x u v=[]:=by
        unfold opN;rw[Bool.and_eq_false_iff,Ci,Ci]at hc
        have:(Nat.ble 3 u&&Nat.ble (x.2.count u) 2)=false:=by
         rw[Bool.and_eq_false_iff];rcases hc with hc | hc
         .exact .inl (Bool.eq_false_iff.mpr λz=>hc (by have:=ble_iff.mp z;lia))
         .exact .inr (Bool.eq_false_iff.mpr λz=>hc (by have:=ble_iff.mp z;lia))
        rw[this];rfl
       rw[eo,Bj];exact⟨_,rfl,rfl⟩
     .rintro _ ⟨c,U,rfl⟩;exact⟨.val (aD x.1),.val (tN x.2),c,⟨rfl,rfl,U⟩,rfl⟩
    .rintro _ ⟨p,Y,c,⟨N,R,U⟩,rfl⟩;rw[Aa3,De];refine aV8 (i:=4) rfl ?_;refine K7 (A4 (i:=4) rfl) ⟨.val (.int (q:Int)),_,p,Y,c,⟨rfl,rfl,N,R,U⟩,rfl⟩
   .have es:stN L i q=L:=by
     unfold stN;rw[Bool.and_eq_false_iff,Ci,Ci]at hc
     have:(Nat.ble (i+1) q&&Nat.ble 3 q)=false:=by
      rw[Bool.and_eq_false_iff];rcases hc with hc | hc
      .exact .inl (Bool.eq_false_iff.mpr λz=>hc (by have:=ble_iff.mp z;lia))
      .exact .inr (Bool.eq_false_iff.mpr λz=>hc (by have:=ble_iff.mp z;lia))
     rw[this];rfl
    rw[es];exact⟨.val (.int (q:Int)),X,p,Y,c,⟨rfl,b4,N,R,U⟩,rfl⟩
  .rintro _ ⟨J,X,p,Y,c,⟨b3,b4,N,R,U⟩,rfl⟩;refine⟨.val (.int (i:Int)),J,X,p,Y,c,⟨rfl,b3,b4,N,R,U⟩,?_⟩;rw[C7,cS8]
 rintro _ ⟨x2,J,X,p,Y,c,⟨b2,b3,b4,N,R,U⟩,rfl⟩;have e:(R8 0 ((y.map tN).length:Int).toNat).length=y.length:=by rw[P4,D];lia
 rw[e];have hv2:=ck.v2;obtain⟨hVl,hVx⟩:=dL0 vt;have cm:=K5 (K:=K) (m:=true) (ρ:=[.val (.tuple (y.map tN)),.val (.list ((vsN (gpN y y.length)).map vD)),x2,J,X,p,Y,c]) (n:=2) (is:=[]) (g:=bR7 K 2 (Z3 (G5 0) (Z3 (G5 1) bE7))) (tt:=aE1) (te:=_) fSo (W9 (ds:=(vsN (gpN y y.length)).map vD) (A4 (i:=1) rfl)) (by rw[Aa3];unfold sizeLine;lia) (λd hd=>by
  obtain⟨x,hx,rfl⟩:=Aa8.mp hd;have hxb:=hVx x hx;rw[cK2];have eo:LV.E K false (E1 0) ((slC [.val (.tuple (y.map tN)),.val (.list ((vsN (gpN y y.length)).map vD)),x2,J,X,p,Y,c] 2 []).set 0 (.val (aD x.1)) |>.set 1 (.val (tN x.2))) (.tuple ((x.1.map λe=>toL (dc e)).map tI)):=by
   have:=aY3 x.1
   unfold nD aN at this;rw[<- this];exact A4 (i:=0) rfl
  refine⟨_,aY8 (ds:=[aD x.1,tN x.2]) (P5 C8 (P5 C8 aL3)),Z1,?_⟩;have so:=cB6 (ts:=x.1.map λe=>toL (dc e)) (ss:=(isN x.1).map λe=>toL (dc e)) (A3 eo A7) (λt ht z=>by obtain⟨e,_,rfl⟩:=Aa8.mp ht;cases z) ((hv2 x hx).imp (λz=>by rw[z];rfl) (λz=>by rw[Aa3];exact z)) (by rw[Aa3];lia) ((O9 _).map _) (Ae0.mpr ((aN3 _).imp λh=>cK5 h))
  have e2:((isN x.1).map λe=>toL (dc e)).map tI=((isN x.1).map dc).map pD:=by rw[Ae3,Ae3];rfl
  rw[e2]at so;exact j8 (A3 (EF.e' so) A7) (aB3 _))
 rw[cW7]at cm;have hpm:(FF y).Perm (VV y):=(W1 _).symm.trans (ck.eq▸W1 _);have cm:=EF.to cm (es:=((VV y).map aN).map nD) (by show(VV y).map aD=_;rw[Ae3 (f:=aN)];exact Al λA _=>aY3 A)
 have so:=bK7 (ts:=(VV y).map aN) (ss:=(isL (VV y)).map aN) (A3 (EF.e' cm) A7) ?_ (by rw[Aa3];have:=ck.vl;lia) ((W1 _).map aN) (Ae0.mpr (bG1 _))
 .rw[Ae3]at so;have e:(isL (VV y)).map (nD ∘ aN)=(isL (VV y)).map aD:=Al λA _=>(aY3 A).symm
  rw[e]at so;exact aT7 so rfl
 .rw[Aa3,<- hpm.length_eq];refine ck.ne.imp id λh t ht=>?_
  obtain⟨A,hA,rfl⟩:=Aa8.mp ht
  have:=h A (hpm.mem_iff.mpr hA)
  refine⟨λz=>this (List.map_eq_nil_iff.mp z),λx hx z=>?_⟩
  obtain⟨e,_,rfl⟩:=Aa8.mp hx;cases z
end
end K40
namespace L2
open PySem PySem.Spec PyProof.Rows
section
variable {prog:Program}{w:World}{A:Around}{E:Dz}
theorem bT0 {a:Addr}{cs:AH}{vs:List Bool}{tp:Addr}{tk:Tok}{s:Shared}{Q:Fin->Shared->Prop}(X:s.TypeIs (.ref a) "tuple")(r:IsTup s.heap tp cs.toArray)(Y:AnswersAll (λs=>s.TypeIs (.ref a) "tuple") (.ref a) cs vs)
  (c:∀tk',Q (.done (.ret (.bool (vs.any id)))) {s with toks:=tk'}):wpAny (model prog w) A (Builtin.«isinstance.nested» ⟨[.ref a,.ref tp,.int 0 tk],[]⟩) Q E s:=by
 obtain⟨o,q,k⟩:=X;obtain⟨h,g,d,t,os⟩:=s;obtain⟨J,U,e,n,y⟩:=r;have m:(⟨h,g,d,t,os⟩:Shared).TypeIs (.ref tp) "tuple" := ⟨_,U,e⟩;have f1:=F.isi_sub_tuple;have j:(Value.type "tuple" == Value.ref tp)=false:=by rfl
 repeat (any_goals (first | assumption | (with_reducible refine wpAny_loadPart_at q ?_;rw[k]) | wp_step))
 rw[y];refine Ae ?_;refine Aa ?_;simp only[Option.getD_some];rw[<- Array.forIn_toList,List.toList_toArray];refine isinstance_items (dep:=0) (P:=λs=>s.TypeIs (.ref a) "tuple") (λs tk z=>z) cs vs _ _ Y ⟨o,q,k⟩ λtk'=>?_
 cases p:vs.any id with
 | true=>
  simp only[if_true]
  repeat (any_goals (first | assumption | wp_step))
  exact p▸c tk'
 | false=>
  simp only[Bx,if_false]
  repeat (any_goals (first | assumption | wp_step))
  exact p▸c tk'
end
section
variable {X:Cx}
def cZ7 (K:Frag)(xs:List V)(H:Hp)(Q:VK):Prop:=∃a p ys,xs=[.ref a,.ref p]/\SqT K H a ys/\SqT K H p [.ty "list",.ty "tuple"]/\Q (.bl true) H
theorem bZ8 (K:Frag)(J:X.K=K:=by rfl):U3 X (.builtin "isinstance") (cZ7 K):=by
 subst J;intro aA s σ H xs us Q I r h;obtain⟨a,p,ys,rfl,M,hp,q⟩:=h;obtain⟨j,_,pl,_⟩:=I.tuple M;obtain⟨its,P,tp,_⟩:=I.tuple hp;cases r with
 | cons N D=>
  cases D with
  | cons F B=>
   cases B;cases N;cases F
   have k:s.TypeIs (.ref a) "tuple" := by obtain⟨o,e,c,_⟩:=pl;exact⟨o,e,c⟩
   have hi:its=[.type "list",.type "tuple"]:=by
    cases P with
    | cons h1 m=>cases m with | cons Y U=>cases U;cases h1;cases Y;rfl
   subst hi;have w:AnswersAll (λs=>s.TypeIs (.ref a) "tuple") (.ref a) [.type "list",.type "tuple"] [false,true]:=
    ⟨Answers.of_false_tuple (by decide) (by kernel_rfl) (by rw[Aq];kernel_rfl),Answers.of_true (by kernel_rfl) (by rw[Aq];kernel_rfl),trivial⟩
   exact Ax (S:=λ_ R s=>(s.TypeIs (.ref a) "tuple" /\ IsTup s.heap p [Value.type "list",Value.type "tuple"].toArray)/\∀y,R (.ok (.ret (.bool true))) {s with toks:=y}) (λ_ _ _ _ _ z=>isinstance_outer (bT0 z.1.1 z.1.2 w λy=>z.2 y) (by intro q;cases q)) ⟨⟨k,tp⟩,λy=>⟨.bl true,H,I.tok _,rfl,q⟩⟩
end
end L2
namespace LV
open PySem L2 PyProof.Rows
section
variable {K:Frag}{ρ:List Sl}{m:Bool}{ta:TE}{ds:AG}
theorem dF2 (e:E K false ta ρ (.tuple ds)):E K m (tCB (cZ7 K) (C0 ta (C0 (aM6 (C0 (tC (.ty "list")) (C0 (tC (.ty "tuple")) O1))) O1))) ρ (.bool true):=E.bor (E.imm (m:=false) λS B σ H o I Q q=>e S B σ H o I _ λv H1 y r=>by
 cases r with
 | @tup a xs _ sq rr=>
  have sq:SqT K H1 a xs:=sq
  refine⟨by show 2<=sizeLine;decide,λp hp=>?_⟩
  have g:=C9 (o:=.tup [.ty "list",.ty "tuple"]) hp
  exact⟨a,p,xs,rfl,E5 g sq,SqT.of C2,q _ _ (L2.Same.tr y g) (.bl _)⟩)
end
end LV
set_option maxHeartbeats 1000000
namespace K40
open PySem L2 LV PyProof.Rows
theorem sc__law_rows_of:D9 ["_law_found", "_law_many", "_law_row"] ["_law_found", "_law_many"] (B2 W4):=⟨rfl,rfl,rfl,by decide +kernel,rfl,by decide +kernel,by decide +kernel⟩
theorem sc__law_kinds:D9 ["_law_e", "_law_one", "_law_two"] ["_law_e"] (B2 t4):=⟨rfl,rfl,rfl,by decide +kernel,rfl,by decide +kernel,by decide +kernel⟩
theorem sc__law_refused:D9 ["_law_drawing", "_law_most", "_law_kinds_here", "_law_e"] ["_law_drawing", "_law_most"] (B2 W5):=⟨rfl,rfl,rfl,by decide +kernel,rfl,by decide +kernel,by decide +kernel⟩
theorem dH1:typeOf (.type "ValueError")=pure (.type "type"):=by unfold typeOf;rfl
theorem X0 {K:Frag}{C D:Addr}(q:XCl K D)(s:PySem.W.subIn K (.ref C) (.ref D)=some false)(s':PySem.W.subIn K (.ref C) (.ref C)=some true):XIs K C (.ref D) false:=⟨q,s,λe=>by rw[e,s']at s;cases s⟩
def dA4 (ds:AG)(d:PyData):Prop:=∃A:AD,A.length<=1000/\ds=[aD A,.int 2]/\d=.bool true
def b3 (x y z:Bool):PyData:=.tuple [.bool x,.bool y,.bool z]
def dA1 (C:Addr)(ds:AG)(d:PyData):Prop:=∃fs,ds=[xfD C fs]/\d=b3 true true false
def cL3 (ds:AG)(d:PyData):Prop:=∃(m:Nat) (dr tr:AA) (mo:Int),Dw m dr tr/\m<5/\1<=mo/\mo<((FF dr).length:Int)/\ds=[.tuple (dr.map tN),.int mo]/\d=.bool true
theorem cJ0 (x y z:Bool):Fit (b3 x y z):=(aH4 (n:=0) λd e=>by
 simp only[Aa1,Ac2,or_false]at e;rcases e with rfl | rfl | rfl <;> exact⟨rfl,by simp[PyData.depth]⟩).fit
section
variable {P:Program}{w:World}{K:Frag}{mg:Str->Option Value}{base:Heap}{a:Ad}
theorem dQ3 (T:Tx K mg a):E9 P w K mg base CX0 2 a.W6 a.V7 ["_law_found", "_law_many"] (spV K dA4):=by
 have y:E9 P w K mg base CX0 1 _ _ _ _:=cQ6 T
 refine T.y0.ok sc__law_rows_of (v6 (by rintro ds d ⟨_,_,e,_⟩;rw[e];rfl)) (λX A k s H vs Q E N h=>?_)
 obtain⟨ds,S,d,J,r,⟨L,h1,rfl,rfl⟩,q⟩:=h;refine⟨_,(A5 (U8 (aA5 (W2 (B0 (bZ8 K) (by rfl) T.E7 boot_isinstance (A1 (pv 0) (A1 (E2 (A1 (aL4 rfl T.aE0 boot_list) (A1 (aL4 rfl T.P6 boot_tuple) A2))) A2))))) (A9 (E8 v4)) M0)
   (A5 (O8 Au rfl (z6 (pv 0)) (B7 (i:=2) sc__law_rows_of.nd rfl (Or.inl rfl)) (A9 (U8 (PW.pt (cN1 (aA5 (W2 (B0 (dF8 K) (by rfl) T.E7 boot_isinstance (A1 (pv 2) (A1 (aL4 rfl T.P6 boot_tuple) A2))))) (cN1 (F9 dR4 (B0 (aD5 K) (by rfl) T.N5 Ar (A1 (pv 2) A2)) (pv 1) (K4 _)) (cG7 (aA5 (W2 (B0 (aA8 K rfl) (by rfl) T.aY5 boot_all (A1 (M1 (T:=["_law_place"]) (N':=["_law_place"]) (is:=[]) rfl (.of rfl rfl rfl (by exact trivial) rfl rfl rfl (by exact trivial)) (z6 (pv 2)) (L6 (by decide)) λ_ _ _ _=>⟨(B7 (i:=0) (by decide +kernel:(["_law_place"]:AJ).Nodup) rfl (Or.inl rfl)),M8,(C6 y (N.mono (by decide)) rfl T.bC6 T.aF2.kp T.bF2 .nil G6 (A1 (pv 0) A2))⟩) A2)))))))) (A9 (E8 v4)) M0)))
   (A9 (E8 v4)))),O0 J r ?_ q⟩
 refine B1 (aJ7 (b := !true) (aL8 (t_b (dF2 (ds:=(L.map dc).map pD) (A4 (i:=0) rfl)))) (λh=>by cases h) (λ_=>O7 ?_))
 refine B1 (U7 (aM3 (ds:=(L.map dc).map pD) (A4 (i:=0) rfl)) (λi ρ=>∃c,ρ=[.val (aD L),.val (.int 2),c]) ⟨.no,rfl⟩ ?_ ?_)
 .rintro i d _ z ⟨c,rfl⟩;rw[Aa9]at z;obtain⟨p,M,rfl⟩:=Cm.mp z;refine⟨_,C8,?_⟩;show W K _ [.val (aD L),.val (.int 2),.val (pD p)] _;have Y:=dO4 (K:=K) (m:=false) (ρ:=[.val (aD L),.val (.int 2),.val (pD p)]) (U2 (ds:=[.int p.1,.int p.2]) (A3 (A4 (i:=2) rfl) A7)) (A4 (i:=1) (d:=.int 2) rfl);have U:=K5 (K:=K) (m:=true) (ρ:=[.val (aD L),.val (.int 2),.val (pD p)]) (n:=1) (is:=[]) (g:=G5 0) (tt:=aE1) (te:=X9 (spV K bJ9) [] E0 (C0 (E1 0) O1)) (λ_=>some (.bool true)) (aM3 (ds:=[PyData.int p.1,.int p.2]) (A4 (i:=2) rfl)) (show 2<sizeLine by decide) (λd z=>by
   obtain⟨j,rfl⟩:∃j,d=.int j:=by
    simp only[Aa1,Ac2,or_false]at z;rcases z with rfl | rfl <;> exact⟨_,rfl⟩
   exact⟨_,C8,Z1,H9 (A3 (A4 (i:=0) rfl) A7) ⟨j,rfl,rfl⟩⟩)
  refine aJ7 (b := !true||((!decide ((2:Int)=2)) || !(([true,true]).all id))) (dH3 (aL8 (t_b (bK9 (T := "tuple") (d:=pD p) (A4 (i:=2) rfl)))) λ_=>dH3 (J8 Y) λ_=>aL8 (t_b (bU7 (l:=[true,true]) (A3 (EF.e' U) A7)))) (λh=>by simp at h) (λh=>O7 ⟨_,rfl⟩)
 .rintro _ ⟨c,rfl⟩;exact S3 bS8 rfl
theorem dO0 (T:Tx K mg a):bW9 P w K mg base 1 a.u4 a.u3 ["_law_e"] (spV K (dA1 a.D7)):=by
 refine T.aH1.okU sc__law_kinds (v6 λds d ⟨_,e,_⟩=>by rw[e];rfl) (λk A z s H vs Q E c h=>?_)
 obtain⟨ds,S,d,j,r,⟨fs,rfl,rfl⟩,q⟩:=h;refine⟨_,(A5 (B5 (i:=1) sc__law_kinds.nd rfl (Or.inl rfl) (B0 (aB8 K) (by rfl) T.E7 boot_isinstance (A1 (pv 0) (A1 (E2 (A1 (N6 (v:=.ref a.M9) rfl T.bM8 rfl) (A1 (N6 (v:=.ref a.T8) rfl T.cC7 rfl) (A1 (N6 (v:=.ref a.T7) rfl T.cO8 rfl) (A1 (N6 (v:=.ref a.v8) rfl T.dI8 rfl) (A1 (N6 (v:=.ref a.N8) rfl T.bR1 rfl) A2)))))) A2))))
   (A5 (B5 (i:=2) sc__law_kinds.nd rfl (Or.inl rfl) (B0 (aB8 K) (by rfl) T.E7 boot_isinstance (A1 (pv 0) (A1 (E2 (A1 (N6 (v:=.ref a.P2) rfl T.cH5 rfl) (A1 (N6 (v:=.ref a.N3) rfl T.bZ1 rfl) (A1 (N6 (v:=.ref a.T5) rfl T.cT5 rfl) (A1 (N6 (v:=.ref a.P3) rfl T.cI2 rfl) (A1 (N6 (v:=.ref a.P0) rfl T.cK4 rfl) (A1 (N6 (v:=.ref a.F4) rfl T.aV1 rfl) A2))))))) A2))))
   (A9 (E8 (E2 (A1 (B0 (aB8 K) (by rfl) T.E7 boot_isinstance (A1 (pv 0) (A1 (aL4 rfl T.j7 PyProof.Rows.Boot.«ValueError») A2))) (A1 (B0 (aB8 K) (by rfl) T.E7 boot_isinstance (A1 (pv 0) (A1 (N6 (v:=.ref a.D7) rfl T.aY0 rfl) A2))) (A1 (cY5 (pv 1) (aP9 (pv 2))) A2)))))))),O0 j r ?_ q⟩
 have y:=X6 T.E3 10 rfl
 refine B1 (K7 (d:=.bool false) (bW1 (fs:=fs) (bs:=[false,false,false,false,false]) (A4 rfl) T.V1 T.i5 (λσ H Q h=>h) ⟨X0 T.bN3 (X6 T.E3 1 rfl) y,X0 T.cG2 (X6 T.E3 2 rfl) y,X0 T.cP4 (X6 T.E3 3 rfl) y,X0 T.dD7 (X6 T.E3 4 rfl) y,X0 T.bP3 (X6 T.E3 5 rfl) y,trivial⟩ (show 5<=sizeLine by decide)) ?_)
 refine B1 (K7 (d:=.bool false) (bW1 (fs:=fs) (bs:=[false,false,false,false,false,false]) (A4 rfl) T.V1 T.i5 (λσ H Q h=>h) ⟨X0 T.cE8 (X6 T.E3 6 rfl) y,X0 T.cA3 (X6 T.E3 7 rfl) y,X0 T.cV0 (X6 T.E3 8 rfl) y,X0 T.cN8 (X6 T.E3 9 rfl) y,X0 T.cN6 (X6 T.E3 11 rfl) y,X0 T.aV4 (X6 T.E3 12 rfl) y,trivial⟩ (show 6<=sizeLine by decide)) ?_)
 show W K _ [.val (xfD a.D7 fs),.val (.bool false),.val (.bool false)] _
 exact S3 (M3 (A3 (cD0 (fs:=fs) (A4 rfl) T.V1 T.i5 ⟨dH1,X6 T.E3 13 rfl⟩) (A3 (cD0 (b:=true) (fs:=fs) (A4 rfl) T.V1 T.i5 ⟨T.i5,y,λ_=>rfl⟩) (A3 (dQ7 (a:=false) (b:=false) (A4 rfl) λ_=>A4 rfl) A7)))) rfl
theorem dO2 (T:Tx K mg a):E9 P w K mg base CX0 6 a.V3 a.V4 ["_law_drawing", "_law_most"] (spV K cL3):=by
 have z:E9 P w K mg base (CXd P w) 5 _ _ _ _:=dB2 T
 have y:bW9 P w K mg base 1 _ _ _ _:=dO0 T
 refine T.V5.ok sc__law_refused (v6 λds d ⟨_,_,_,_,_,_,_,_,e,_⟩=>by rw[e];rfl) (λN A Y s H vs Q E c h=>?_)
 obtain⟨ds,S,d,D,r,⟨m,k,tr,p,U,M,h1,R,rfl,rfl⟩,q⟩:=h;refine⟨_,(A5 (B5 (i:=2) sc__law_refused.nd rfl (Or.inl rfl) (E2 (A1 v4 (A1 v4 (A1 v4 A2)))))
   (A5 (cR7 (j:=3) (cJ1 z (c.mono (by decide)) rfl T.aG5 T.r6.kp T.aG6 .nil (A1 (pv 0) (A1 (pv 1) A2))) rfl T.bC4 (aZ1 T.n9) sc__law_refused.nd rfl rfl rfl rfl λe=>(A9 (B5 (i:=2) sc__law_refused.nd rfl (Or.inl rfl) (cI6 y (c.u.mark.mono (by decide)) rfl T.bC0 T.aH1.kp T.bE3 .nil (A1 (pv 3) A2)))))
   (A9 (E8 (aG0 (cD7 K c) (pv 2) (E2 (A1 v4 (A1 v4 (A1 v4 A2)))) (K4 _)))))),O0 D r ?_ q⟩
 have F:=(U.ck M).fl
 refine B1 (K7 (d:=b3 false false true) (M3 (A3 bS8 (A3 bS8 (A3 bS8 A7)))) ?_);show W K _ [.val (.tuple (k.map tN)),.val (.int p),.val (b3 false false true),.no] _;refine B1 (dK4 (XP:=λC J=>C=a.D7/\J=[]) (cV4 (ds:=[.tuple (k.map tN),.int p]) (A3 (A4 (i:=0) rfl) (A3 (A4 (i:=1) rfl) A7)) ⟨rfl,m,k,tr,p,U,M,h1,by lia,R,rfl,rfl⟩ ⟨rfl,rfl⟩) ?_)
 rintro C J ⟨rfl,rfl⟩;refine⟨aZ1 T.aC3,dG2 (X6 T.E3 0 rfl),?_⟩;refine K7 (d:=b3 true true false) (H9 (pre:=dA1 a.D7) (X:=E0) (A3 (A4 (i:=3) rfl) A7) ⟨_,rfl,rfl⟩) ?_;refine S3 (dA0 (d:=b3 true true false) (A4 (i:=2) rfl) (M3 (A3 bS8 (A3 bS8 (A3 bS8 A7)))) (cJ0 _ _ _) (cJ0 true true false)) ?_;show PyData.bool (PyData.eqv (b3 true true false) (b3 true true false))=_;unfold b3
 simp[PyData.eqv,PyData.eqvAll]
end
set_option maxHeartbeats 1000000
theorem sc_law:D9 ["_law_script", "_law_m", "_law_drawing", "_law_due", "_law_most", "_law_few", "_law_turn", "_law_found"] ["_law_script"] (B2 cN7):=⟨rfl,rfl,rfl,by decide +kernel,rfl,by decide +kernel,by decide +kernel⟩
def bU2 (K:Frag):Sp:=λvs H Q _=>∃(a:Addr) (ns:AF),vs=[.ref a]/\SqL K H a (ns.map V.int)/\ns.length<=63/\∀H',Q (.bl true) H'
def cS1 (xs:AF)(lo hi:Option Int):AF:=List.take (HT.sIx xs.length xs.length hi-HT.sIx xs.length 0 lo) (List.drop (HT.sIx xs.length 0 lo) xs)
theorem dS5 (xs:AF)(lo hi:Option Int):LV.y6 (xs.map PyData.int) lo hi=(cS1 xs lo hi).map PyData.int:=by
 unfold LV.y6 cS1;rw[Aa3,List.map_take,List.map_drop]
theorem EI.to {K:Frag}{t:TE}{ρ:List Sl}{m:Bool}{i j:Int}(h:LV.E K m t ρ (.int i))(e:i=j):LV.E K m t ρ (.int j):=e▸h
section
variable {P:Program}{w:World}{K:Frag}{mg:Str->Option Value}{base:Heap}{a:Ad}
theorem dH5 (T:Tx K mg a):E9 P w K mg base CX0 7 a.bH1 a.aX5 ["_law_script"] (bU2 K):=by
 have c:E9 P w K mg base CX0 1 _ _ _ _:=aO6 T
 have y:E9 P w K mg base CX0 1 _ _ _ _:=bY0 T
 have J:E9 P w K mg base CX0 3 _ _ _ _:=cK9 T
 have N:E9 P w K mg base CX0 1 _ _ _ _:=dH4 T
 have p:E9 P w K mg base CX0 6 _ _ _ _:=dO2 T
 have M:E9 P w K mg base (CXd P w) 5 _ _ _ _:=dB2 T
 have U:E9 P w K mg base CX0 2 _ _ _ _:=dQ3 T
 refine T.dR6.ok sc_law (λvs H Q E ⟨_,_,e,_⟩=>by rw[e];rfl) (λcdv A outer s H vs Q E R h=>?_)
 obtain⟨ad,Y,rfl,hS,hl,q⟩:=h;have r:Reps K (hid (λ_=>False) H) [V.ref ad] [lI Y]:=by rw[cM1];exact .cons (.lst hS (aK1 Y)) .nil
 refine⟨_,(A5 (B5 (i:=1) sc_law.nd rfl (Or.inl rfl) (B4 U6 (C6 c (R.mono (by decide)) rfl T.Q7 T.O6.kp T.R6 .nil G6 (A1 (C6 y (R.mono (by decide)) rfl T.N9 T.M5.kp T.O2 .nil G6 (A1 (pv 0) (A1 A6 A2))) (A1 A6 A2))) A6))
   (A5 (B5 (i:=2) sc_law.nd rfl (Or.inl rfl) (B9 (ixK K) (C6 J (R.mono (by decide)) rfl T.bB8 T.aI7.kp T.bE4 .nil G6 (A1 (C6 y (R.mono (by decide)) rfl T.N9 T.M5.kp T.O2 .nil G6 (A1 (pv 0) (A1 A6 A2))) (A1 (T9 (dT5 K) (pv 0) (T6 A6) (T6 A6)) (A1 (pv 1) A2)))) A6 (λ_ _=>rfl)))
   (A5 (B5 (i:=3) sc_law.nd rfl (Or.inl rfl) (C6 N (R.mono (by decide)) rfl T.bQ4 T.aT3.kp T.bO7 .nil G6 (A1 (pv 2) A2)))
   (A5 (B5 (i:=4) sc_law.nd rfl (Or.inl rfl) (B9 (ixK K) (C5 (A1 (B0 (aD5 K) (by rfl) T.N5 Ar (A1 (pv 3) A2)) (A1 (B4 G4 (B0 (aD5 K) (by rfl) T.N5 Ar (A1 (pv 3) A2)) A6) (A1 A6 A2)))) (B4 U6 (C6 c (R.mono (by decide)) rfl T.Q7 T.O6.kp T.R6 .nil G6 (A1 (C6 y (R.mono (by decide)) rfl T.N9 T.M5.kp T.O2 .nil G6 (A1 (pv 0) (A1 A6 A2))) (A1 A6 A2))) A6) (λ_ _=>rfl)))
   (A5 (B5 (i:=5) sc_law.nd rfl (Or.inl rfl) (B9 (ixK K) (C5 (A1 (B4 S1 (B0 (aD5 K) (by rfl) T.N5 Ar (A1 (pv 3) A2)) A6) (A1 A6 A2))) (B4 U6 (C6 c (R.mono (by decide)) rfl T.Q7 T.O6.kp T.R6 .nil G6 (A1 (C6 y (R.mono (by decide)) rfl T.N9 T.M5.kp T.O2 .nil G6 (A1 (pv 0) (A1 A6 A2))) (A1 A6 A2))) A6) (λ_ _=>rfl)))
   (A5 (U8 (PW.pt (bT2 (F9 aD0 (B0 (aD5 K) (by rfl) T.N5 Ar (A1 (pv 3) A2)) A6 (K4 _)) (bD0 (aA5 (W2 (C6 p (R.mono (by decide)) rfl T.aA1 T.V5.kp T.w4 .nil G6 (A1 (pv 2) (A1 (pv 5) A2)))))))) (A9 (E8 v4)) M0)
   (A5 (O8 Au rfl (J9 rfl T.K6 (A1 A6 A2)) (B7 (i:=6) sc_law.nd rfl (Or.inl rfl)) (A5 (B5 (i:=7) sc_law.nd rfl (Or.inl rfl) (C6 M (R.mono (by decide)) rfl T.aG5 T.r6.kp T.aG6 .nil dI6 (A1 (pv 2) (A1 (pv 4) A2))))
   (A5 (U8 (PW.pt (cN1 (aA5 (W2 (B0 (dF8 K) (by rfl) T.E7 boot_isinstance (A1 (pv 7) (A1 (aL4 rfl T.aE0 boot_list) A2))))) (cG7 (F9 (dJ4 K R) (pv 7) (pv 3) (K4 _))))) (A9 (E8 v4)) M0)
   (A5 (U8 (aA5 (W2 (B0 (aA8 K rfl) (by rfl) T.aY5 boot_all (A1 (M1 (T:=["_law_arrows"]) (N':=["_law_arrows"]) (is:=[]) rfl (.of rfl rfl rfl (by exact trivial) rfl rfl rfl (by exact trivial)) (S0 (pv 7)) (L6 (by decide)) λ_ _ _ _=>⟨(B7 (i:=0) (by decide +kernel:(["_law_arrows"]:AJ).Nodup) rfl (Or.inl rfl)),M8,(bQ1 (B0 (dF8 K) (by rfl) T.E7 boot_isinstance (A1 (pv 0) (A1 (aL4 rfl T.P6 boot_tuple) A2))) (aP9 (C6 U (R.mono (by decide)) rfl T.aS8 T.y0.kp T.aQ1 .nil G6 (A1 (pv 0) (A1 A6 A2)))))⟩) A2)))) (A9 (E8 v4)) M0)
   (A9 (F8 (L8 Ab1 Ah Ag E4 (pv 7) (A1 (E2 A2) A2))))))))
   (A9 (E8 (cY5 (aG0 aT2 (B0 (aD5 K) (by rfl) T.N5 Ar (A1 (pv 3) A2)) A6 (K4 _)) (aP9 (C6 p (R.mono (by decide)) rfl T.aA1 T.V5.kp T.w4 .nil G6 (A1 (pv 2) (A1 (B4 S1 (B0 (aD5 K) (by rfl) T.N5 Ar (A1 (pv 3) A2)) A6) A2)))))))))))))),O0 (d:=.bool true) (by intro b hb;exact hb.elim) r ?_ (by intro v H' _ rv;cases rv;exact q H')⟩
 have cel:∀{mm:Bool} {ρ:List Sl} (k:Nat),ρ[0]? = some (.val (lI Y))->LV.E K mm (X9 (spV K bU9) [] E0 (C0 (E1 0) (C0 (tC (.int (k:Int))) O1))) ρ (.int (cl Y (k:Int))):=λ{mm ρ} k h0=>H9 (A3 (A4 (i:=0) h0) (A3 A8 A7)) ⟨Y,(k:Int),by lia,rfl,rfl⟩
 obtain⟨m,hm,hm5⟩:∃m:Nat,mx (cl Y 0) 90 % 5=(m:Int)/\m<5:=⟨(mx (cl Y 0) 90 % 5).toNat,by lia,by lia⟩
 refine B1 (K7 (d:=.int (m:Int)) (EI.to (e_i (H9 (A3 (cel 0 rfl) (A3 A8 A7)) ⟨cl Y 0,90,⟨by lia,by lia⟩,rfl,rfl⟩) A8 (by decide)) hm) ?_)
 obtain⟨z,tr,B⟩:=dM4 (TT.p6 (nu (cl Y 1) (cS1 Y (some 2) (some 9))) m) (dM8 (cl Y 1) m);have dw:Dw m z tr:=⟨by lia,_,_,_,B⟩
 have ck:=dw.ck hm5
 refine B1 (K7 (d:=.tuple (z.map tN)) (F6 (ds:=[.tuple (z.map tN),.tuple (tr.map tN)]) (H9 (pre:=bK6) (X:=E0) (A3 (cel 1 rfl) (A3 (EF.e' (cJ4 (ds:=Y.map PyData.int) (A4 (i:=0) rfl) (Y7 A8) (Y7 A8) (aJ3 Y))) (A3 (A4 (i:=1) rfl) A7))) ⟨cl Y 1,cS1 Y (some 2) (some 9),m,z,tr,by lia,B,by rw[dS5];rfl,rfl⟩) A8 rfl rfl) ?_)
 refine B1 (G3 (ds:=(isL (FF z)).map aD) (aB1 (pre:=cE7) (X:=E0) (A3 (A4 (i:=2) rfl) A7) ⟨m,z,tr,dw,hm5,rfl,congrArg (List.map aD) ck.eq⟩) ?_ (show 3<8 by decide))
 refine aV8 (i:=3) rfl ?_;have hN1:1<=(FF z).length:=bD3 4 0 [A0 z];have hN3:=ck.fl;have hAl:∀A∈isL (FF z),A.length<=12:=λA hA=>by
  rw[ck.eq]at hA;have hA:=(W1 _).mem_iff.mp hA;unfold VV at hA;obtain⟨x,hx,rfl⟩:=Aa8.mp hA;rw[(O9 _).length_eq];exact((dL0 ck.vt).2 x hx).1
 have hlen:((isL (FF z)).map aD).length=(FF z).length:=by rw[Aa3,(W1 _).length_eq]
 show W K _ [.val (lI Y),.val (.int (m:Int)),.val (.tuple (z.map tN)),.val (.list ((isL (FF z)).map aD)),.no,.no,.no,.no] _
 have ln:∀{mm:Bool} {x4 x5 x6 x7:Sl},LV.E K mm _ [.val (lI Y),.val (.int (m:Int)),.val (.tuple (z.map tN)),.val (.list ((isL (FF z)).map aD)),x4,x5,x6,x7] (.int ((FF z).length:Int)):=λ{mm x4 x5 x6 x7}=>EI.to (U2 (d:=.list ((isL (FF z)).map aD)) (ds:=(isL (FF z)).map aD) (A3 (A4 (i:=3) rfl) A7)) (by rw[hlen])
 obtain⟨j,hj,hj3⟩:∃j:Nat,mx (cl Y 9) 94 % 3=(j:Int)/\j<3:=⟨(mx (cl Y 9) 94 % 3).toNat,by lia,by lia⟩
 obtain⟨D,hmo,hmo1,hmo2⟩:∃D:Int,atI [PyData.int ((FF z).length:Int),.int (((FF z).length:Int)+1),.int 400] (j:Int)=some (.int D)/\((FF z).length:Int)<=D/\D<1000:=by
  rcases (show j=0\/j=1\/j=2 by lia) with rfl | rfl | rfl
  .exact⟨_,M6 0 rfl rfl,by lia,by lia⟩
  .exact⟨_,M6 1 rfl rfl,by lia,by lia⟩
  .exact⟨_,M6 2 rfl rfl,by lia,by lia⟩
 refine B1 (K7 (d:=.int D) (F6 (ds:=[.int ((FF z).length:Int),.int (((FF z).length:Int)+1),.int 400]) (EF.e' (F5 (A3 ln (A3 (L9 (g:=λi j=>i+j) ln A8) (A3 A8 A7))))) (EI.to (e_i (H9 (A3 (cel 9 rfl) (A3 A8 A7)) ⟨cl Y 9,94,⟨by lia,by lia⟩,rfl,rfl⟩) A8 (by decide)) hj) rfl hmo) ?_)
 show W K _ [.val (lI Y),.val (.int (m:Int)),.val (.tuple (z.map tN)),.val (.list ((isL (FF z)).map aD)),.val (.int D),.no,.no,.no] _
 obtain⟨i,hi,hi2⟩:∃i:Nat,mx (cl Y 10) 98 % 2=(i:Int)/\i<2:=⟨(mx (cl Y 10) 98 % 2).toNat,by lia,by lia⟩
 obtain⟨F,hfe,hfe1⟩:∃F:Int,atI [PyData.int (((FF z).length:Int)-1),.int 1] (i:Int)=some (.int F)/\(1<(FF z).length->1<=F/\F<((FF z).length:Int)):=by
  rcases (show i=0\/i=1 by lia) with rfl | rfl
  .exact⟨_,M6 0 rfl rfl,by lia⟩
  .exact⟨_,M6 1 rfl rfl,by lia⟩
 refine B1 (K7 (d:=.int F) (F6 (ds:=[.int (((FF z).length:Int)-1),.int 1]) (EF.e' (F5 (A3 (L9 (g:=λi j=>i-j) ln A8) (A3 A8 A7)))) (EI.to (e_i (H9 (A3 (cel 10 rfl) (A3 A8 A7)) ⟨cl Y 10,98,⟨by lia,by lia⟩,rfl,rfl⟩) A8 (by decide)) hi) rfl hfe) ?_)
 show W K _ [.val (lI Y),.val (.int (m:Int)),.val (.tuple (z.map tN)),.val (.list ((isL (FF z)).map aD)),.val (.int D),.val (.int F),.no,.no] _
 refine B1 (aJ7 (b:=decide ((1:Int)<((FF z).length:Int))&&false) (cF7 (J8 (y7 (g:=λi j=>decide (j<i)) ln A8)) λhc=>?_) (λh=>by simp at h) (λ_=>O7 ?_))
 .have hc:=As hc
  obtain⟨f1,f2⟩:=hfe1 (by lia)
  exact aL8 (a:=true) (t_b (H9 (pre:=cL3) (X:=E0) (A3 (A4 (i:=2) rfl) (A3 (A4 (i:=5) rfl) A7)) ⟨m,z,tr,F,dw,hm5,f1,f2,rfl,rfl⟩))
 refine B1 (U7 (T3 (j:=2) (A3 A8 A7) (by lia) (by lia)) (λ_ ρ=>∃x6 x7,(x6.nb=true/\x7.nb=true)/\ρ=[.val (lI Y),.val (.int (m:Int)),.val (.tuple (z.map tN)),.val (.list ((isL (FF z)).map aD)),.val (.int D),.val (.int F),x6,x7]) ⟨.no,.no,⟨rfl,rfl⟩,rfl⟩ ?_ ?_)
 .rintro t d _ ht ⟨x6,x7,⟨b6,b7⟩,rfl⟩;obtain⟨rfl,_⟩:=T0 ht;refine⟨_,C8,?_⟩;refine B1 (G3 (ds:=(isL (FF z)).map aD) (cA0 (preL:=cZ9) (preX:=cZ8 a.D7) (EX:=E0) (A3 (A4 (i:=2) rfl) (A3 (A4 (i:=4) rfl) A7)) ⟨m,z,tr,D,dw,hm5,by lia,hmo2,hmo1,rfl,rfl⟩) ?_ (show 7<8 by decide))
  show W K _ [.val (lI Y),.val (.int (m:Int)),.val (.tuple (z.map tN)),.val (.list ((isL (FF z)).map aD)),.val (.int D),.val (.int F),.val (.int (t:Int)),.own ((isL (FF z)).map aD)] _
  have n2:=dP3 (K:=K) (m:=false) (ρ:=[.val (lI Y),.val (.int (m:Int)),.val (.tuple (z.map tN)),.val (.list ((isL (FF z)).map aD)),.val (.int D),.val (.int F),.val (.int (t:Int)),.own ((isL (FF z)).map aD)]) (G7 (i:=7) rfl) (A4 (i:=3) rfl) (aN4 _) (aN4 _)
  rw[PySem.SeqAt.eqv_refl _ (aN4 (isL (FF z))).1]at n2;refine B1 (aJ7 (b := !true || !true) (dH3 (aL8 (t_b (bK9 (T := "list") (d:=.list ((isL (FF z)).map aD)) (G7 (i:=7) rfl)))) λ_=>J8 n2) (λh=>by cases h) (λ_=>O7 ?_))
  have cw:=K5 (K:=K) (m:=false) (ρ:=[.val (lI Y),.val (.int (m:Int)),.val (.tuple (z.map tN)),.val (.list ((isL (FF z)).map aD)),.val (.int D),.val (.int F),.val (.int (t:Int)),.own ((isL (FF z)).map aD)]) (n:=1) (is:=[]) (g:=G5 0) (tt:=aE1) (te:=_) (λ_=>some (.bool true)) (W9 (ds:=(isL (FF z)).map aD) (G7 (i:=7) rfl)) (by rw[hlen];unfold sizeLine;lia) (λd hd=>by
   obtain⟨A,hA,rfl⟩:=Aa8.mp hd
   have:=hAl A hA
   exact⟨_,C8,Z1,cL4 (a:=true) (b:=true) (bK9 (T := "tuple") (d:=aD A) (Y1 (i:=0) rfl)) λ_=>H9 (pre:=dA4) (X:=E0) (A3 (LV.E.imm (m:=false) (Y1 (i:=0) rfl) (aP8 A)) (A3 A8 A7)) ⟨A,by lia,rfl,rfl⟩⟩)
  rw[show((isL (FF z)).map aD).filterMap (λ_=>some (PyData.bool true))=((isL (FF z)).map λ_=>true).map PyData.bool by
   rw[Aw,Ae3];exact(K3 (g:=some ∘ λ_=>PyData.bool true) λx _=>rfl).trans (by rw[Dc];rfl)]at cw
  have hal:((isL (FF z)).map λ_=>true).all id=true:=by simp
  refine B1 (aJ7 (b := !(((isL (FF z)).map λ_=>true).all id)) (aL8 (t_b (bU7 (l:=(isL (FF z)).map λ_=>true) (A3 (EF.e' cw) A7)))) (λh=>by rw[hal]at h;cases h) (λ_=>O7 ?_))
  refine Q8 (d:=.tuple []) rfl (M3 A7) (by rw[hlen];unfold sizeLine;lia) ⟨_,_,⟨rfl,rfl⟩,rfl⟩
 .rintro _ ⟨x6,x7,⟨b6,b7⟩,rfl⟩;refine S3 (dQ7 (a:=decide (((FF z).length:Int)<2)) (b:=true) (y7 (g:=λi j=>decide (i<j)) ln A8) λhc=>?_) (by simp)
  have hc:=Ay hc
  exact H9 (pre:=cL3) (X:=E0) (A3 (A4 (i:=2) rfl) (A3 (L9 (g:=λi j=>i-j) ln A8) A7)) ⟨m,z,tr,((FF z).length:Int)-1,dw,hm5,by lia,by lia,rfl,rfl⟩
end
theorem fin_of {l:PySem.W.OpenLaw}{w:World}{fa f:Addr}{K:Frag}{mg:Str->Option Value}(y:mg "law" = some (.ref fa))(h:∃a:Ad,Tx K mg a/\a.bH1=f/\∀(s:Shared) (v:Value),BindsTo s a.aX5 ⟨[v],[]⟩ [("_law_script",v)])
  : ∃fd:FuncData,(∀(s:Shared) (v:Value),BindsTo s fd ⟨[v],[]⟩ [("_law_script",v)])/\∀base:Heap,K.In base->base.Ns mainGlobals mg->E9 l.prog w K mg base CX0 7 fa fd ["_law_script"] (bU2 K):=by
 obtain⟨a,T,r,z⟩:=h;have e:=y.symm.trans T.dP6;cases e;exact⟨a.aX5,z,λbase _ _=>dH5 T⟩
theorem walk {l:PySem.W.OpenLaw}{q:Program}{loose:AJ}{XP:(Str->Option Value)->Heap->Prop}{YP:World->Heap->Prop}{d:DefRec}{K:Params->Frag}(c:l.most=some 63)(e:d.params.defaults=[])
  (r:∀(w:World) (h:Heap),YP w h->(K w.params).In h)
  (F:∀(w:World) (mg:Str->Option Value) (fa:Addr) (h:Heap),(K w.params).In h->h.Ns mainGlobals mg->mg d.name=some (.ref fa) ->
   ∃fd:FuncData,(∀(s:Shared) (u:Value),BindsTo s fd ⟨[u],[]⟩ [("_law_script",u)])/\∀base:Heap,(K w.params).In base->base.Ns mainGlobals mg->E9 l.prog w (K w.params) mg base CX0 7 fa fd ["_law_script"] (bU2 (K w.params))) :
  PySem.W.WalkO q loose XP YP l.row.toRowW d [] (λf vs=>PySem.call f vs):=
 L2.cW6 (n:=63) (k:=7) (x := "_law_script") (CX:=λ_=>CX0) (sp:=λw=>bU2 (K w.params)) c (by decide) e ⟨rfl,by decide,by decide⟩ r F (λ_ _ a p j _ y=>⟨a,p,rfl,y,j,λ_=>rfl⟩) λ_ _ _ _ _ z=>z
end K40
namespace PySem.W.Fast
def tw8611880874417042099:=0
def tw9170189349985286549:=0
def tw18012138495153812545:=0
def tw8588000150465122032:=0
def tw6847867457379617042:=0
def tw7879754769079186680:=0
def tw17039314380880282867:=0
def tw14295652062360491059:=0
def tw5089535170690339487:=0
def tw4569855915046537244:=0
def tw5928091880207953724:=0
def tw3159851748834508096:=0
def tw5621066136358633412:=0
def tw15255943986237180942:=0
def tw3467590210173179663:=0
def tw10622447854073963924:=0
def tw14103732026664810434:=0
def tw7680556169640965636:=0
def tw18185178513163355528:=0
def tw2960217048020832752:=0
def tw13066552671733735233:=0
def tw9450710478737456893:=0
def tw7258721088647445320:=0
def tw5954601836051292928:=0
def tw649802835468119646:=0
def tw9223042534720134272:=0
def tw13451563975299374679:=0
def tw13140859177746868750:=0
def tw1854585696101027849:=0
def tw945659808049125779:=0
def tw13911147534989462910:=0
def tw11731188924999579840:=0
def tw484452173625468317:=0
def tw13867124685332100372:=0
def tw5558739504087433538:=0
def tw3451318513164151119:=0
def tw1366593132553046929:=0
def tw8974014099302314548:=0
def tw3341708768418714754:=0
def tw14738158173932916856:=0
def tw9827814229015145552:=0
def tw8552289142598865900:=0
def tw15212796047561048212:=0
def tw17317807524742393241:=0
def tw12850179961206454383:=0
def tw1681645836894098382:=0
def tw4425404960719604379:=0
def tw4665220169446407255:=0
def tw1989320098622970622:=0
def tw956628264920901586:=0
def tw12729097524390673226:=0
def tw277272899706013332:=0
def tw17963112034414400158:=0
def tw3901720910620736826:=0
def tw3060892315610953960:=0
def tw11211990907456741965:=0
def tw13526561630792727444:=0
def tw3947833582142142989:=0
def tw18214552897912688224:=0
def tw9607882567188429173:=0
def tw13360117794416685146:=0
def tw12681614633829439264:=0
def tw15955951897829684649:=0
def tw7917119550561813696:=0
def tw8177100737625140434:=0
def tw12015024032006438798:=0
def tw14808973831326901379:=0
def tw10435130374776891733:=0
def tw1193240002019650853:=0
def tw14844987012506141528:=0
def tw8169456409958571193:=0
def tw3451469259212156524:=0
def tw13779761747484730345:=0
def tw12745333607265901393:=0
def tw18259392827887856049:=0
def tw1526259274752587852:=0
def tw1856183743994840855:=0
def tw13526321323869618761:=0
def tw17555849783052707364:=0
def tw2839627123576841797:=0
def tw13788047266148553902:=0
def tw15477547773454353967:=0
def tw5349038786179430553:=0
def tw5510986387097132565:=0
def tw907849930437958580:=0
def tw6462007736503478348:=0
def tw15996876372370333906:=0
def tw1359220440505901304:=0
def tw7133920769590138077:=0
def tw16479034369911552682:=0
def tw9247301091364762062:=0
def tw2843271323161744106:=0
def tw3932196322992440860:=0
def tw14395596042742589917:=0
def tw15433236618381132720:=0
def tw9057611320064239400:=0
def tw13360667169129207253:=0
def tw311318440918006104:=0
def tw14582954734657889026:=0
def tw3670862469999619291:=0
def tw827273590545182027:=0
def tw13460023723746424651:=0
def tw15943286448877055996:=0
def tw3528191051889133033:=0
def tw17776039831827443281:=0
def tw6915034560046246533:=0
def tw4220287389200246632:=0
def tw5937358918725618337:=0
def tw2279785978667283817:=0
def tw10953739246662770656:=0
def tw9400024285094331465:=0
def tw9978694062080717838:=0
def tw14949952183877210933:=0
def tw16469437077934125854:=0
def tw5835706899875575895:=0
def tw368412688971180887:=0
def tw4543610095315454452:=0
def tw3551481628101391069:=0
def tw9835484466696490977:=0
def tw2568823802619059641:=0
def tw13641721818730488315:=0
def tw14692761028824411905:=0
def tw18213575796369892627:=0
def tw16377052390645776929:=0
def tw10464793268316746417:=0
def tw18393296120646542772:=0
def tw6915530912944015365:=0
def tw1321607494901977683:=0
def tw8208230859142308919:=0
def tw7292417133046000257:=0
def tw12675351383057430063:=0
def tw5894289608719868539:=0
def tw2437212865101658451:=0
def tw9346869014865869796:=0
def tw15184644793823437223:=0
def tw3658177332178069989:=0
def tw11013120105033953458:=0
def tw15096739838163586593:=0
def tw17182667739202624963:=0
def tw5616633522484225088:=0
def tw15469269461110858232:=0
def tw6242131782688725328:=0
def tw1488822809884725246:=0
def tw12309445335648997361:=0
def tw18050067185770829088:=0
def tw1615587718225375615:=0
def tw13821528522543382515:=0
def tw5076412176826082024:=0
def tw16111476748009210302:=0
def tw8547523593307297870:=0
def tw9614886617281159807:=0
def tw2750388865992102989:=0
def tw15447582240413353812:=0
def tw9248959785100360294:=0
def tw4048569026113444366:=0
def tw16768032916785794142:=0
def tw4587687350622469883:=0
def tw16776225177713964037:=0
def tw7211631036565772536:=0
def tw2894538975672751992:=0
def tw6845473409047338873:=0
def tw6587249297250889217:=0
def tw7863145232527920737:=0
def tw12569802796889941249:=0
def tw7957107305402011582:=0
def tw16213995179962650181:=0
def tw704725849530448953:=0
def tw4004586799769608303:=0
def tw15138660360444577781:=0
def tw16788345583983296922:=0
def tw2863522547126352380:=0
def tw2176011674102301289:=0
def tw2435609203698367513:=0
def tw3771491152571890297:=0
def tw8565068038992289428:=0
def tw7598989744149089899:=0
def tw13140831988118331142:=0
def tw588276066889449215:=0
def tw2322691662005821490:=0
def tw9673864960835630130:=0
def tw1821347372665389933:=0
def tw11878435305817133455:=0
def tw14815079741839181378:=0
def tw15534577787113991158:=0
def tw4777214872880876417:=0
def tw9522612715568701846:=0
def tw13220614400230109533:=0
def tw6275438269460677186:=0
def tw204973154182625268:=0
def tw12987898053187090472:=0
def tw4028968314225985154:=0
def tw3737744392863045111:=0
def tw11075600009071371066:=0
def tw17110367511522584568:=0
def tw8018972208432746253:=0
def tw7931624181646163170:=0
def tw11464607724226110156:=0
def tw7235566663158621911:=0
def tw18418131815285154951:=0
def tw8558013593692910244:=0
end PySem.W.Fast
open PySem PySem.W PyProof.Rows
set_option maxRecDepth 100000 in
set_option maxHeartbeats 0 in
theorem PySem.Challenge.cw_threetrees_k40_all_arrows_holds : PySem.Challenge.rw_threetrees_k40_all_arrows.Holds := by
 w_on;o_law;k_head;(case hw=>w_witness2)
 k_fill
 refine K40.walk (l:=PySem.Challenge.rw_threetrees_k40_all_arrows) rfl rfl (λw h Y=>PySem.W.kIn_of Y) ?F
 case F=>
  intro w mg fa h KX G hmg;refine' K40.fin_of hmg (K40.tx_mk KX G ⟨_,L2.J0 _ _ _⟩ ⟨_,L2.J0 _ _ _⟩ ⟨_,L2.J0 _ _ _⟩ ⟨_,L2.J0 _ _ _⟩ ⟨_,L2.J0 _ _ _⟩ ⟨_,L2.J0 _ _ _⟩ ⟨_,L2.J0 _ _ _⟩ ⟨_,L2.J0 _ _ _⟩ ⟨_,L2.J0 _ _ _⟩ ⟨_,L2.J0 _ _ _⟩ ⟨_,L2.J0 _ _ _⟩ ⟨_,L2.J0 _ _ _⟩ ⟨_,L2.J0 _ _ _⟩ ⟨_,L2.J0 _ _ _⟩ ⟨_,L2.J0 _ _ _⟩ ⟨_,L2.J0 _ _ _⟩ ⟨_,L2.J0 _ _ _⟩ ⟨_,L2.J0 _ _ _⟩ ⟨_,L2.J0 _ _ _⟩ ⟨_,L2.J0 _ _ _⟩ ⟨_,L2.J0 _ _ _⟩ ⟨_,L2.J0 _ _ _⟩ ⟨_,L2.J0 _ _ _⟩ ⟨_,L2.J0 _ _ _⟩ _ _ _ _ _ _ _ _ _ _ _ _ _ _ _ (K40.ex_mk _ _ _) (K40.ex_mk _ _ _) (K40.ex_mk _ _ _) (K40.ex_mk _ _ _) (K40.ex_mk _ _ _) (K40.ex_mk _ _ _) (K40.ex_mk _ _ _) (K40.ex_mk _ _ _) (K40.ex_mk _ _ _) (K40.ex_mk _ _ _) (K40.ex_mk _ _ _) (K40.ex_mk _ _ _) (K40.ex_mk _ _ _) _ _ _ _ _ _ _ _ ⟨_,_,_,_,_⟩ (K40.sb_mk _))
  any_goals first | k_is | k_exc | kernel_rfl
